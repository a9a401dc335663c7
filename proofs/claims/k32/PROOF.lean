import PyProof.Rows.All
import Wide.All
import OpenK.AllK
import Wide.FinOn
import Lean
import PyProof.EqAt
import PyProof.EqKinds
import PyProof.TupleCall
import PySem.Challenge.RW_namepaths_k32_behind_dots
set_option Elab.async false
set_option linter.all false
set_option maxRecDepth 100000
set_option compiler.extract_closed false
set_option maxHeartbeats 1000000
noncomputable section
local macro_rules|`(def $n $s:optDeclSig $v:declVal)=>`(noncomputable def $n $s:optDeclSig $v:declVal)
abbrev Aj:=PySem.W.Frag
def An:=@List.length_map
def AM:=@List.getElem?_eq_getElem
def AY:=@List.length_append
def Bh:=@List.map_append
def Bi:=@List.getElem?_eq_some_iff
def BI:=@List.mem_append
def Bf:=@List.getElem?_map
def Bq:=@List.mem_of_getElem?
def AN:=@List.mem_map
def AX:=@List.mem_singleton
def Cq:=@List.size_toArray
def BS:=@List.mem_cons_self
def BB:=@List.mem_cons
def DI:=@List.mem_append_right
def Do:=@List.map_cons
def Du:=@List.mem_cons_of_mem
def Dv:=@List.getD_eq_getElem?_getD
def En:=@List.take_succ
def Dw:=@List.take_length
def Ez:=@List.getElem?_append_left
def FM:=@List.length_singleton
def Eo:=@List.getElem_mem
def Dx:=@List.length_take
def D1:=@List.map_map
def Ep:=@List.getElem?_append_right
def D6:=@List.take_zero
def GG:=@List.mem_append_left
def CV:=@List.length_cons
def Fh:=@List.nodup_cons
def Er:=@List.length_set
def Fv:=@List.append_assoc
def Qr:=@List.length_drop
def OJ:=@List.mem_iff_getElem
def DR:=@List.append_nil
def Mj:=@List.lookup_cons
def GH:=@List.getElem?_eq_none
def Mk:=@List.mem_filter
def Ml:=@List.drop_eq_getElem_cons
def KA:=@List.filter_cons
def GI:=@List.length_nil
def Mm:=@List.map_nil
def Qs:=@List.map_take
def Mn:=@List.prefix_append
def KC:=@List.any_eq_true
def Mo:=@List.find?_cons
def M1:=@List.filter_append
def M4:=@List.foldl_append
def OK:=@List.length_filter_le
def E5:=@Option.map_eq_some_iff
def AK:=@Nat.le_refl
def GU:=@Nat.lt_irrefl
def CT:=@Nat.le_of_lt
def Ch:=@Nat.ne_of_lt
def Qt:=@Nat.lt_succ_self
def Dp:=@Nat.zero_le
def Fi:=@Int.emod_lt_of_pos
def Et:=@Int.emod_nonneg
def DJ:=@Int.eq_ofNat_of_zero_le
def BF:=@Int.toNat_natCast
def A5:=@decide_eq_true
def DS:=@decide_eq_false
def Bd:=@of_decide_eq_true
def E6:=@PySem.F.plainAttrs_list
def Gi:=@PySem.F.slot_list_append
def Gj:=@PySem.F.type_list_append
def Ce:=@Bool.false_ne_true
def Tr:=@Nat.le_of_ble_eq_true
def BU:=@Option.some.inj
def Ag:=@if_neg
def Ap:=@if_pos
def Fj:=@Nat.lt_of_lt_of_le
def Ea:=@Nat.le_trans
def Fk:=@Bool.false_eq_true
def Qv:=@List.filterMap_cons
def By:=@congrArg
section
open PySem PySem.Spec PyProof.Rows
def o8:=@List.getElem?_set_self
def o7:=@List.any_eq_false
def o6:=@Around.under_plainId
def o5:=@Nat.lt_or_ge
def o4:=@Heap.SameBut.update
def o2:=@Heap.get?_update_self
def n9:=@List.ext_getElem?
def n8:=@List.getElem?_set_ne
def n7:=@Heap.size_push
def n5:=@Array.getD_eq_getD_getElem?
def m8:=@Classical.byContradiction
def m7:=@List.getElem?_range
def m6:=@List.length_replicate
def m5:=@List.length_range
def j':=@Or.inr
def j9:=@Or.inl
def Ae:=@wpAny_bind
def Ay:=@wpAny_pure
def Fl:=@wpAny_holding
def FN:=@wpAny_truthy_bool
def Ba:=@Heap.get?_push_of_some
def Bg:=@Heap.lt_size
def Cb:=@Heap.get?_push_size
def C0:=@PassesOwn.never
def FO:=@PySem.W.mg_none_of
def FX:=@PySem.mem_of_lookup
def OL:=@wpAny_typeOf
def Fw:=@wpAny_mono
def F8:=@wpAny_seqItems
def H0:=@wpAny_rule
end
noncomputable section
noncomputable def PySem.W.Fast.tw933000710778490353:PySem.Program:=PySem.Challenge.pw_namepaths_k32_behind_dots
theorem PySem.W.Fast.te933000710778490353:PySem.Challenge.pw_namepaths_k32_behind_dots=PySem.W.Fast.tw933000710778490353:=rfl
namespace L2
open PySem PySem.Spec PyProof.Rows
noncomputable def JR (s:Stmt):Arguments:=match s with
 |.FunctionDef _ a _ _ _ _ _ _ _ _=>a
 |_=>{posonlyargs:=[],args:=[],vararg:=none,kwonlyargs:=[],kw_defaults:=[],kwarg:=none,defaults:=[]}
noncomputable def H1 (s:Stmt):List Stmt:=match s with
 |.FunctionDef _ _ b _ _ _ _ _ _ _=>b
 |_=>[]
noncomputable def A0 (s:Stmt):Scope:=match s with
 |.FunctionDef _ _ _ _ _ _ sc _ _ _=>sc
 |_=>{kind:=.function,names:=[],isGenerator:=false,isCoroutine:=false}
section
open PySem.W PySem.W.Fast
noncomputable def Gk (p:Program) (w:World) (N:Nat):Option Shared:=((tw10274390034422433532 tw14364793385576792824 (opening p) w N (PySem.start (opening p)).1 (PySem.start (opening p)).2).bind (tw14289696077712309145 p)).bind λs₀ =>
 match s₀.heap.isNs mainGlobals && s₀.gens.size==0 with
 |true=>(tw14082659384304107361 tw14364793385576792824 p w s₀.heap.objs.size (s₀.heap.nsMap mainGlobals "__annotations__") N s₀ (topStub p)).bind λs₁=>match staticsOk (tw5923862056798008813 p.main.body) s₀.heap s₁.heap && namesBound p s₁.heap && gensDone s₁ && laidKept s₀.heap s₁.heap with
   |true=>some s₁
   |false=>none
 |false=>none
def Ip{p q:Program}{loose:List Str}{Xt:Shared->Bool}{α:Type}{Yf:Shared->α}{Ya:World->α}{N:Nat}
 (A:∀w:World,Option.map (λs=>tw4187177175401517315 q loose (tw5923862056798008813 p.main.body) Xt true s) (Gk p w N)=some (openGood q loose))
 (B:∀w:World,Option.map Yf (Gk p w N)=some (Ya w)):LeftO p q loose Xt Yf Ya N:=by
 intro w;have a:=A w;have b:=B w
 have h:Option.map (λs=>(tw4187177175401517315 q loose (tw5923862056798008813 p.main.body) Xt true s,Yf s)) (Gk p w N)=some (openGood q loose,Ya w):=by
  cases e:Gk p w N with|none=>rw[e] at a;cases a|some s=>rw[e] at a b;simp only[Option.map_some] at a b ⊢;rw[BU a,BU b]
 unfold Gk at h;rw[<-te14082659384304107361,<-te10274390034422433532,<-te14364793385576792824,<-te4187177175401517315,<-te5923862056798008813,<-te14289696077712309145] at h;exact h
end
end L2
namespace K32
open PySem PySem.Spec PyProof.Rows PySem.W L2
noncomputable def top (i:Nat):Stmt:=PySem.Challenge.pw_namepaths_k32_behind_dots.main.body.getD i (.Pass ⟨0,0,0,0⟩)
abbrev Qw:Stmt:=top 46
abbrev Qx:Stmt:=top 45
abbrev Qy:Stmt:=top 47
abbrev Qz:Stmt:=top 50
abbrev QA:Stmt:=top 48
abbrev QB:Stmt:=top 49
abbrev OM:Stmt:=top 51
abbrev Iq:Stmt:=top 52
abbrev ON:Stmt:=top 54
abbrev QC:Stmt:=top 55
abbrev QD:Stmt:=top 56
abbrev QE:Stmt:=top 11
abbrev QF:Stmt:=top 3
abbrev QG:Stmt:=top 1
abbrev QH:Stmt:=top 2
abbrev QI:Stmt:=top 19
abbrev OO:Stmt:=top 18
abbrev QJ:Stmt:=top 15
abbrev QK:Stmt:=top 12
abbrev QL:Stmt:=top 16
abbrev OP:Stmt:=top 22
abbrev QM:Stmt:=top 23
abbrev QN:Stmt:=top 8
abbrev QO:Stmt:=top 24
abbrev OQ:Stmt:=top 21
abbrev QP:Stmt:=top 27
abbrev QQ:Stmt:=top 29
abbrev QR:Stmt:=top 9
abbrev QS:Stmt:=top 30
abbrev QU:Stmt:=top 31
abbrev Mp:Stmt:=top 28
abbrev QV:Stmt:=top 17
abbrev QW:Stmt:=top 26
abbrev QX:Stmt:=top 33
abbrev M5:Stmt:=top 53
abbrev OR:Stmt:=top 34
abbrev QY:Stmt:=top 38
abbrev QZ:Stmt:=top 36
abbrev Q0:Stmt:=top 43
abbrev Q1:Stmt:=top 42
abbrev Q2:Stmt:=top 40
abbrev Q3:Stmt:=top 41
abbrev Q4:Stmt:=top 39
abbrev Q5:Stmt:=top 37
abbrev JS:Stmt:=top 57
noncomputable def own:Stmt->Bool
 |.Assign [.Name x _] _ _=>x != "__name__"
 |_=>true
noncomputable def view:Program:={PySem.Challenge.pw_namepaths_k32_behind_dots with main:={PySem.Challenge.pw_namepaths_k32_behind_dots.main with body:=PySem.Challenge.pw_namepaths_k32_behind_dots.main.body.filter own}}
noncomputable abbrev Fx (K:Frag) (x:Str) (st:Stmt):Prop:=∃(f:Addr)(oc:Value)(od an:Option Addr)(osl:Array (Option Value))(kV doc pm cdv ct:Value),nsIn K mainGlobals x=some (some (.ref f))/\K.lookup f=some ⟨oc,od,.func (fnOf x x (JR st) (H1 st) (A0 st) .none kV doc pm an cdv ct),osl⟩/\codeIn K cdv x=true/\keepIn K (.ref f)=true
def AA{K:Frag}{x:Str}{st:Stmt}{f:Addr}{d:Value}{e g:Option Addr}{i:Array (Option Value)}{kV j h b ct:Value}(a:nsIn K mainGlobals x=some (some (.ref f)))(l:K.lookup f=some ⟨d,e,.func (fnOf x x (JR st) (H1 st) (A0 st) .none kV j h g b ct),i⟩)(c:codeIn K b x=true)(k:keepIn K (.ref f)=true):Fx K x st:=⟨f,d,e,g,i,kV,j,h,b,ct,a,l,c,k⟩
def Q6{K:Frag}{x:Str}{v:Int}{t:Tok}(h:nsIn K mainGlobals x=some (some (.int v t))):∃t,nsIn K mainGlobals x=some (some (.int v t)):=⟨t,h⟩
structure JT (K:Frag):Prop where
 q0:Fx K "_law_names" Qw
 q1:Fx K "_law_cell_at" Qx
 q2:Fx K "_law_ranks" Qy
 q3:Fx K "_law_laid" Qz
 q4:Fx K "_law_sorts" QA
 q5:Fx K "_law_level" QB
 q6:Fx K "_law_others" OM
 q7:Fx K "_law_made" Iq
 q8:Fx K "_law_marks" ON
 q9:Fx K "_law_end" QC
 q10:Fx K "_law_due" QD
 q11:Fx K "next_state" QE
 q12:Fx K "inside_of_sort" QF
 q13:Fx K "inside" QG
 q14:Fx K "goal" QH
 q15:Fx K "steps_gone" QI
 q16:Fx K "longer_by_a_step" OO
 q17:Fx K "beginnings" QJ
 q18:Fx K "has_end" QK
 q19:Fx K "found_behind" QL
 q20:Fx K "better_pairs" OP
 q21:Fx K "tree_of" QM
 q22:Fx K "label_at" QN
 q23:Fx K "first_hider" QO
 q24:Fx K "seen_ways" OQ
 q25:Fx K "look_for" QP
 q26:Fx K "first_owed" QQ
 q27:Fx K "telling_at" QR
 q28:Fx K "first_open" QS
 q29:Fx K "meaning" QU
 q30:Fx K "met" Mp
 q31:Fx K "owed_behind" QV
 q32:Fx K "look_up" QW
 q33:Fx K "find" QX
 q34:Fx K "_law_same" M5
 q35:Fx K "trail" OR
 q36:Fx K "scopes_of" QY
 q37:Fx K "walked" QZ
 q38:Fx K "of_sort" Q0
 q39:Fx K "of_answer" Q1
 q40:Fx K "of_steps" Q2
 q41:Fx K "of_tellings" Q3
 q42:Fx K "questions_of" Q4
 q43:Fx K "used" Q5
 q44:Fx K "law" JS
 z_all:nsIn K mainGlobals "all" = some none
 z_any:nsIn K mainGlobals "any" = some none
 z_bool:nsIn K mainGlobals "bool" = some none
 z_dict:nsIn K mainGlobals "dict" = some none
 z_enumerate:nsIn K mainGlobals "enumerate" = some none
 z_int:nsIn K mainGlobals "int" = some none
 z_isinstance:nsIn K mainGlobals "isinstance" = some none
 z_len:nsIn K mainGlobals "len" = some none
 z_list:nsIn K mainGlobals "list" = some none
 z_min:nsIn K mainGlobals "min" = some none
 z_range:nsIn K mainGlobals "range" = some none
 z_set:nsIn K mainGlobals "set" = some none
 z_sorted:nsIn K mainGlobals "sorted" = some none
 z_str:nsIn K mainGlobals "str" = some none
 z_tuple:nsIn K mainGlobals "tuple" = some none
 z_zip:nsIn K mainGlobals "zip" = some none
 y_MOST_BEGINNINGS:∃t,nsIn K mainGlobals "MOST_BEGINNINGS" = some (some (.int 200 t))
theorem GV(w:World):Option.map (λs=>Fast.tw4187177175401517315 view [] (Fast.tw5923862056798008813 PySem.Challenge.pw_namepaths_k32_behind_dots.main.body) (λs=>xlAt view [] s && recOk [] s) true s) (Gk PySem.Challenge.pw_namepaths_k32_behind_dots w 40000)=some (openGood view []):=by kernel_rfl
end K32
abbrev A' := List (PySem.Str × PySem.Str)
abbrev B' := List (PySem.Addr × PySem.Obj)
abbrev C' := Option (PySem.Str × Int)
abbrev D' := PySem.Value → PySem.Shared → Prop
local macro_rules | `(tactic| lia) => `(tactic| omega)
local macro_rules | `(tactic| cbv) => `(tactic| try dsimp only)
abbrev f':PySem.Str:="thing"
abbrev i0:PySem.Str:="told"
abbrev i3:PySem.Str:="to"
abbrev i4:PySem.Str:="no"
abbrev i6:PySem.Str:="by"
abbrev i7:PySem.Str:="open"
abbrev i8:PySem.Str:="part"
abbrev i9:PySem.Str:="sort"
abbrev j0:PySem.Str:="step"
abbrev j1:PySem.Str:="__debug__"
abbrev j2:PySem.Str:="none"
abbrev j3:PySem.Str:="plain"
abbrev j6:PySem.Str:="torn"
abbrev j7:PySem.Str:="wait"
abbrev j8:PySem.Str:="abcdefghijklmnopqrstuvwxyz"
abbrev E':=List Int
abbrev F':=List PySem.Value
abbrev G':=List PySem.Addr
abbrev I':=List PySem.Str
abbrev J':=List (PySem.Str × Int)
abbrev K':=Option PySem.Value
abbrev L':=Option Int
abbrev M':=Array PySem.Value
abbrev O':=List PySem.Expr
abbrev P':=List Nat
abbrev R':=Array Nat
set_option tactic.hygienic false
section
open PySem PySem.W PyProof.Rows
local macro_rules | `(tactic| o_head $H:term) => `(tactic| refine holds_open (q := K32.view) (loose := []) (Xt := fun s => xlAt K32.view [] s && recOk [] s) (XP := XL K32.view []) (Yf := Hook.obs $H) (Ya := Hook.val $H) (YP := Hook.says $H) (N := 40000) ?hl (Hook.of $H) (Hook.keeps $H) (fun s e => xl_of s (Bool.and_eq_true_iff.mp e).1) XL.keeps (by rfl) (by rfl) (by rfl) (fun s e => recFacts_of (Bool.and_eq_true_iff.mp e).2) (by rfl) (by first | assumption | decide +kernel) (by decide +kernel) ⟨rfl, rfl, rfl, rfl, rfl, by decide +kernel⟩ ?hw ?hc)
set_option maxHeartbeats 0 in
theorem K32.hd(a:∀K:Params->Frag,(∀w:World,K32.JT (K w.params))->∀(YP:World->Heap->Prop)(d:DefRec),d.params.defaults=[]->d.name = "law" -> (∀(w:World)(h:Heap),YP w h->(K w.params).In h)->WalkO K32.view [] (XL K32.view []) YP PySem.Challenge.rw_namepaths_k32_behind_dots.row.toRowW d [] (λf vs=>PySem.call f vs)):PySem.Challenge.rw_namepaths_k32_behind_dots.Holds:=by
 w_on;o_law;k_head
 case hl =>
  refine L2.Ip K32.GV λw=>?_
  kernel_rfl
 case hw=>w_witness2
 k_fill
 refine a _ (λw=>?fx) _ _ rfl rfl (λw h Y=>PySem.W.kIn_of Y)
 case fx =>
  refine' ⟨K32.AA ?a0 ?l0 ?c0 ?k0,K32.AA ?a1 ?l1 ?c1 ?k1,K32.AA ?a2 ?l2 ?c2 ?k2,K32.AA ?a3 ?l3 ?c3 ?k3,K32.AA ?a4 ?l4 ?c4 ?k4,K32.AA ?a5 ?l5 ?c5 ?k5,K32.AA ?a6 ?l6 ?c6 ?k6,K32.AA ?a7 ?l7 ?c7 ?k7,K32.AA ?a8 ?l8 ?c8 ?k8,K32.AA ?a9 ?l9 ?c9 ?k9,K32.AA ?a10 ?l10 ?c10 ?k10,K32.AA ?a11 ?l11 ?c11 ?k11,K32.AA ?a12 ?l12 ?c12 ?k12,K32.AA ?a13 ?l13 ?c13 ?k13,K32.AA ?a14 ?l14 ?c14 ?k14,K32.AA ?a15 ?l15 ?c15 ?k15,K32.AA ?a16 ?l16 ?c16 ?k16,K32.AA ?a17 ?l17 ?c17 ?k17,K32.AA ?a18 ?l18 ?c18 ?k18,K32.AA ?a19 ?l19 ?c19 ?k19,K32.AA ?a20 ?l20 ?c20 ?k20,K32.AA ?a21 ?l21 ?c21 ?k21,K32.AA ?a22 ?l22 ?c22 ?k22,K32.AA ?a23 ?l23 ?c23 ?k23,K32.AA ?a24 ?l24 ?c24 ?k24,K32.AA ?a25 ?l25 ?c25 ?k25,K32.AA ?a26 ?l26 ?c26 ?k26,K32.AA ?a27 ?l27 ?c27 ?k27,K32.AA ?a28 ?l28 ?c28 ?k28,K32.AA ?a29 ?l29 ?c29 ?k29,K32.AA ?a30 ?l30 ?c30 ?k30,K32.AA ?a31 ?l31 ?c31 ?k31,K32.AA ?a32 ?l32 ?c32 ?k32,K32.AA ?a33 ?l33 ?c33 ?k33,K32.AA ?a34 ?l34 ?c34 ?k34,K32.AA ?a35 ?l35 ?c35 ?k35,K32.AA ?a36 ?l36 ?c36 ?k36,K32.AA ?a37 ?l37 ?c37 ?k37,K32.AA ?a38 ?l38 ?c38 ?k38,K32.AA ?a39 ?l39 ?c39 ?k39,K32.AA ?a40 ?l40 ?c40 ?k40,K32.AA ?a41 ?l41 ?c41 ?k41,K32.AA ?a42 ?l42 ?c42 ?k42,K32.AA ?a43 ?l43 ?c43 ?k43,K32.AA ?a44 ?l44 ?c44 ?k44,?z_all,?z_any,?z_bool,?z_dict,?z_enumerate,?z_int,?z_isinstance,?z_len,?z_list,?z_min,?z_range,?z_set,?z_sorted,?z_str,?z_tuple,?z_zip,K32.Q6 ?y_MOST_BEGINNINGS⟩
  case a0|l0|c0|k0|a1|l1|c1|k1|a2|l2|c2|k2|a3|l3|c3|k3|a4|l4|c4|k4|a5|l5|c5|k5|a6|l6|c6|k6|a7|l7|c7|k7|a8|l8|c8|k8|a9|l9|c9|k9|a10|l10|c10|k10|a11|l11|c11|k11|a12|l12|c12|k12|a13|l13|c13|k13|a14|l14|c14|k14|a15|l15|c15|k15|a16|l16|c16|k16|a17|l17|c17|k17|a18|l18|c18|k18|a19|l19|c19|k19|a20|l20|c20|k20|a21|l21|c21|k21|a22|l22|c22|k22|a23|l23|c23|k23|a24|l24|c24|k24|a25|l25|c25|k25|a26|l26|c26|k26|a27|l27|c27|k27|a28|l28|c28|k28|a29|l29|c29|k29|a30|l30|c30|k30|a31|l31|c31|k31|a32|l32|c32|k32|a33|l33|c33|k33|a34|l34|c34|k34|a35|l35|c35|k35|a36|l36|c36|k36|a37|l37|c37|k37|a38|l38|c38|k38|a39|l39|c39|k39|a40|l40|c40|k40|a41|l41|c41|k41|a42|l42|c42|k42|a43|l43|c43|k43|a44|l44|c44|k44|z_all|z_any|z_bool|z_dict|z_enumerate|z_int|z_isinstance|z_len|z_list|z_min|z_range|z_set|z_sorted|z_str|z_tuple|z_zip|y_MOST_BEGINNINGS=>k_is
end
set_option Elab.async false
set_option linter.all false
set_option maxRecDepth 100000
namespace L2
open PySem PySem.Spec PyProof.Rows
abbrev A3:=Sum Int Str
def KD:A3->Value->Bool
 |.inl k,v=>Value.isInt k v
 |.inr x,v=>Value.isStrOf x v
def Q7 (w:World):A3->Int
 |.inl k=>hashInt k
 |.inr x=>hashStr w x
theorem H2:∀{k:A3}{v:Value},KD k v=true->(∃i t,k=Sum.inl i/\v=Value.int i t)\/(∃x t,k=Sum.inr x/\v=Value.str x t)
 |.inl i,v,h=>by obtain⟨t,e⟩:=Value.isInt_shape (k:=i) (v:=v) h;exact .inl ⟨i,t,rfl,e⟩
 |.inr x,v,h=>by obtain⟨t,e⟩:=Value.isStrOf_shape (x:=x) (v:=v) h;exact .inr ⟨x,t,rfl,e⟩
def WC(i:Int)(t:Tok):KD (.inl i) (.int i t)=true:=by simp[KD,Value.isInt]
def WD(x:Str)(t:Tok):KD (.inr x) (.str x t)=true:=by simp[KD,Value.isStrOf]
def KE(a b:Int):decide ((Sum.inl a:A3)=Sum.inl b)=(a==b):=by by_cases e:a=b;subst e;simp;have h:¬(Sum.inl a:A3)=Sum.inl b:=λq=>e (Sum.inl.inj q);rw[DS h];exact(beq_eq_false_iff_ne.mpr e).symm
def KG(a b:Str):decide ((Sum.inr a:A3)=Sum.inr b)=decide (a=b):=by by_cases e:a=b;subst e;simp;have h:¬(Sum.inr a:A3)=Sum.inr b:=λq=>e (Sum.inr.inj q);rw[DS h,DS e]
def KH(a:Int)(b:Str):decide ((Sum.inl a:A3)=Sum.inr b)=false:=DS (λq=>nomatch q)
def KI(a:Str)(b:Int):decide ((Sum.inr a:A3)=Sum.inl b)=false:=DS (λq=>nomatch q)
def Eu (prog:Program) (w:World):PySem.KeyKind prog w A3 where
 is:=KD
 hash:=Q7 w
 inj:=λv a b ha hb=>by rcases H2 ha with⟨i,t,rfl,rfl⟩|⟨x,t,rfl,rfl⟩;rcases H2 hb with⟨j,u,rfl,e⟩|⟨y,u,rfl,e⟩;injection e with e1 _;rw[e1];exact nomatch e;rcases H2 hb with⟨j,u,rfl,e⟩|⟨y,u,rfl,e⟩;exact nomatch e;injection e with e1 _;rw[e1]
 byValue:=λk v h=>by rcases H2 h with⟨i,t,rfl,rfl⟩|⟨x,t,rfl,rfl⟩<;>rfl
 pyHash:=λhv h=>by rcases H2 hv with⟨i,t,rfl,rfl⟩|⟨x,t,rfl,rfl⟩;exact wpAny_pyHash_int h;exact wpAny_pyHash_str h
 eqBool:=λhu hv h=>by rcases H2 hu with⟨i,t,rfl,rfl⟩|⟨x,t,rfl,rfl⟩;rcases H2 hv with⟨j,u,rfl,rfl⟩|⟨y,u,rfl,rfl⟩;rw[KE] at h;exact wpAny_eqBool_int h;rw[KH] at h;exact SeqAt.EqAt.int_str i t y u _ _ _ _ h;rcases H2 hv with⟨j,u,rfl,rfl⟩|⟨y,u,rfl,rfl⟩;rw[KI] at h;exact SeqAt.EqAt.str_int x t j u _ _ _ _ h;rw[KG] at h;exact wpAny_eqBool_str h
 «strs»:=λk x t v h=>by rcases H2 h with⟨i,u,rfl,e⟩|⟨y,u,rfl,e⟩;exact nomatch e;injection e with e1 _;subst e1;cases v<;>rfl
def WE(prog:Program)(w:World)(i:Int)(t:Tok):(Eu prog w).is (.inl i) (.int i t)=true:=WC i t
def WF(prog:Program)(w:World)(x:Str)(t:Tok):(Eu prog w).is (.inr x) (.str x t)=true:=WD x t
inductive V where
 |non|bl (b:Bool)|int (i:Int)|str (x:Str)|byt (b:Array UInt8)|flt (b:UInt64)|ref (a:Addr)|ty (n:String)
 deriving DecidableEq
abbrev U':=Option V
abbrev S':=List V
def RelV:V->Value->Prop
 |.non,u=>u=Value.none
 |.bl b,u=>u=Value.bool b
 |.int i,u=>∃t,u=Value.int i t
 |.str x,u=>∃t,u=Value.str x t
 |.byt b,u=>∃t,u=Value.bytes b t
 |.flt b,u=>∃t,u=Value.float b t
 |.ref a,u=>u=Value.ref a
 |.ty n,u=>u=Value.type n
abbrev Aw:S'->F'->Prop:=Paired RelV
def Aw.length{xs:S'}{a:F'}(r:Aw xs a):xs.length=a.length:=Paired.length r
theorem Aw.get:∀{xs:S'}{a:F'}{i:Nat}{x:V},Aw xs a->xs[i]?=some x->∃u,a[i]?=some u/\RelV x u
 |_,_,_,_,.nil,e=>by simp at e
 |_,_,0,_,.cons r _,e=>by simp at e;subst e;exact⟨_,rfl,r⟩
 |_,_,i+1,x,.cons _ t,e=>by obtain⟨u,b,c⟩:=Aw.get (i:=i) (x:=x) t (by simpa using e);exact⟨u,by simpa using b,c⟩
theorem Aw.set{x:V}{u:Value}(r:RelV x u):∀{xs:S'}{a:F'}(i:Nat),Aw xs a->Aw (xs.set i x) (a.set i u)
 |_,_,_,.nil=>.nil
 |_,_,0,.cons _ t=>.cons r t
 |_,_,i+1,.cons q t=>.cons q (Aw.set r i t)
theorem Aw.append:∀{xs ys:S'}{a ws:F'},Aw xs a->Aw ys ws->Aw (xs++ys) (a++ws)
 |_,_,_,_,.nil,s=>s
 |_,_,_,_,.cons r t,s=>.cons r (Aw.append t s)
theorem Aw.take:∀{xs:S'}{a:F'}(n:Nat),Aw xs a->Aw (xs.take n) (a.take n)
 |_,_,0,_=>.nil
 |_,_,_+1,.nil=>.nil
 |_,_,n+1,.cons r t=>.cons r (Aw.take n t)
theorem Aw.drop:∀{xs:S'}{a:F'}(n:Nat),Aw xs a->Aw (xs.drop n) (a.drop n)
 |_,_,0,r=>r
 |_,_,_+1,.nil=>.nil
 |_,_,n+1,.cons _ t=>Aw.drop n t
def DT:U'->K'->Prop
 |some v,some u=>RelV v u
 |none,none=>True
 |_,_=>False
def KV {κ:Type}:List (κ×V)->List (κ×Value)->Prop:=Paired λ(p:κ×V)(q:κ×Value)=>p.1=q.1/\RelV p.2 q.2
def kV:A3->V
 |.inl i=>.int i
 |.inr x=>.str x
inductive HO where
 |lst (xs:S')
 |tup (xs:S')
 |dK (kvs:List (A3×V))|dT (kvs:List (List A3×V))
 |set (S:Int->Bool) (n:Nat)
 |ins (C dx:Addr) (fs:List (Str×V))
 |own (x:Addr)
 |xd (fs:List (Str×V))
 |met (f x:Addr)
 |rng (lo hi:Int)
 |frz (o:Obj) (u:HO)
 |tbl (ps:M')
 |ext (φ:Heap->Prop)
abbrev Hp:=Addr->Option HO
def upd (H:Hp) (a:Addr) (o:HO):Hp:=λb=>if b=a then some o else H b
variable {H:Hp}{a:Addr}{o:HO}
def Ab:upd H a o a=some o:=by unfold upd;rw[Ap rfl]
variable {b:Addr}
def AI(h:b≠a):upd H a o b=H b:=by unfold upd;rw[Ag h]
variable {u:HO}
def Ir:upd (upd H a o) a u=upd H a u:=by
 funext b;unfold upd;split<;>rfl
def Mq(h:H a=some o)(h':H b=some u)(d:o≠u):a≠b:=by intro e;subst e;rw[h] at h';exact d (BU h')
def Be(h:H a=some o)(h':H b=none):a≠b:=by intro e;subst e;rw[h] at h';cases h'
section
variable (P:Program) (w:World)
def AE (H:Hp) (h:Heap) (a:Addr):HO->Prop
 |.lst xs=>xs.length<=sizeLine/\∃(its:F')(n:Nat),Aw xs its/\h.get? a=some {cls:=.type "list",data:=.seq its.toArray n}
 |.tup xs=>xs.length<=sizeLine/\∃its:F',Aw xs its/\IsTup h a its.toArray
 |.dK kvs=>kvs.length<=sizeLine/\(a==sysModules)=false/\∃vs,KV kvs vs/\h.DictOf (Eu P w) a vs
 |.dT kvs=>kvs.length<=sizeLine/\(a==sysModules)=false/\∃xs:List (List A3×Addr×Value),
  Paired (λ(p:List A3×V)(q:List A3×Addr×Value)=>p.1=q.1/\H q.2.1=some (.tup (p.1.map kV))/\RelV p.2 q.2.2) kvs xs /\
  ∃o es ep,h.get? a=some o/\o.ExactDict/\o.data=.dict es ep/\es.toList=xs.map (entryOfKey (tupleKind (Eu P w)))/\(xs.map (·.1)).Nodup
 |.set S n=>h.SetOf (intKind P w) a S n
 |.ins C dx fs=>H dx=some (.own a)/\fs.length<=1000/\dx≠a/\h.get? a=some (PySem.W.instObj C dx) /\
  ∃mA,h.Ns1 dx mA/\(∀f,DT (fs.lookup f) (mA f))/\PySem.Within mA (fs.map (·.1))
 |.own _=>∃o,h.get? a=some o
 |.xd fs=>∃mA,h.Ns1 a mA/\∀f,DT (fs.lookup f) (mA f)
 |.rng lo hi=>∃t u v,h.get? a=some {cls:=.type "range",data:=.fields #[.int lo t,.int hi u,.int 1 v]}
 |.frz o u=>h.get? a=some o/\AE H h a u
 |.tbl ps=>h.get? a=some {cls:=.none,data:=.fields ps}
 |.met f x=>h.get? a=some (PySem.W.methodObj (.ref f) (.ref x))
 |.ext φ=>φ h/\(∃o,h.get? a=some o)/\∀h1 h2:Heap,φ h1->(∀o,h1.get? a=some o->h2.get? a=some o)->φ h2
def CD (H:Hp) (h:Heap):Prop:=∀a o,H a=some o->AE P w H h a o
end
section
variable {P:Program} {w:World} {H H':Hp} {h h':Heap} {a:Addr} {o:HO}
def AE.lt(x:AE P w H h a o):a<h.objs.size:=by
 cases o with|lst b=>obtain⟨_,_,_,_,e⟩:=x;exact Bg e|tup b=>obtain⟨_,_,_,p⟩:=x;exact p.lt|dK c=>obtain⟨_,_,_,_,o,_,_,e,_⟩:=x;exact Bg e|dT c=>obtain⟨_,_,_,_,o,_,_,e,_⟩:=x;exact Bg e|set S n=>obtain⟨o,_,_,_,e,_⟩:=x;exact Bg e|ins C d fs=>obtain⟨_,_,_,e,_⟩:=x;exact Bg e|own y=>obtain⟨_,e⟩:=x;exact Bg e|xd fs=>obtain⟨_,⟨_,_,_,e,_⟩,_⟩:=x;exact Bg e|rng lo g=>obtain⟨_,_,_,e⟩:=x;exact Bg e|frz i u=>obtain⟨e,_⟩:=x;exact Bg e|tbl j=>exact Bg (show h.get? a=some _ from x)|met f y=>exact Bg (show h.get? a=some _ from x)|ext φ=>obtain⟨_,⟨_,e⟩,_⟩:=x;exact Bg e
theorem Paired.mapP{α β:Type}{F G:α->β->Prop}:∀{c:List α}{l₂:List β},Paired F c l₂->(∀a b,F a b->G a b)->Paired G c l₂
 |_,_,.nil,_=>.nil
 |_,_,.cons r t,f=>.cons (f _ _ r) (Paired.mapP t f)
def AE.stay(x:AE P w H h a o)(k:∀b u,(b=a\/H b=some (.own a))->h.get? b=some u->h'.get? b=some u)
 (B:∀b,H b=some (.own a)->H' b=some (.own a)) (D:∀b xs,H b=some (.tup xs)->H' b=some (.tup xs)):AE P w H' h' a o:=by
 induction o with|lst xs=>obtain⟨z,m,n,r,e⟩:=x;exact⟨z,m,n,r,k _ _ (.inl rfl) e⟩|tup xs=>obtain⟨z,m,r,g,e,c⟩:=x;exact⟨z,m,r,g,k _ _ (.inl rfl) e,c⟩|dK I=>obtain⟨z,y,E,r,g,i,j,e,c⟩:=x;exact⟨z,y,E,r,g,i,j,k _ _ (.inl rfl) e,c⟩|dT I=>obtain⟨z,y,xs,r,g,i,j,e,c⟩:=x;exact⟨z,y,xs,Paired.mapP r λp q z=>⟨z.1,D _ _ z.2.1,z.2.2⟩,g,i,j,k _ _ (.inl rfl) e,c⟩|set S n=>obtain⟨g,i,j,t,e,c⟩:=x;exact⟨g,i,j,t,k _ _ (.inl rfl) e,c⟩|ins C J fs=>obtain⟨d,z,ne,e,mA,⟨l,i,j,F,c⟩,r⟩:=x;exact⟨B _ d,z,ne,k _ _ (.inl rfl) e,mA,⟨l,i,j,k _ _ (.inr d) F,c⟩,r⟩|own y=>obtain⟨g,e⟩:=x;exact⟨g,k _ _ (.inl rfl) e⟩|xd fs=>obtain⟨mA,⟨l,i,j,e,c⟩,r⟩:=x;exact⟨mA,⟨l,i,j,k _ _ (.inl rfl) e,c⟩,r⟩|rng lo K=>obtain⟨t,u,v,e⟩:=x;exact⟨t,u,v,k _ _ (.inl rfl) e⟩|frz g u G=>obtain⟨e,q⟩:=x;exact⟨k _ _ (.inl rfl) e,G q⟩|tbl s=>have e:h.get? a=some {cls:=.none,data:=.fields s}:=x;show h'.get? a=some {cls:=.none,data:=.fields s};exact k a _ (.inl rfl) e|met f y=>have e:h.get? a=some (PySem.W.methodObj (.ref f) (.ref y)):=x;show h'.get? a=some (PySem.W.methodObj (.ref f) (.ref y));exact k a _ (.inl rfl) e|ext φ=>obtain⟨p,⟨o,e⟩,A⟩:=x;exact⟨A _ _ p λo q=>k _ _ (.inl rfl) q,⟨o,k _ _ (.inl rfl) e⟩,A⟩
def CD.lt(x:CD P w H h)(e:H a=some o):a<h.objs.size:=(x a o e).lt
def CD.fresh(x:CD P w H h)(e:h.objs.size<=a):H a=none:=by
 cases q:H a with|none=>rfl|some u=>exact absurd (Fj (x.lt q) e) (GU _)
def CD.kept(x:CD P w H h)(k:∀b u,h.get? b=some u->h'.get? b=some u):CD P w H h':=λa o e =>
 (x a o e).stay (λb u ζ q=>k b u q) (λζ q=>q) λζ ζ q=>q
def CD.laid(x:CD P w H h)(k:∀b u,h.get? b=some u->h'.get? b=some u)(g:h.objs.size<=a)(i:AE P w (upd H a o) h' a o):CD P w (upd H a o) h':=λb u e=>by have d:=x.fresh g;by_cases f:b=a;subst f;rw[Ab] at e;cases e;exact i;rw[AI f] at e;exact(x b u e).stay (λc v ζ q=>k c v q) (λc q=>by rw[AI (Be q d)];exact q) λc j q=>by rw[AI (Be q d)];exact q
end
def Rd (H:Hp) (a:Addr) (u:HO):Prop:=H a=some u\/∃o,H a=some (.frz o u)
variable {P:Program}{w:World}{h:Heap}
def Rd.ok(r:Rd H a u)(x:CD P w H h):AE P w H h a u:=by rcases r with r|⟨o,r⟩;exact x a u r;obtain⟨_,q⟩:=x a _ r;exact q
def M6:Option HO->Prop
 |some (.lst _)=>True
 |some (.dK _)=>True
 |some (.dT _)=>True
 |some (.set _ _)=>True
 |some (.ins _ _ _)=>True
 |some (.ext _)=>True
 |_=>False
section
variable {P:Program} {w:World} {H:Hp} {h h':Heap} {x e:Addr} {o':HO}
def CD.write(ok:CD P w H h)(a:M6 (H x))(j:e=x\/H e=some (.own x))(k:∀b u,b≠e->h.get? b=some u->h'.get? b=some u)(o:∃u,h'.get? e=some u)
 (p:AE P w (upd H x o') h' x o'):CD P w (upd H x o') h':=λb u q=>by
 have m:∀c y,H c=some (.own y)->c≠x:=λc y r z=>by subst z;rw[r] at a;exact a
 have s:∀c d,H c=some (.tup d)->c≠x:=λc d r z=>by subst z;rw[r] at a;exact a
 by_cases f:b=x;subst f;rw[Ab] at q;cases q;exact p;rw[AI f] at q;by_cases i:b=e;have l:H b=some (.own x):=(by rcases j with z|z;exact absurd (i.trans z) f;rw[i];exact z);rw[q] at l;cases l;obtain⟨v,n⟩:=o;exact⟨v,by rw[i];exact n⟩;refine(ok b u q).stay (λc v g r=>k c v ?_ r) (λc r=>by rw[AI (m c b r)];exact r) λc d r=>by rw[AI (s c d r)];exact r
 rcases g with rfl|g;exact i;rintro rfl;rcases j with z|z;exact m c b g z;rw[g] at z;cases z;exact f rfl
end
structure Un (fs ex:G') (H H':Hp) (h h':Heap):Prop where
 keep:∀b o,h.get? b=some o->H b=none->b∉fs->b∉ex->h'.get? b=some o
 slot:∀b o,h.get? b=some o->H b=none->b∈fs->b∉ex->∃sl,h'.get? b=some {o with slots:=sl}
 free:∀b o,h.get? b=some o->H b=none->b∉ex->H' b=none
 there:∀b o,h.get? b=some o->b∉ex->∃o',h'.get? b=some o'
 tups:∀b xs,H b=some (.tup xs)->H' b=some (.tup xs)
 frzs:∀b o u,H b=some (.frz o u)->H' b=some (.frz o u)
 tbls:∀b ps,H b=some (.tbl ps)->∃more,H' b=some (.tbl (ps++more))
section
variable {fs fs' ex ex':G'} {H U Z:Hp} {h h1 h2 h':Heap} {a x e:Addr} {o:HO}
def Un.any(u:Un fs ex H U h h1){ob:Obj}(q:h.get? b=some ob)(n:H b=none)(a:b∉ex):∃d,h1.get? b=some {ob with slots:=d}:=by by_cases c:b∈fs;exact u.slot b ob q n c a;exact⟨ob.slots,u.keep b ob q n c a⟩
def Un.kept(k:∀b u,h.get? b=some u->h'.get? b=some u):Un fs ex H H h h':=
 ⟨λb a q ζ ζ ζ=>k b a q,λb a q ζ ζ ζ=>⟨a.slots,k b a q⟩,λζ ζ ζ n ζ=>n,λb a q ζ=>⟨a,k b a q⟩,λζ ζ q=>q,λζ ζ ζ q=>q,λζ c q=>⟨#[],by rw[q];simp⟩⟩
def Un.refl:Un fs ex H H h h:=Un.kept λζ ζ q=>q
def Un.laid(k:∀b u,h.get? b=some u->h'.get? b=some u)(d:h.objs.size<=a)(c:H a=none):Un fs ex H (upd H a o) h h' where
 keep:=λb u q ζ ζ ζ=>k b u q
 slot:=λb u q ζ ζ ζ=>⟨u.slots,k b u q⟩
 free:=λb u q n ζ=>by rw[AI (Ch (Fj (Bg q) d))];exact n
 there:=λb u q ζ=>⟨u,k b u q⟩
 tups:=λb e q=>by rw[AI (Be q c)];exact q
 frzs:=λb u e q=>by rw[AI (Be q c)];exact q
 tbls:=λb f q=>⟨#[],by rw[AI (Be q c),q];simp⟩
def Un.write(a:M6 (H x))(i:e=x\/H e=some (.own x))(k:∀b u,b≠e->h.get? b=some u->h'.get? b=some u)(m:∃u,h'.get? e=some u):Un fs ex H (upd H x o) h h':=by
 have d:∀b,H b=none->b≠x:=λb n z=>by subst z;rw[n] at a;exact a
 have f:∀b,H b=none->b≠e:=λb n z=>by
  subst z;rcases i with r|r;exact d b n r;rw[n] at r;cases r
 have c:∀b u,H b=some u->¬M6 (some u)->b≠x:=λb u q j z=>by subst z;rw[q] at a;exact j a
 refine⟨λb u q n ζ ζ=>k b u (f b n) q,λb u q n ζ ζ=>⟨u.slots,k b u (f b n) q⟩,λb u q n ζ=>by rw[AI (d b n)];exact n,λb u q ζ=>?_,
  λb l q=>by rw[AI (c b _ q λz=>z)];exact q,λb u l q=>by rw[AI (c b _ q λz=>z)];exact q,λb p q=>⟨#[],by rw[AI (c b _ q λz=>z),q];simp⟩⟩
 by_cases g:b=e;subst g;exact m;exact⟨u,k b u g q⟩
end
def OS (h:Heap) (H:Hp):G':=(List.range h.objs.size).filter λa=>(H a).isSome
def E7 (h:Heap) (H:Hp):Heap:=PySem.W.hideAll h (OS h H)
def WG(h:Heap)(H:Hp):(E7 h H).objs.size=h.objs.size:=PySem.W.hideAll_size _ _
def WH{o:Obj}(e:h.get? b=some o)(n:H b=none):(E7 h H).get? b=some o:=
 PySem.W.hideAll_get _ e λa=>by have q:(H b).isSome=true:=(Mk.mp a).2;rw[n] at q;simp at q
def Iu{o:Obj}(e:(E7 h H).get? b=some o):h.get? b=some o/\H b=none:=by
 have a:h.get? b=some o:=PySem.W.of_hideAll (OS h H) e;refine⟨a,?_⟩;cases q:H b with|none=>rfl|some x=>have c:b∈OS h H:=Mk.mpr ⟨List.mem_range.mpr (Bg a),by simp[q]⟩;have z:(E7 h H).get? b=none:=PySem.W.hideAll_none (OS h H) c;rw[z] at e;cases e
structure Mod (K:Aj) (mg:Str->K') (base:Heap):Prop where
 kin:K.In base
 glob:base.Ns mainGlobals mg
 blt:∃mb,base.Ns builtinsNs mb/\∀x:Str,x ≠ "__name__" -> mb x=bootBuiltins x
 nolimit:base.NoLimit
structure Cx where
 prog:Program
 w:World
 K:Aj
 mg:Str->K'
 base:Heap
 A:Around
 N:I'
 s₀:Shared
 H₀:Hp
 env:Env
 outer:List Env
 stack:List Env
 ex:G'
 fn:Str->Bool
 calm:Bool
 pn:B'
 xe:Value->Shared->Prop
def EH (l:List Env):G':=l.filterMap (·.frame)
abbrev Cx.fs (X:Cx):G':=EH X.outer
def OT (sc:Scope) (x:Str):Prop:=sc.names.lookup x=some .local\/sc.names.lookup x=some .cell\/sc.names.lookup x=some .free
def Loc (sc:Scope) (x:Str):Prop:=sc.names.lookup x=some .local\/sc.names.lookup x=some .cell
def Look (env:Env) (h:Heap) (m:Str->K') (x:Str) (u:Value):Prop:=
 (env.kindOf x=some .local/\m x=some u)\/((env.kindOf x=some .cell\/env.kindOf x=some .free)/\∃c,env.cells.lookup x=some c/\h.IsCell c (some u))
structure Cx.Ok (X:Cx):Prop where
 mod:Mod X.K X.mg X.base
 kind:X.env.scope.kind=.function
 glob:X.env.globals=mainGlobals
 blt:X.env.builtins=builtinsNs
 above:X.s₀.heap.objs.size<=X.env.locals
 inj:∀x y c,X.env.cells.lookup x=some c->X.env.cells.lookup y=some c->x=y
 has:∀x,(X.env.kindOf x=some .cell\/X.env.kindOf x=some .free)->∃c,X.env.cells.lookup x=some c
 cab:∀x c,X.fn x=true->X.env.cells.lookup x=some c->X.s₀.heap.objs.size<=c
 hd:X.calm=true->X.A.handled=none
 frames:X.A.frames=some X.stack
 stk:X.stack=X.outer\/(X.stack=X.env::X.outer/\X.env.frame=some X.env.locals)
 exf:∀b∈X.ex,b≠X.env.locals/\∀x c,X.env.cells.lookup x=some c->c≠b
 bs:∀b o,X.base.get? b=some o->X.s₀.heap.get? b=some o/\X.H₀ b=none
 bsz:X.base.objs.size<=X.s₀.heap.objs.size
 noex:∀b o,X.base.get? b=some o->b∉X.ex
 exfs:∀b∈X.ex,b∉X.fs
 funs:X.s₀.heap.FunFrames X.base X.outer
 frf:∀b∈X.fs,X.H₀ b=none
structure Inv (X:Cx) (pins:B') (σ:List (U')) (H:Hp) (s:Shared):Prop where
 ok:X.Ok
 os:s.os=X.s₀.os
 bare:AllBare s.gens
 base:Un X.fs X.ex X.H₀ H X.s₀.heap s.heap
 loc:∃m,s.heap.Ns X.env.locals m/\∀(i:Nat)(x:Str)(v:V),X.N[i]?=some x->σ[i]?=some (some v)->OT X.env.scope x->∃u,RelV v u/\Look X.env s.heap m x u
 cell:∀x c,X.env.cells.lookup x=some c->∃v,s.heap.IsCell c v
 free:H X.env.locals=none
 freeC:∀x c,X.env.cells.lookup x=some c->H c=none
 pin:∀p∈X.pn++pins,s.heap.get? p.1=some p.2/\H p.1=none/\p.1≠X.env.locals/\p.1∉X.fs/\∀v,p.2.data≠.cell v
 hok:CD X.prog X.w H s.heap
 len:σ.length=X.N.length
section
variable {X:Cx} {pins:B'} {σ:List (U')} {H H':Hp} {s:Shared} {h':Heap}
def Cx.Ok.nofr(ok:X.Ok){o:Obj}(e:X.base.get? b=some o):b∉X.fs:=λa=>by have:=(ok.funs.mem a).1;rw[e] at this;cases this
def Inv.bs(I:Inv X pins σ H s):∀b o,X.base.get? b=some o->s.heap.get? b=some o/\H b=none:=λb o e =>
 ⟨I.base.keep b o (I.ok.bs b o e).1 (I.ok.bs b o e).2 (I.ok.nofr e) (I.ok.noex b o e),I.base.free b o (I.ok.bs b o e).1 (I.ok.bs b o e).2 (I.ok.noex b o e)⟩
def Inv.bk(I:Inv X pins σ H s):∀b o,X.base.get? b=some o->s.heap.get? b=some o:=λb o e=>(I.bs b o e).1
def Inv.mod(I:Inv X pins σ H s):Mod X.K X.mg X.base:=I.ok.mod
def Inv.kIn(I:Inv X pins σ H s):X.K.In s.heap:=I.ok.mod.kin.keeps I.bk
def Inv.lt(I:Inv X pins σ H s):X.env.locals<s.heap.objs.size:=let ⟨_,a,_⟩:=I.loc;a.lt
def Inv.sz(I:Inv X pins σ H s):X.s₀.heap.objs.size<=s.heap.objs.size:=Ea I.ok.above (CT I.lt)
def Inv.nofs(I:Inv X pins σ H s)(h:s.heap.objs.size<=a):a∉X.fs:=λb=>by obtain⟨_,o,c,_⟩:=I.ok.funs.mem b;exact absurd (Fj (Bg c) (Ea I.sz h)) (GU _)
def Inv.cne(I:Inv X pins σ H s):∀x c,X.env.cells.lookup x=some c->c≠X.env.locals:=λx c e z=>by obtain⟨v,o,a,hd⟩:=I.cell x c e;obtain⟨m,⟨f,g,h,b,d,_⟩,_⟩:=I.loc;rw[z,b] at a;cases a;rw[d] at hd;cases hd
def Inv.funs(I:Inv X pins σ H s):s.heap.FunFrames X.base X.outer:=by
 have all:∀(l:List Env),(∀b∈EH l,b∈X.fs)->X.s₀.heap.FunFrames X.base l->s.heap.FunFrames X.base l:=by
  intro l
  induction l with|nil=>intro _ _;trivial|cons p r g=>intro f h;obtain⟨i,⟨L,o,a,j,k,hd⟩,m⟩:=h;have c:L∈X.fs:=f L (by unfold EH;rw[Qv,a];exact BS);obtain⟨n,e⟩:=I.base.slot L o k (I.ok.frf L c) c λz=>I.ok.exfs L z c;exact⟨i,⟨L,_,a,j,e,hd⟩,g (λb d=>f b (by unfold EH;rw[Qv,a];exact Du _ d)) m⟩
 exact all X.outer (λζ d=>d) I.ok.funs
def Inv.stack(I:Inv X pins σ H s):s.heap.FunFrames X.base X.stack:=by rcases I.ok.stk with e|⟨e,a⟩;rw[e];exact I.funs;rw[e];obtain⟨m,b,_⟩:=I.loc;refine .cons (by rw[I.ok.kind];decide) a b ?_ I.funs;exact Heap.get?_none_of_le (Ea I.ok.bsz I.ok.above)
def Inv.stkSub(I:Inv X pins σ H s):∀b∈EH X.stack,b∈X.env.locals::X.fs:=λb a=>by rcases I.ok.stk with e|⟨e,c⟩;rw[e] at a;exact Du _ a;rw[e] at a;unfold EH at a;rw[Qv,c] at a;exact a
def Inv.stkFree(I:Inv X pins σ H s):∀b∈EH X.stack,H b=none:=λb a=>by rcases BB.mp (I.stkSub b a) with e|a;rw[e];exact I.free;obtain⟨_,o,c,_⟩:=I.ok.funs.mem a;exact I.base.free b o c (I.ok.frf b a) λz=>I.ok.exfs b z a
variable {t':Nat}{ch:G'}
def Inv.step{g':Array GenState}{d':Drawn}(I:Inv X pins σ H s)
 (w:∀b∈ch,(b∈X.ex\/X.s₀.heap.objs.size<=b)/\b≠X.env.locals/\(∀x c,X.env.cells.lookup x=some c->c≠b)/\∀p∈X.pn++pins,p.1≠b)
 (keep:∀b o,b≠X.env.locals->b∉X.fs->b∉ch->s.heap.get? b=some o->H b=none->h'.get? b=some o)
 (J:∀b o,b≠X.env.locals->b∈X.fs->b∉ch->s.heap.get? b=some o->H b=none->∃C,h'.get? b=some {o with slots:=C}) (free:∀b o,b∉ch->s.heap.get? b=some o->H b=none->H' b=none)
 (there:∀b o,b∉ch->s.heap.get? b=some o->∃j,h'.get? b=some j)
 (tups:∀b xs,H b=some (.tup xs)->H' b=some (.tup xs)) (T:∀b o u,H b=some (.frz o u)->H' b=some (.frz o u)) (U:∀b A,H b=some (.tbl A)->∃more,H' b=some (.tbl (A++more)))
 (ns:∀m,s.heap.Ns X.env.locals m->h'.Ns X.env.locals m) (R:CD X.prog X.w H' h') (L:AllBare g') :
 Inv X pins σ H' {s with heap:=h',gens:=g',drawn:=d',toks:=t'}:=by
 have G:∀b o,X.s₀.heap.get? b=some o->b≠X.env.locals:=λb o e=>Ch (Fj (Bg e) I.ok.above)
 have B:∀b o,X.s₀.heap.get? b=some o->b∉X.ex->b∉ch:=λb o e a g=>by
  rcases(w b g).1 with z|z;exact a z;exact absurd (Fj (Bg e) z) (GU _)
 have K:∀x c,X.env.cells.lookup x=some c->∀v,s.heap.IsCell c v->h'.IsCell c v:=λx c e v⟨o,h,hd⟩=>by
  have y:c∉ch:=λz=>(w c z).2.2.1 x c e rfl;by_cases D:c∈X.fs;obtain⟨C,q⟩:=J c o (I.cne x c e) D y h (I.freeC x c e);exact⟨_,q,hd⟩;exact⟨o,keep c o (I.cne x c e) D y h (I.freeC x c e),hd⟩
 refine⟨I.ok,I.os,L,⟨λb o e n g a=>?_,λb o e n g a=>?_,λb o e n a=>?_,λb o e a=>?_,λb xs e=>tups b xs (I.base.tups b xs e),λb o xs e=>T b o xs (I.base.frzs b o xs e),λb A e=>?_⟩,?_,λx c e=>?_,?_,λx c e=>?_,λp E=>?_,R,I.len⟩;exact keep b o (G b o e) g (B b o e a) (I.base.keep b o e n g a) (I.base.free b o e n a);obtain⟨C,f⟩:=I.base.slot b o e n g a;obtain⟨S,t⟩:=J b _ (G b o e) g (B b o e a) f (I.base.free b o e n a);exact⟨S,t⟩;obtain⟨j,f⟩:=I.base.there b o e a;exact free b j (B b o e a) f (I.base.free b o e n a);obtain⟨j,f⟩:=I.base.there b o e a;exact there b j (B b o e a) f;obtain⟨M,f⟩:=I.base.tbls b A e;obtain⟨N,t⟩:=U b _ f;exact⟨M++N,by rw[t,Array.append_assoc]⟩;obtain⟨m,O,P⟩:=I.loc;refine⟨m,ns m O,λi x v f t Q=>?_⟩;obtain⟨u,r,l⟩:=P i x v f t Q;refine⟨u,r,?_⟩;rcases l with l|⟨k,c,e,z⟩;exact .inl l;exact .inr ⟨k,c,e,K x c e _ z⟩;obtain⟨v,z⟩:=I.cell x c e;exact⟨v,K x c e v z⟩;obtain⟨m,⟨o,_,_,h,_⟩,_⟩:=I.loc;exact free _ o (λz=>(w _ z).2.1 rfl) h I.free;obtain⟨v,o,h,hd⟩:=I.cell x c e;exact free c o (λz=>(w c z).2.2.1 x c e rfl) h (I.freeC x c e);obtain⟨e,n,ne,F,d⟩:=I.pin p E;have y:p.1∉ch:=λz=>(w p.1 z).2.2.2 p E rfl;exact⟨keep p.1 p.2 ne F y e n,free p.1 p.2 y e n,ne,F,d⟩
def Inv.un(I:Inv X pins σ H s)(u:Un X.fs [] H H' s.heap h')(i:CD X.prog X.w H' h'):Inv X pins σ H' {s with heap:=h',toks:=t'}:=by
 obtain⟨m,⟨o,l,p,c,r⟩,_⟩:=id I.loc;obtain⟨q,f⟩:=u.any c I.free (by simp)
 exact I.step (g':=s.gens) (d':=s.drawn) (ch:=[]) (λζ z=>nomatch z) (λb o ζ a ζ e n=>u.keep b o e n a (by simp)) (λb o ζ a ζ e n=>u.slot b o e n a (by simp)) (λb o ζ e n=>u.free b o e n (by simp)) (λb o ζ e=>u.there b o e (by simp)) u.tups u.frzs u.tbls (λt g=>by
  obtain⟨v,j,k,d,h⟩:=g;rw[c] at d;cases d;exact⟨_,j,k,f,h⟩) i I.bare
def Inv.call{g':Array GenState}{d':Drawn}(I:Inv X pins σ H s)(u:Un (EH X.stack) ch H H' s.heap h')(q:CD X.prog X.w H' h')(i:AllBare g')
 (g:∀b∈ch,(b∈X.ex\/X.s₀.heap.objs.size<=b)/\b≠X.env.locals/\(∀x c,X.env.cells.lookup x=some c->c≠b)/\∀p∈X.pn++pins,p.1≠b) :
 Inv X pins σ H' {s with heap:=h',gens:=g',drawn:=d',toks:=t'}:=by
 obtain⟨m,⟨o,w,y,f,r⟩,_⟩:=id I.loc;obtain⟨A,d⟩:=u.any f I.free λz=>(g _ z).2.1 rfl
 exact I.step (ch:=ch) g (λb o d j a e n=>u.keep b o e n (λz=>(BB.mp (I.stkSub b z)).elim d j) a) (λb o ζ ζ a e n=>u.any e n a) (λb o a e n=>u.free b o e n a) (λb o a e=>u.there b o e a) u.tups u.frzs u.tbls (λB k=>by
  obtain⟨C,t,v,h,l⟩:=k;rw[f] at h;cases h;exact⟨_,t,v,d,l⟩) q i
def Inv.turned{a:Addr}(I:Inv X pins σ H s)(k:∀b o,b≠a->s.heap.get? b=some o->h'.get? b=some o)(h:H a=none)(f:a≠X.env.locals)
 (i:a∈X.ex\/X.s₀.heap.objs.size<=a) (j:∀x c,X.env.cells.lookup x=some c->c≠a) (l:∀p∈X.pn++pins,p.1≠a):Inv X pins σ H {s with heap:=h',toks:=t'}:=by
 have g:∀b u,H b=some u->b≠a:=λb u e z=>by rw[z,h] at e;cases e
 refine I.step (g':=s.gens) (d':=s.drawn) (ch:=[a]) (λb t=>?_) (λb o ζ ζ d e ζ=>k b o (λz=>d (by simp[z])) e) (λb o ζ ζ d e ζ=>⟨o.slots,k b o (λz=>d (by simp[z])) e⟩) (λζ ζ ζ ζ n=>n)
  (λb o d e=>⟨o,k b o (λz=>d (by simp[z])) e⟩) (λζ ζ e=>e) (λζ ζ ζ e=>e) (λb C e=>⟨#[],by rw[e];simp⟩) (λm w=>?_) (λb u e=>?_) I.bare
 have e:b=a:=(by simpa using t);subst e;exact⟨i,f,j,l⟩;obtain⟨o,y,A,B,r⟩:=w;exact⟨o,y,A,k _ o (Ne.symm f) B,r⟩;refine(I.hok b u e).stay (λc v d q=>k c v ?_ q) (λζ q=>q) λζ ζ q=>q;rcases d with z|z;rw[z];exact g b u e;exact g c _ z
def Inv.tok(I:Inv X pins σ H s)(t:Nat):Inv X pins σ H {s with toks:=t}:=I.un (h':=s.heap) (t':=t) Un.refl I.hok
def Inv.kept{t':Nat}(I:Inv X pins σ H s)(k:∀b u,s.heap.get? b=some u->h'.get? b=some u):Inv X pins σ H {s with heap:=h',toks:=t'}:=I.un (Un.kept k) (I.hok.kept k)
def Inv.laid{a:Addr}{o:HO}{t':Nat}(I:Inv X pins σ H s)(k:∀b u,s.heap.get? b=some u->h'.get? b=some u)(c:s.heap.objs.size<=a)(d:AE X.prog X.w (upd H a o) h' a o) :
 Inv X pins σ (upd H a o) {s with heap:=h',toks:=t'}:=I.un (Un.laid k c (I.hok.fresh c)) (I.hok.laid k c d)
def Inv.write{x e:Addr}{o:HO}{t':Nat}(I:Inv X pins σ H s)(a:M6 (H x))(c:e=x\/H e=some (.own x))(k:∀b u,b≠e->s.heap.get? b=some u->h'.get? b=some u)(d:∃u,h'.get? e=some u)
 (f:AE X.prog X.w (upd H x o) h' x o):Inv X pins σ (upd H x o) {s with heap:=h',toks:=t'}:=I.un (Un.write a c k d) (I.hok.write a c k d f)
def Inv.pins_of{a:B'}(I:Inv X pins σ H s)(h:∀p∈a,s.heap.get? p.1=some p.2/\H p.1=none/\p.1≠X.env.locals/\p.1∉X.fs/\∀v,p.2.data≠.cell v):Inv X a σ H s:=
 ⟨I.ok,I.os,I.bare,I.base,I.loc,I.cell,I.free,I.freeC,λp b=>(BI.mp b).elim (λz=>I.pin p (GG _ z)) (h p),I.hok,I.len⟩
variable {i:Nat}{x:Str}
def Ts{N:I'}(c:N.Nodup){j:Nat}(a:N[i]?=some x)(b:N[j]?=some x):i=j:=by obtain⟨f,d⟩:=Bi.mp a;obtain⟨g,e⟩:=Bi.mp b;exact(List.getElem_inj c).mp (d.trans e.symm)
def Tt{ai:Model}{A:Around}{E:D'}{v:V}{u:Value}{Q:Unit->Shared->Prop}(I:Inv X pins σ H s)(W:X.N.Nodup)(D:X.N[i]?=some x)(m:Loc X.env.scope x)(r:RelV v u)
 (h:∀J,Inv X pins (σ.set i (some v)) H J->(∃a,Heap.SameBut a s.heap J.heap/\(a=X.env.locals\/X.env.cells.lookup x=some a))->Q () J) (hf:X.fn x=true\/X.env.scope.names.lookup x=some .local:=by first|exact .inl rfl|exact .inr rfl|assumption):wpAny ai A (storeName X.env x u) Q E s:=by
 obtain⟨aj,K,Y⟩:=id I.loc;have an:(X.env.scope.kind==.class || (X.env.scope.kind==.module && X.env.locals != X.env.globals))=false:=by rw[I.ok.kind];rfl
 have aa:i<σ.length:=by rw[I.len];exact(Bi.mp D).1
 have cne:=I.cne
 have ah:∀{a:Addr}{h':Heap},(∃o,s.heap.get? a=some o/\H a=none)->Heap.SameBut a s.heap h'->CD X.prog X.w H h':=λ{a h'}ha f b ob e=>by
  obtain⟨_,_,ag⟩:=ha;refine(I.hok b ob e).stay (λc F l q=>(f.2 c ?_).trans q) (λζ q=>q) λζ ζ q=>q;rintro rfl;rcases l with rfl|l;rw[ag] at e;cases e;rw[ag] at l;cases l
 rcases m with w|w;refine wpAny_storeName_local w K (λh' ak f=>?_) an;obtain⟨oL,_,_,al,_⟩:=id K;refine h _ ⟨I.ok,I.os,I.bare,⟨λb o e n B m=>?_,λb o e n B m=>?_,I.base.free,λb o e m=>?_,I.base.tups,I.base.frzs,I.base.tbls⟩,⟨_,ak,λj y L g t M=>?_⟩,λy c e=>?_,I.free,I.freeC,λp N=>?_,ah ⟨oL,al,I.free⟩ f,by simpa using I.len⟩ ⟨_,f,.inl rfl⟩;exact(f.2 b (Ch (Fj (Bg e) I.ok.above))).trans (I.base.keep b o e n B m);obtain⟨O,g⟩:=I.base.slot b o e n B m;exact⟨O,(f.2 b (Ch (Fj (Bg e) I.ok.above))).trans g⟩;obtain⟨P,g⟩:=I.base.there b o e m;exact⟨P,(f.2 b (Ch (Fj (Bg e) I.ok.above))).trans g⟩;by_cases C:j=i;subst C;rw[D] at g;cases g;rw[o8 aa] at t;cases t;exact⟨u,r,.inl ⟨w,by simp⟩⟩;rw[n8 (Ne.symm C)] at t;obtain⟨R,S,q⟩:=Y j y L g t M;refine⟨R,S,?_⟩;rcases q with⟨k,e⟩|⟨k,c,e,z⟩;refine .inl ⟨k,?_⟩;have:y≠x:=λe=>C (Ts W g (e▸D));simp[this,e];exact .inr ⟨k,c,e,z.sameBut f (cne y c e)⟩;obtain⟨F,z⟩:=I.cell y c e;exact⟨F,z.sameBut f (cne y c e)⟩;obtain⟨e,n,ne,T,d⟩:=I.pin p N;exact⟨(f.2 p.1 ne).trans e,n,ne,T,d⟩;have U:X.fn x=true:=(by rcases hf with z|z;exact z;rw[z] at w;cases w);obtain⟨c,l⟩:=I.ok.has x (.inl w);obtain⟨F,z⟩:=I.cell x c l;refine wpAny_storeName_cell I.ok.kind w l z (λh' ab f=>?_);obtain⟨Z,ae,ao⟩:=id z;refine h {s with heap:=h'} ⟨I.ok,I.os,I.bare,⟨λb o e n B m=>?_,λb o e n B m=>?_,I.base.free,λb o e m=>?_,I.base.tups,I.base.frzs,I.base.tbls⟩,⟨aj,K.sameBut f (Ne.symm (cne x c l)),λj y L g t M=>?_⟩,λy G e=>?_,I.free,I.freeC,λp N=>?_,ah ⟨Z,ae,I.freeC x c l⟩ f,by simpa using I.len⟩ ⟨c,f,.inr l⟩;exact(f.2 b (Ch (Fj (Bg e) (I.ok.cab x c U l)))).trans (I.base.keep b o e n B m);obtain⟨O,g⟩:=I.base.slot b o e n B m;exact⟨O,(f.2 b (Ch (Fj (Bg e) (I.ok.cab x c U l)))).trans g⟩;obtain⟨P,g⟩:=I.base.there b o e m;exact⟨P,(f.2 b (Ch (Fj (Bg e) (I.ok.cab x c U l)))).trans g⟩;by_cases C:j=i;subst C;rw[D] at g;cases g;rw[o8 aa] at t;cases t;exact⟨u,r,.inr ⟨.inl w,c,l,ab⟩⟩;rw[n8 (Ne.symm C)] at t;obtain⟨R,S,q⟩:=Y j y L g t M;refine⟨R,S,?_⟩;rcases q with q|⟨k,G,e,z'⟩;exact .inl q;refine .inr ⟨k,G,e,z'.sameBut f ?_⟩;rintro rfl;exact C (Ts W g (I.ok.inj _ _ _ e l▸D));by_cases af:G=c;subst af;exact⟨_,ab⟩;obtain⟨w2,z2⟩:=I.cell y G e;exact⟨w2,z2.sameBut f af⟩;obtain⟨e,n,ne,T,d⟩:=I.pin p N;refine⟨(f.2 p.1 ?_).trans e,n,ne,T,d⟩;intro q;rw[q,ae] at e;have q':Z=p.2:=BU e;exact d F (by rw[<-q'];exact ao)
def Q8{M:Model}{A:Around}{E:D'}{v:V}{u:Value}{Q:Unit->Shared->Prop}(I:Inv X pins σ H s)(b:X.N.Nodup)(c:X.N[i]?=some x)(d:Loc X.env.scope x)(r:RelV v u)
 (h:∀a,Inv X pins (σ.set i (some v)) H a->Q () a) (e:X.fn x=true\/X.env.scope.names.lookup x=some .local:=by first|exact .inl rfl|exact .inr rfl|assumption):wpAny M A (storeName X.env x u) Q E s:=
 Tt I b c d r (λa f ζ=>h a f) e
def Inv.call'{a:Shared}(I:Inv X pins σ H s)(d:a.os=s.os)(u:Un (EH X.stack) ch H H' s.heap a.heap)(h:CD X.prog X.w H' a.heap)(f:AllBare a.gens)
 (i:∀b∈ch,(b∈X.ex\/X.s₀.heap.objs.size<=b)/\b≠X.env.locals/\(∀x c,X.env.cells.lookup x=some c->c≠b)/\∀p∈X.pn++pins,p.1≠b):Inv X pins σ H' a:=by
 obtain⟨h',g',d',t',g⟩:=a;have e:g=s.os:=d;subst e;exact I.call (g':=g') (t':=t') (d':=d') u h f i
end
abbrev XK:=Value->Option Addr->Hp->Prop
abbrev St:=List (Option V)
abbrev VK:=V->Hp->Prop
abbrev TE:=St->Hp->VK->Prop
abbrev TT:=St->Hp->(Bool->Hp->Prop)->Prop
abbrev TA:=St->Hp->(S'->Hp->Prop)->Prop
structure Ends where
 nx:St->Hp->Prop
 rt:VK
 bk:St->Hp->Prop:=λζ ζ=>False
 ct:St->Hp->Prop:=λζ ζ=>False
abbrev TS:=Ends->St->Hp->Prop
def EP (X:Cx) (pins:B') (σ:St) (Q:VK) (u:Value) (s':Shared):Prop:=∃v H',Inv X pins σ H' s'/\RelV v u/\Q v H'
def TP (X:Cx) (pins:B') (σ:St) (Q:Bool->Hp->Prop) (b:Bool) (s':Shared):Prop:=∃H',Inv X pins σ H' s'/\Q b H'
def AP (X:Cx) (pins:B') (σ:St) (Q:S'->Hp->Prop) (us:F') (s':Shared):Prop:=∃vs H',Inv X pins σ H' s'/\Aw vs us/\Q vs H'
def SP (X:Cx) (pins:B') (D:Ends) (f:Flow) (s':Shared):Prop:=
 match f with
 |.next=>∃σ' H',Inv X pins σ' H' s'/\D.nx σ' H'
 |.brk=>∃σ' H',Inv X pins σ' H' s'/\D.bk σ' H'
 |.cont=>∃σ' H',Inv X pins σ' H' s'/\D.ct σ' H'
 |.ret u=>∃v σ' H',Inv X pins σ' H' s'/\RelV v u/\D.rt v H'
def PE (X:Cx) (e:Expr) (t:TE):Prop:=
 ∀(pins:B')(s:Shared)(σ:St)(H:Hp)(Q:VK),Inv X pins σ H s->t σ H Q->wpAny (model X.prog X.w) X.A (eval e X.env) (EP X pins σ Q) X.xe s
def PT (X:Cx) (e:Expr) (t:TT):Prop:=
 ∀(pins:B')(s:Shared)(σ:St)(H:Hp)(Q:Bool->Hp->Prop),Inv X pins σ H s->t σ H Q->wpAny (model X.prog X.w) X.A (isTrue e X.env (eval e X.env)) (TP X pins σ Q) X.xe s
def PW (X:Cx) (e:Expr) (t:TT):Prop:=
 ∀(whole:Sem Value)(pins:B')(s:Shared)(σ:St)(H:Hp)(Q:Bool->Hp->Prop),Inv X pins σ H s->t σ H Q->wpAny (model X.prog X.w) X.A (isTrue e X.env whole) (TP X pins σ Q) X.xe s
variable {X:Cx}{e:Expr}
def PW.pt{t:TT}(h:PW X e t):PT X e t:=h _
def PA (X:Cx) (es:O') (t:TA):Prop:=
 ∀(L:Pos)(pins:B')(s:Shared)(σ:St)(H:Hp)(Q:S'->Hp->Prop),Inv X pins σ H s->t σ H Q->wpAny (model X.prog X.w) X.A (spliced (backTo L (starEach es X.env))) (AP X pins σ Q) X.xe s
def PS (X:Cx) (st:Stmt) (t:TS):Prop:=
 ∀(pins:B')(s:Shared)(σ:St)(H:Hp)(D:Ends),Inv X pins σ H s->t D σ H->wpAny (model X.prog X.w) X.A (exec st X.env) (SP X pins D) X.xe s
def FY (X:Cx) (st:List Stmt) (t:TS):Prop:=
 ∀(pins:B')(s:Shared)(σ:St)(H:Hp)(D:Ends),Inv X pins σ H s->t D σ H->wpAny (model X.prog X.w) X.A (execs st X.env) (SP X pins D) X.xe s
variable {A:Around}{E:D'}{s:Shared}
def AQ{α:Type}{t:Sem α}{Q b:α->Shared->Prop}{M:Model}(h:wpAny M A t Q E s)(c:∀a s,Q a s->b a s):wpAny M A t b E s:=Fw h c λζ ζ x=>x
section
variable {X:Cx}
def mV:Option (U')->(V->Prop)->Prop|some (some v),q=>q v|_,_=>(λζ=>False) Nat.repr
def mB:V->(Bool->Prop)->Prop|.bl c,q=>0=0/\q c|_,_=>(λζ=>False) Nat.repr
def mI:V->(Int->Prop)->Prop|.int i,q=>q i|_,_=>(λζ=>False) Nat.repr
def Ia:V->V->(Int->Int->Prop)->Prop|.int i,.int j,q=>q i j|_,_,_=>(λζ=>False) Nat.repr
def mR:V->(Addr->Prop)->Prop|.ref a,q=>q a|_,_=>(λζ=>False) Nat.repr
def mT:V->(Addr->S'->Prop)->Prop|.ref a,q=>∃xs,q a xs|_,_=>(λζ=>False) Nat.repr
def mX:V->V->(Addr->S'->Int->V->Prop)->Prop|.ref p,.int i,q=>∃xs v,q p xs i v|_,_,_=>(λζ=>False) Nat.repr
def mC:S'->(V->S'->Prop)->Prop|v::r,q=>q v r|_,_=>(λζ=>False) Nat.repr
def mN:S'->Prop->Prop|[],q=>q|_,_=>(λζ=>False) Nat.repr
def mL:S'->(V->Nat->Prop)->Prop|[x],q=>∃n,q x n|_,_=>(λζ=>False) Nat.repr
def mA:V->S'->(Addr->S'->V->Prop)->Prop|.ref l,[y],q=>∃xs,q l xs y|_,_,_=>(λζ=>False) Nat.repr
def mJ:S'->(Int->Prop)->Prop|[.int j],q=>q j|_,_=>(λζ=>False) Nat.repr
def mV.ex{o:Option (U')}{q:V->Prop}(h:mV o q):∃v,o=some (some v)/\q v:=by unfold mV at h;split at h;exact⟨_,rfl,h⟩;exact False.elim h
variable {x:V}
def mB.ex{q:Bool->Prop}(h:mB x q):∃c,x=.bl c/\q c:=by unfold mB at h;split at h;exact⟨_,rfl,h.2⟩;exact False.elim h
def mI.ex{q:Int->Prop}(h:mI x q):∃i,x=.int i/\q i:=by unfold mI at h;split at h;exact⟨_,rfl,h⟩;exact False.elim h
def Ia.ex{y:V}{q:Int->Int->Prop}(h:Ia x y q):∃i j,x=.int i/\y=.int j/\q i j:=by unfold Ia at h;split at h;exact⟨_,_,rfl,rfl,h⟩;exact False.elim h
def mR.ex{q:Addr->Prop}(h:mR x q):∃a,x=.ref a/\q a:=by unfold mR at h;split at h;exact⟨_,rfl,h⟩;exact False.elim h
def mT.ex{q:Addr->S'->Prop}(h:mT x q):∃a xs,x=.ref a/\q a xs:=by unfold mT at h;split at h;exact⟨_,h.choose,rfl,h.choose_spec⟩;exact False.elim h
def mX.ex{y:V}{q:Addr->S'->Int->V->Prop}(h:mX x y q):∃p xs i v,x=.ref p/\y=.int i/\q p xs i v:=by unfold mX at h;split at h;obtain⟨xs,v,h⟩:=h;exact⟨_,xs,_,v,rfl,rfl,h⟩;exact False.elim h
variable {vs:S'}
def mC.ex{q:V->S'->Prop}(h:mC vs q):∃v r,vs=v::r/\q v r:=by unfold mC at h;split at h;exact⟨_,_,rfl,h⟩;exact False.elim h
def mN.ex{q:Prop}(h:mN vs q):vs=[]/\q:=by unfold mN at h;split at h;exact⟨rfl,h⟩;exact False.elim h
def mL.ex{q:V->Nat->Prop}(h:mL vs q):∃x n,vs=[x]/\q x n:=by unfold mL at h;split at h;exact⟨_,h.choose,rfl,h.choose_spec⟩;exact False.elim h
def mA.ex{q:Addr->S'->V->Prop}(h:mA x vs q):∃l xs y,x=.ref l/\vs=[y]/\q l xs y:=by unfold mA at h;split at h;exact⟨_,h.choose,_,rfl,rfl,h.choose_spec⟩;exact False.elim h
def mJ.ex{q:Int->Prop}(h:mJ vs q):∃j,vs=[.int j]/\q j:=by unfold mJ at h;split at h;exact⟨_,rfl,h⟩;exact False.elim h
def Bj (i:Nat):TE:=λσ H Q=>mV σ[i]? λv=>Q v H
def tC (v:V):TE:=λζ H Q=>Q v H
variable {L:Pos}
def KJ{i:Nat}{x:Str}(g:X.N[i]?=some x)(hv:OT X.env.scope x)(hd:(x==j1)=false:=by decide)(o:(x==("__classdict__":Str))=false:=by decide):PE X (.Name x L) (Bj i):=by
 intro p s σ H Q I h;replace h:=mV.ex h;obtain⟨v,e,h⟩:=h;obtain⟨m,j,k⟩:=I.loc;obtain⟨u,r,l⟩:=k i x v g e hv;have b:EP X p σ Q u s:=⟨v,H,I,r,h⟩;rcases l with⟨a,n⟩|⟨a,c,d,f⟩;exact wpAny_Name (wpAny_loadName_local I.ok.kind a j n b) hd;rcases a with a|a;exact wpAny_Name (wpAny_loadName_cell I.ok.kind a d f b) hd;exact wpAny_Name (wpAny_loadName_free I.ok.kind a d f b o) hd
def Ah{i j L}:PE X (.Constant (.int i) j L) (tC (.int i)):=λζ ζ ζ H ζ I h=>wpAny_Constant_int ⟨.int i,H,I.tok _,⟨_,rfl⟩,h⟩
def Gm{b j L}:PE X (.Constant (.bool b) j L) (tC (.bl b)):=λζ ζ ζ H ζ I h=>Constant_bool ⟨.bl b,H,I,rfl,h⟩
def Ci{j L}:PE X (.Constant .none j L) (tC .non):=λζ ζ ζ H ζ I h=>Constant_none ⟨.non,H,I,rfl,h⟩
def AH{x j L}:PE X (.Constant (.str x) j L) (tC (.str x)):=λζ ζ ζ H ζ I h=>Calls.Constant_str ⟨.str x,H,I.tok _,⟨_,rfl⟩,h⟩
def Gl (X:Cx) (x:Str):Prop:=X.env.kindOf x=some .globalImplicit
def Tu{pins:B'}{σ:St}{x:Str}{u:Value}{Q:D'}(I:Inv X pins σ H s)(a:Gl X x)(b:X.mg x=some u)(h:Q u s)
 (hd:(x==j1)=false:=by decide):wpAny (model X.prog X.w) X.A (eval (.Name x L) X.env) Q E s:=
 Calls.Name_function_global I.ok.kind a (Calls.loadGlobal_global (by rw[I.ok.glob];exact I.mod.glob.keeps I.bk) b h) hd
def KL{pins:B'}{σ:St}{x:Str}{u:Value}{Q:D'}(I:Inv X pins σ H s)(a:Gl X x)(b:X.mg x=none)(hv:bootBuiltins x=some u)(h:Q u s)
 (c:x ≠ "__name__" :=by decide) (hd:(x==j1)=false:=by decide):wpAny (model X.prog X.w) X.A (eval (.Name x L) X.env) Q E s:=by
 obtain⟨f,d,e⟩:=I.mod.blt;exact Calls.Name_function_global I.ok.kind a (Calls.loadGlobal_builtin (by rw[I.ok.glob];exact I.mod.glob.keeps I.bk) b (by rw[I.ok.blt];exact d.keeps I.bk) ((e x c).trans hv) h) hd
def Iv{x:Str}{v:V}{u:Value}(a:Gl X x)(b:X.mg x=some u)(r:RelV v u)(hd:(x==j1)=false:=by decide):PE X (.Name x L) (tC v):=
 λζ ζ ζ H ζ I h=>Tu I a b ⟨v,H,I,r,h⟩ hd
def Iw{x:Str}{v:V}{u:Value}(a:Gl X x)(b:X.mg x=none)(hv:bootBuiltins x=some u)(r:RelV v u)(c:x ≠ "__name__" :=by decide)(hd:(x==j1)=false:=by decide):PE X (.Name x L) (tC v):=
 λζ ζ ζ H ζ I h=>KL I a b hv ⟨v,H,I,r,h⟩ c hd
variable {a b:Expr} {ta tb:TE} {L:Pos}
def PC (X:Cx) (op:CmpOp) (a b:Expr) (t:TE):Prop:=
 ∀(pins:B')(s:Shared)(σ:St)(H:Hp)(Q:VK),Inv X pins σ H s->t σ H Q ->
  wpAny (model X.prog X.w) X.A (eval a X.env) (λv s₁=>wpAny (model X.prog X.w) X.A (eval b X.env) (λu s₂=>wpAny (model X.prog X.w) X.A (compareOp op v u) (EP X pins σ Q) X.xe s₂) X.xe s₁) X.xe s
def Tv(b:Expr){op:CmpOp}(h:op≠.In)(a:op≠.NotIn):behindInMarks op b=false:=by
 have c:(op==CmpOp.In)=false:=by cases op<;>first|rfl|exact absurd rfl h
 have d:(op==CmpOp.NotIn)=false:=by cases op<;>first|rfl|exact absurd rfl a
 cases b<;>simp[behindInMarks,c,d]
def Q9 (ta:TE):TE:=λσ H Q=>ta σ H λx U=>Q (.bl (decide (x=.non))) U
def M7 (ta:TE):TE:=λσ H Q=>ta σ H λx U=>Q (.bl (!decide (x=.non))) U
def RelV.none_iff{v:Value}(r:RelV x v):(v==Value.none)=decide (x=.non):=by
 cases x with|non=>cases r;rfl|bl _=>cases r;rfl|int _=>obtain⟨t,rfl⟩:=r;rfl|str _=>obtain⟨t,rfl⟩:=r;rfl|byt _=>obtain⟨t,rfl⟩:=r;rfl|flt _=>obtain⟨t,rfl⟩:=r;rfl|ref _=>cases r;rfl|ty _=>cases r;rfl
def GW{j t}(b:PE X a ta):PC X .Is a (.Constant .none j t) (Q9 ta):=by intro f s σ H Q I h;refine AQ (b f s σ H _ I h) λv g⟨x,U,c,d,e⟩=>?_;exact Constant_none (is_none_gen ⟨.bl _,U,c,by rw[d.none_iff];rfl,e⟩)
def Ra{j t}(b:PE X a ta):PC X .IsNot a (.Constant .none j t) (M7 ta):=by intro f s σ H Q I h;refine AQ (b f s σ H _ I h) λv g⟨x,U,c,d,e⟩=>?_;exact Constant_none (isnot_none_gen ⟨.bl _,U,c,by rw[d.none_iff];rfl,e⟩)
def tB (t:TE):TT:=λσ H Q=>t σ H λx U=>mB x λc=>Q c U
def GX{op:CmpOp}{t:TE}(h:PC X op a b t)(c:behindInMarks op b=false:=by first|exact Tv _ (by decide) (by decide)|rfl):PE X (.Compare a [op] [b] L) t:=λe s σ H Q I d=>wpAny_Compare1 (h e s σ H Q I d) c
def GJ{op:CmpOp}{t:TE}(h:PC X op a b t)(e:behindInMarks op b=false:=by first|exact Tv _ (by decide) (by decide)|rfl):PT X (.Compare a [op] [b] L) (tB t):=by
 intro l s σ H Q I g;refine wpAny_isTrue_Compare1 (AQ (h l s σ H _ I g) λv m e=>AQ e λu n i=>AQ i λc o⟨x,U,j,k,f⟩=>?_) e;replace f:=mB.ex f;obtain⟨d,rfl,q⟩:=f;cases k;exact FN ⟨U,j,q⟩
def FZ{t:TE}(h:PE X e t)(b:∀whole,isTrue e X.env whole=(do let v <-whole;standAt e.pos;holding [v] (truthy v)):=by intro _;rfl):PT X e (tB t):=by
 intro i s σ H Q I c;refine isTrue_plain (AQ (h i s σ H _ I c) λv j⟨x,U,f,g,a⟩=>?_) (b _);replace a:=mB.ex a;obtain⟨d,rfl,q⟩:=a;cases g;exact FN ⟨U,f,q⟩
variable {tA tB':TT} {j:O'}
def Rb (t u:TT):TT:=λσ H Q=>t σ H λc U=>if c=true then u σ U Q else Q false U
def Tx (t u:TT):TT:=λσ H Q=>t σ H λc U=>if c=true then Q true U else u σ U Q
def Rc (t:TT):TT:=λσ H Q=>t σ H λc U=>Q (!c) U
def KN(b:PT X a tA):PW X (.BoolOp .And [a] L) tA:=by
 intro f d s σ H Q I h;refine isTrue_and (AQ (b d s σ H Q I h) λc g e=>?_);cases c with|true=>exact isTrue_and_nil e|false=>exact e
def Re(b:PT X a tA):PW X (.BoolOp .Or [a] L) tA:=by
 intro f d s σ H Q I h;refine isTrue_or (AQ (b d s σ H Q I h) λc g e=>?_);cases c with|false=>exact isTrue_or_nil e|true=>exact e
def KO(g:PT X a tA)(i:PW X (.BoolOp .And (b::j) L) tB'):PW X (.BoolOp .And (a::b::j) L) (Rb tA tB'):=by
 intro k f s σ H Q I h;refine isTrue_and (AQ (g f s σ H _ I h) λc l⟨U,d,e⟩=>?_);cases c with|true=>exact i k f l σ U Q d e|false=>exact⟨U,d,e⟩
def OU(g:PT X a tA)(i:PW X (.BoolOp .Or (b::j) L) tB'):PW X (.BoolOp .Or (a::b::j) L) (Tx tA tB'):=by
 intro k f s σ H Q I h;refine isTrue_or (AQ (g f s σ H _ I h) λc l⟨U,d,e⟩=>?_);cases c with|true=>exact⟨U,d,e⟩|false=>exact i k f l σ U Q d e
def JU(b:PT X a tA):PT X (.UnaryOp .Not a L) (Rc tA):=by intro d s σ H Q I h;exact isTrue_not (b d s σ H (λc U=>Q (!c) U) I h)
def M8 (ta tb:TE):TE:=λσ H Q=>ta σ H λx U=>∃c,x=.bl c/\if c=true then tb σ U Q else Q (.bl false) U
def M9 (ta:TE):TE:=λσ H Q=>ta σ H λx U=>∃c,x=.bl c/\Q (.bl (!c)) U
def GY{op}{t:TE}(h:PE X a t):PE X (.BoolOp op [a] L) t:=λc s σ H Q I b=>BoolOp_one (h c s σ H Q I b)
def Rf(g:PE X a ta)(i:PE X (.BoolOp .And (b::j) L) tb):PE X (.BoolOp .And (a::b::j) L) (M8 ta tb):=by
 intro f s σ H Q I h;refine BoolOp_and (AQ (g f s σ H _ I h) λv k⟨x,U,e,l,d⟩=>?_);obtain⟨c,rfl,d⟩:=d;cases l;refine FN ?_;cases c with|true=>exact i f k σ U Q e d|false=>exact⟨.bl false,U,e,rfl,d⟩
def KP(d:PE X a ta):PE X (.UnaryOp .Not a L) (M9 ta):=by intro g s σ H Q I h;refine UnaryOp_ (AQ (d g s σ H _ I h) λv i⟨x,U,e,f,b⟩=>?_);obtain⟨c,rfl,b⟩:=b;cases f;exact not_of (FN ⟨.bl (!c),U,e,rfl,b⟩)
end
def Ai (K:Aj) (H:Hp) (a:Addr) (xs:S'):Prop:=
 Rd H a (.lst xs) \/
  ∃(o:Obj)(its:M')(n:Nat),K.lookup a=some o/\o.cls=.type "list" /\ o.dict=none/\o.data=.seq its n/\its.size<=sizeLine/\Aw xs its.toList
def Aq (K:Aj) (H:Hp) (a:Addr) (xs:S'):Prop:=
 Rd H a (.tup xs) \/
  ∃(o:Obj)(its:M')(n:Nat),K.lookup a=some o/\o.cls=.type "tuple" /\ o.data=.seq its n/\its.size<=sizeLine/\Aw xs its.toList
def Rg:Value->U'
 |.none=>some .non
 |.bool b=>some (.bl b)
 |.int i _=>some (.int i)
 |.str x _=>some (.str x)
 |.bytes b _=>some (.byt b)
 |.float b _=>some (.flt b)
 |.ref a=>some (.ref a)
 |.type n=>some (.ty n)
 |_=>none
variable {x:V}
def RelV.abs{u:Value}(r:RelV x u):Rg u=some x:=by
 cases x with|non=>cases r;rfl|bl _=>cases r;rfl|int _=>obtain⟨t,rfl⟩:=r;rfl|str _=>obtain⟨t,rfl⟩:=r;rfl|byt _=>obtain⟨t,rfl⟩:=r;rfl|flt _=>obtain⟨t,rfl⟩:=r;rfl|ref _=>cases r;rfl|ty _=>cases r;rfl
def RelV.inj{y:V}{u:Value}(r:RelV x u)(q:RelV y u):x=y:=BU (r.abs.symm.trans q.abs)
theorem Aw.inj:∀{xs ys:S'}{a:F'},Aw xs a->Aw ys a->xs=ys
 |_,_,_,.nil,.nil=>rfl
 |_,_,_,.cons r t,.cons b t'=>by rw[r.inj b,Aw.inj t t']
section
variable {X:Cx} {pins:B'} {σ:St} {H:Hp} {s:Shared} {a:Addr} {xs ys:S'}
def Ai.of{K:Aj}(h:H a=some (.lst xs)):Ai K H a xs:=.inl (.inl h)
def Aq.of{K:Aj}(h:H a=some (.tup xs)):Aq K H a xs:=.inl (.inl h)
def Inv.list(I:Inv X pins σ H s)(h:Ai X.K H a xs):∃b:F',Aw xs b/\PlainL s.heap a b.toArray/\xs.length<=sizeLine:=by rcases h with h|⟨o,b,n,c,d,hd,f,g,r⟩;obtain⟨z,b,n,r,e⟩:=h.ok I.hok;exact⟨b,r,⟨_,n,e,rfl,rfl,rfl⟩,z⟩;refine⟨b.toList,r,⟨o,n,I.kIn a o c,d,hd,by simpa using f⟩,?_⟩;have e:=r.length;simp only[Array.length_toList] at e;lia
def Inv.tuple(I:Inv X pins σ H s)(h:Aq X.K H a xs):∃b:F',Aw xs b/\IsTup s.heap a b.toArray/\xs.length<=sizeLine:=by rcases h with h|⟨o,b,n,c,d,f,g,r⟩;obtain⟨z,b,r,p⟩:=h.ok I.hok;exact⟨b,r,p,z⟩;refine⟨b.toList,r,⟨o,I.kIn a o c,d,n,by simpa using f⟩,?_⟩;have e:=r.length;simp only[Array.length_toList] at e;lia
def Inv.list_inj(I:Inv X pins σ H s)(h:Ai X.K H a xs)(h':Ai X.K H a ys):xs=ys:=by obtain⟨i,r,⟨o,n,e,_,_,d⟩,_⟩:=I.list h;obtain⟨j,f,⟨k,l,b,_,_,c⟩,_⟩:=I.list h';rw[e] at b;cases b;rw[d] at c;injection c with g _;have:i=j:=(by simpa using By Array.toList g);subst this;exact r.inj f
def Inv.tuple_inj(I:Inv X pins σ H s)(h:Aq X.K H a xs)(h':Aq X.K H a ys):xs=ys:=by obtain⟨i,r,⟨o,e,_,n,d⟩,_⟩:=I.tuple h;obtain⟨j,f,⟨k,b,_,l,c⟩,_⟩:=I.tuple h';rw[e] at b;cases b;rw[d] at c;injection c with g _;have:i=j:=(by simpa using By Array.toList g);subst this;exact r.inj f
end
abbrev Cx.wish (X:Cx) (E:D'):Cx:={X with xe:=E}
abbrev Cx.nox (X:Cx):Cx:=X.wish λζ ζ=>False
def Cx.Ok.wish{X:Cx}(ok:X.Ok)(E:D'):(X.wish E).Ok:=
 ⟨ok.mod,ok.kind,ok.glob,ok.blt,ok.above,ok.inj,ok.has,ok.cab,ok.hd,ok.frames,ok.stk,ok.exf,ok.bs,ok.bsz,ok.noex,ok.exfs,ok.funs,ok.frf⟩
def Cx.Ok.unwish(ok:(X.wish E).Ok):X.Ok:=
 ⟨ok.mod,ok.kind,ok.glob,ok.blt,ok.above,ok.inj,ok.has,ok.cab,ok.hd,ok.frames,ok.stk,ok.exf,ok.bs,ok.bsz,ok.noex,ok.exfs,ok.funs,ok.frf⟩
section
variable {X:Cx} {pins:B'} {σ:St} {H:Hp} {s:Shared} {E:D'}
def Inv.wish(I:Inv X pins σ H s)(E:D'):Inv (X.wish E) pins σ H s:=⟨I.ok.wish E,I.os,I.bare,I.base,I.loc,I.cell,I.free,I.freeC,I.pin,I.hok,I.len⟩
def Inv.unwish(I:Inv (X.wish E) pins σ H s):Inv X pins σ H s:=⟨I.ok.unwish,I.os,I.bare,I.base,I.loc,I.cell,I.free,I.freeC,I.pin,I.hok,I.len⟩
def SP.unwish{D:Ends}{f:Flow}{b:Shared}(h:SP (X.wish E) pins D f b):SP X pins D f b:=by
 cases f with|next=>obtain⟨σ',a,I,q⟩:=h;exact⟨σ',a,I.unwish,q⟩|brk=>obtain⟨σ',a,I,q⟩:=h;exact⟨σ',a,I.unwish,q⟩|cont=>obtain⟨σ',a,I,q⟩:=h;exact⟨σ',a,I.unwish,q⟩|ret u=>obtain⟨v,σ',a,I,r,q⟩:=h;exact⟨v,σ',a,I.unwish,r,q⟩
def FY.nox{st:List Stmt}{t:TS}(h:FY X.nox st t):FY X st t:=λpins s σ H D I a =>
 Fw (h pins s σ H D (I.wish _) a) (λζ ζ q=>q.unwish) λζ ζ z=>False.elim z
end
section
variable {X:Cx} {st:Stmt} {j:List Stmt} {t u:TS} {e:Expr} {te:TE} {L:Pos}
def JV:TS:=λD σ H=>D.nx σ H
def KQ (t u:TS):TS:=λD σ H=>(λζ=>t {D with nx:=u D} σ H) Nat.repr
def A7:FY X [] JV:=λζ ζ σ H ζ I h=>wpAny_execs_nil ⟨σ,H,I,h⟩
def Al(b:PS X st t)(c:FY X j u):FY X (st::j) (KQ t u):=by
 intro a s σ H D I h;refine wpAny_execs_cons (AQ (b a s σ H {D with nx:=u D} I h) λf d q=>?_);cases f with|next=>obtain⟨σ',e,g,q⟩:=q;exact c a d σ' e D g q|ret v=>exact q|brk=>exact q|cont=>exact q
def Ax(a:PS X st t):FY X [st] t:=by
 intro b s σ H D I h;refine wpAny_execs_cons (AQ (a b s σ H D I h) λf c q=>?_);cases f with|next=>exact wpAny_execs_nil q|ret v=>exact q|brk=>exact q|cont=>exact q
def Inv.quiet{pins:B'}{σ:St}(I:Inv X pins σ H s):interactive X.env=false:=by simp[interactive,I.ok.kind]
def Na (te:TE):TS:=λD σ H=>te σ H λζ U=>D.nx σ U
def E8(a:PE X e te)(b:swapsWith e none L.line X.env=pure false:=by rfl):PS X (.Expr e L) (Na te):=by intro f s σ H D I h;exact wpAny_Expr_any (AQ (a f s σ H _ I h) λv g⟨x,U,c,i,d⟩=>⟨σ,U,c,d⟩) I.quiet b
def Rh (te:TE):TS:=λD σ H=>te σ H D.rt
def AJ(a:PE X e te):PS X (.Return (some e) L) (Rh te):=by intro f s σ H D I h;exact wpAny_Return_some (AQ (a f s σ H _ I h) λv g⟨x,U,b,c,d⟩=>⟨x,σ,U,b,c,d⟩)
def Ri (c:TT) (t u:TS):TS:=λD σ H=>c σ H λb U=>if b=true then t D σ U else u D σ U
def A8{c:Expr}{a b:List Stmt}{l:TT}(j:PT X c l)(k:FY X a t)(m:FY X b u):PS X (.If c a b L) (Ri l t u):=by
 intro e s σ H D I h;refine wpAny_If (AQ (j e s σ H _ I h) λd f⟨U,g,i⟩=>?_);cases d with|true=>exact k e f σ U D g i|false=>exact m e f σ U D g i
def KR:TS:=λζ ζ ζ=>False
def WI:PS X st KR:=λζ ζ ζ ζ ζ ζ h=>h.elim
end
abbrev TG:=V->St->Hp->(St->Hp->Prop)->Prop
abbrev KS:=List V->St->Hp->(St->Hp->Prop)->Prop
def PG (X:Cx) (target:Expr) (t:TG):Prop:=
 ∀(pins:B')(s:Shared)(σ:St)(H:Hp)(v:V)(u:Value)(Q:St->Hp->Prop),Inv X pins σ H s->RelV v u->t v σ H Q ->
  wpAny (model X.prog X.w) X.A (assign target X.env u) (λζ s'=>∃σ' H',Inv X pins σ' H' s'/\Q σ' H') X.xe s
def Nb (X:Cx) (ts:O') (t:KS):Prop:=
 ∀(pins:B')(s:Shared)(σ:St)(H:Hp)(vs:S')(us:F')(Q:St->Hp->Prop),Inv X pins σ H s->Aw vs us->t vs σ H Q ->
  wpAny (model X.prog X.w) X.A (assignInOrder ((assignEach ts X.env).map (·.2)) us) (λζ s'=>∃σ' H',Inv X pins σ' H' s'/\Q σ' H') X.xe s
abbrev KU:=V->V->V->Hp->(Hp->Prop)->Prop
def Ix (X:Cx) (t:KU):Prop:=
 ∀(pins:B')(s:Shared)(σ:St)(H:Hp)(o i v:V)(ov iv u:Value)(Q:Hp->Prop),Inv X pins σ H s->RelV o ov->RelV i iv->RelV v u->t o i v H Q ->
  wpAny (model X.prog X.w) X.A (setItem ov iv u) (λζ s'=>∃H',Inv X pins σ H' s'/\Q H') X.xe s
abbrev Rj:=V->V->Hp->VK->Prop
def WJ (X:Cx) (op:Operator) (t:Rj):Prop:=
 ∀(pins:B')(s:Shared)(σ:St)(H:Hp)(x y:V)(v u:Value)(Q:VK),Inv X pins σ H s->RelV x v->RelV y u->t x y H Q ->
  wpAny (model X.prog X.w) X.A (inplaceOp op v u) (EP X pins σ Q) X.xe s
section
variable {X:Cx} {L:Pos}
def Go (i:Nat):TG:=λv σ H Q=>Q (σ.set i (some v)) H
variable {i:Nat}
def Ar{x:Str}(a:X.N.Nodup)(b:X.N[i]?=some x:=by rfl)(c:Loc X.env.scope x:=by first|exact .inl rfl|exact .inr rfl)(d:X.fn x=true\/X.env.scope.names.lookup x=some .local:=by first|exact .inl rfl|exact .inr rfl|assumption):PG X (.Name x L) (Go i):=by intro g s σ H v u Q I r h;exact wpAny_assign_Name (Q8 I a b c r (λf e=>⟨_,H,e,h⟩) d)
def Gp:KS:=λvs σ H Q=>mN vs (Q σ H)
def JW (t:TG) (u:KS):KS:=λvs σ H Q=>mC vs λv r=>t v σ H λσ' H'=>u r σ' H' Q
def BN:Nb X [] Gp:=by
 intro c s σ H a b Q I r h;replace h:=mN.ex h;obtain⟨e,h⟩:=h;subst e;cases r;exact assignInOrder_nil ⟨σ,H,I,h⟩
def Az{es:O'}{t:TG}{u:KS}(b:PG X e t)(c:Nb X es u)
 (d:(assignEach (e::es) X.env).map (·.2)=assign e X.env::(assignEach es X.env).map (·.2):=by rfl):Nb X (e::es) (JW t u):=by
 intro a s σ H l m Q I r h;replace h:=mC.ex h;obtain⟨v,n,f,h⟩:=h;subst f;cases r with|cons r g=>rw[d];refine assignInOrder_cons (AQ (b a s σ H _ _ _ I r h) λ_ i⟨σ1,U,j,k⟩=>?_);exact c a i σ1 U _ _ Q j g k
def Nc (K:Aj) (n:Nat) (t:KS):TG:=λv σ H Q=>mT v λa xs=>Aq K H a xs/\xs.length=n/\t xs σ H Q
def BO{es:O'}{k:Nat}{t:KS}{n:Nat}(g:X.calm=true)(h:Nb X es t)
 (i:(assignEach es X.env).length=n:=by rfl) (z:(assignEach es X.env).findIdx? (·.1)=none:=by rfl):PG X (.Tuple es k L) (Nc X.K n t):=by
 intro f s σ H v u Q I r c;replace c:=mT.ex c;obtain⟨a,j,l,m,p,c⟩:=c;subst l;cases r;obtain⟨B,d,q,A⟩:=I.tuple m;refine assign_Tuple_tuple (I.ok.hd g) q (by simp[i,<-p,d.length]) z λw x=>?_;have y:Inv X f σ H {s with heap:=w}:=I.kept (t':=s.toks) λb o e=>x b o (Ch (Bg e)) e;exact h f _ σ H j _ Q y (by simpa using d) c
def Rk (to ti:TE) (t:KU):TG:=λv σ H Q=>to σ H λo U=>ti σ U λi Z=>t o i v Z λH3=>Q σ H3
def JX{o i:Expr}{d e:TE}{t:KU}(f:PE X o d)(g:PE X i e)(j:Ix X t)
 (k:∀v,assign (.Subscript o i L) X.env v=(do
  let a <-holding [v] (eval o X.env)
  let b <-holding [v,a] (eval i X.env)
  standAt L
  holding [v,a,b] (setItem a b v)
  release [v,a,b] []):=by intro _;rfl):PG X (.Subscript o i L) (Rk d e t):=by
 intro c s σ H v u Q I r h;rw[k];refine Ae (Fl (AQ (f c s σ H _ I h) λa l⟨x,U,m,n,p⟩=>?_));refine Ae (Fl (AQ (g c l σ U _ m p) λb q⟨y,Z,w,z,A⟩=>?_));refine Ae (wpAny_standAt (Ae (Fl (AQ (j c q σ Z x y v a b u _ w n z r A) λ_ E⟨B,C,D⟩=>?_))));exact wpAny_release ⟨σ,B,C,D⟩
def Iy (te:TE) (g:TG):TS:=λD σ H=>(λζ=>te σ H λx U=>g x σ U D.nx) Nat.repr
variable {te:TE}
def Cf{a:Expr}{g:TG}(c:PE X e te)(d:PG X a g)(f:swapsWithSole [a] e L.line X.env=pure false:=by rfl)(i:swappedStores [a] e X.env=pure none:=by rfl)
 (j:(assignEach [a] X.env).map (·.2)=[assign a X.env]:=by rfl):PS X (.Assign [a] e L) (Iy te g):=by
 intro b s σ H D I h;refine wpAny_Assign_stores (AQ (c b s σ H _ I h) λv k⟨x,U,l,m,n⟩=>?_) f i;rw[j];exact AQ (d b k σ U x v _ l m n) λζ o q=>q
def AU{x:Str}{t:Pos}(a:X.N.Nodup)(b:PE X e te)(c:X.N[i]?=some x:=by rfl)(d:Loc X.env.scope x:=by first|exact .inl rfl|exact .inr rfl)(f:swapsWith e (some (.Name x t)) L.line X.env=pure false:=by rfl)(g:X.fn x=true\/X.env.scope.names.lookup x=some .local:=by first|exact .inl rfl|exact .inr rfl|assumption) :
 PS X (.Assign [.Name x t] e L) (Iy te (Go i)):=by
 intro n s σ H D I h;refine wpAny_Assign_Name (AQ (b n s σ H _ I h) λv o⟨y,U,j,k,l⟩=>?_) f;exact Q8 j a c d k (λp m=>⟨_,U,m,l⟩) g
def Nd (i:Nat) (te:TE) (ti:Rj):TS:=λD σ H=>∃x,σ[i]?=some (some x)/\te σ H λy U=>ti x y U λz Z=>D.nx (σ.set i (some z)) Z
def KW{x:Str}{op:Operator}{f:Rj}{t:Pos}(j:X.N.Nodup)(g:X.N[i]?=some x)(b:Loc X.env.scope x)(n:PE X e te)(o:WJ X op f)(p:X.fn x=true\/X.env.scope.names.lookup x=some .local:=by first|exact .inl rfl|exact .inr rfl|assumption) :
 PS X (.AugAssign (.Name x t) op e L) (Nd i te f):=by
 intro d s σ H D I h;obtain⟨v,q,h⟩:=h;obtain⟨m,A,B⟩:=I.loc;have S:OT X.env.scope x:=by rcases b with k|k;exact .inl k;exact .inr (.inl k)
 obtain⟨u,r,l⟩:=B i x v g q S;refine wpAny_AugAssign_Name ?_;have go:wpAny (model X.prog X.w) X.A (eval e X.env) (λw C=>wpAny (model X.prog X.w) X.A (inplaceOp op u w) (λr E=>wpAny (model X.prog X.w) X.A (storeName X.env x r) (λζ=>SP X d D .next) X.xe E) X.xe C) X.xe s:=(by refine AQ (n d s σ H _ I h) λw F⟨y,U,G,J,K⟩=>?_;refine AQ (o d F σ U v y u w _ G r J K) λz V⟨W,Z,M,N,O⟩=>?_;exact Q8 M j g b N (λY P=>⟨_,Z,P,O⟩) p);rcases l with⟨a,Q⟩|⟨a,c,R,T⟩;exact wpAny_loadName_local I.ok.kind a A Q go;rcases a with a|a;exact wpAny_loadName_cell I.ok.kind a R T go;rcases b with k|k;have:X.env.scope.names.lookup x=some .free:=a;rw[k] at this;cases this;have:X.env.scope.names.lookup x=some .free:=a;rw[k] at this;cases this
end
section
variable {X:Cx} {L:Pos}
def KX (c:TT) (tb:TS):TS:=λD σ H=>∃W:Nat->St->Hp->Prop,(∃m,W m σ H)/\∀m σ H,W m σ H ->
 c σ H λb U=>if b=true then ∃N:St->Hp->Prop,(∀σ' H',N σ' H'->∃m',m'<m/\W m' σ' H')/\tb {D with nx:=N,ct:=N,bk:=D.nx} σ U else D.nx σ U
def WK{c:Expr}{body:List Stmt}{l:TT}{tb:TS}(p:PassesOwn (model X.prog X.w) X.A X.env X.xe)(u:PT X c l)(w:FY X body tb):PS X (.While c body [] L) (KX l tb):=by
 intro o s σ H D I h;obtain⟨W,⟨x,y⟩,turn⟩:=h;refine wpAny_While (codeAny_whileLoop (λn z=>∃σ' q,Inv X o σ' q z/\W n σ' q) ?_ x ⟨σ,H,I,y⟩);rintro n A ⟨σ1,U,B,C⟩;refine wpAny_passesOwn p (AQ (u o A σ1 U _ B (turn n σ1 U C)) λb E⟨Z,r,d⟩=>?_)
 cases b with
 |true=>
  obtain⟨N,t,d⟩:=d;rw[Ap rfl];refine wpAny_passesOwn p (AQ (w o E σ1 Z _ r d) λf F e=>?_);cases f with|next=>obtain⟨σ3,a,g,i⟩:=e;obtain⟨j,k,m⟩:=t σ3 a i;exact⟨j,k,σ3,a,g,m⟩|cont=>obtain⟨σ3,a,g,i⟩:=e;obtain⟨j,k,m⟩:=t σ3 a i;exact⟨j,k,σ3,a,g,m⟩|brk=>exact e|ret v=>exact e
 |false=>rw[Ag Ce];exact wpAny_execs_nil ⟨σ1,Z,r,d⟩
end
structure It where
 go:Nat->Hp->Prop
 yld:Nat->Hp->V->Hp->Prop
 stop:Nat->Hp->Prop
def C1 (X:Cx) (pins:B') (H:Hp) (b:Addr):Prop:=
 H b=none/\b≠X.env.locals/\b∉X.fs/\(b∈X.ex\/X.s₀.heap.objs.size<=b)/\(∀x c,X.env.cells.lookup x=some c->c≠b)/\∀p∈X.pn++pins,p.1≠b
variable {pins:B'}{σ:St}
def Inv.fpOk{H':Hp}(I:Inv X pins σ H s)(a:s.heap.objs.size<=b)(d:H' b=none):C1 X pins H' b:=by refine⟨d,Nat.ne_of_gt (Fj I.lt a),I.nofs a,.inr (Ea I.sz a),λx c e z=>?_,λp f z=>?_⟩;obtain⟨v,q⟩:=I.cell x c e;exact absurd (Fj q.lt (by rw[z];exact a)) (GU _);exact absurd (Fj (Bg (I.pin p f).1) (by rw[z];exact a)) (GU _)
structure F0 (P:Program) (w:World) (K:Aj) (tg:Expr) (J:It) (fp:G') (it:Addr) (tn:Nat->Heap->Prop):Prop where
 mem:it∈fp
 obj:∀i h,tn i h->∀b∈fp,∃o,h.get? b=some o/\∀v,o.data≠.cell v
 keep:∀i h h',tn i h->(∀b∈fp,∀o,h.get? b=some o->h'.get? b=some o)->tn i h'
 item:∀(X:Cx),X.prog=P->X.w=w->X.K=K->X.calm=true->∀(i:Nat)(pins:B')(s:Shared)(σ:St)(H:Hp)(E:D'),Inv X pins σ H s->(∀b∈fp,C1 X pins H b)->tn i s.heap->J.go i H ->
  wpAny (model P w) X.A (pyNext (.ref it)) (λr s1=>∃u,r=some u /\
   wpAny (model P w) X.A (letOwnedTupleGo tg (.ref it) u) (λζ s2=>∃x H',Inv X pins σ H' s2/\RelV x u/\J.yld i H x H'/\tn (i+1) s2.heap/\∀b∈fp,H' b=none) E s1) E s
 done:∀(X:Cx),X.prog=P->X.w=w->X.K=K->X.calm=true->∀(i:Nat)(pins:B')(s:Shared)(σ:St)(H:Hp)(E:D'),Inv X pins σ H s->(∀b∈fp,C1 X pins H b)->tn i s.heap->J.stop i H ->
  wpAny (model P w) X.A (pyNext (.ref it)) (λr s1=>r=none/\Inv X pins σ H s1) E s
 self:∀(A:Around)(i:Nat)(s:Shared)(Q:D')(E:D'),tn i s.heap->Q (.ref it) s->wpAny (model P w) A (pyIter (.ref it)) Q E s
abbrev TI:=St->Hp->(It->Hp->Prop)->Prop
def Rl (X:Cx) (pins:B') (σ:St) (tg:Expr) (R:It->Hp->Prop) (itv:Value) (s2:Shared):Prop:=
 ∃(it:Addr)(fp:G')(tn:Nat->Heap->Prop)(J:It)(H':Hp),itv=.ref it/\Inv X pins σ H' s2/\F0 X.prog X.w X.K tg J fp it tn/\tn 0 s2.heap/\(∀b∈fp,C1 X pins H' b)/\R J H'
def PI (X:Cx) (tg j:Expr) (wi:TI):Prop:=
 ∀(pins:B')(s:Shared)(σ:St)(H:Hp)(R:It->Hp->Prop),Inv X pins σ H s->wi σ H R ->
  wpAny (model X.prog X.w) X.A (eval j X.env) (λv s1=>wpAny (model X.prog X.w) X.A (pyIter v) (Rl X pins σ tg R) X.xe s1) X.xe s
variable {tg:Expr}
def GZ{M:Model}{b:Addr}{u:Value}{o:Obj}{n:String}{vs:M'}{Q:Unit->Shared->Prop}(c:s.heap.get? b=some o)(d:o.cls=.type n)(hd:o.data=.fields vs)
 (e:["enumerate", "zip", "dict_itemiterator", "dict_reverseitemiterator", "odict_iterator", "itertools.zip_longest", "itertools.pairwise"].contains n=false) (a:Q () s):wpAny M A (letOwnedTupleGo tg (.ref b) u) Q E s:=by
 unfold letOwnedTupleGo
 cases tg<;>first
  |exact Ay a
  |(cases u<;>first
   |exact Ay a
   | (refine Ae (wpAny_load c ?_)
      rw[d,hd];show wpAny M A (if(["enumerate", "zip", "dict_itemiterator", "dict_reverseitemiterator", "odict_iterator", "itertools.zip_longest", "itertools.pairwise"].contains n && vs[0]?==some (rawInt _))=true then _ else _) Q E s;rw[Ag (by intro h;rw[e,Bool.false_and] at h;cases h)];exact Ay a))
def Mr (K:Aj) (a:Addr):It:=
 ⟨λi H=>∃xs x,Ai K H a xs/\xs[i]?=some x,λi H x H'=>H'=H/\∀xs,Ai K H a xs->xs[i]?=some x,λi H=>∃xs,Ai K H a xs/\xs.length<=i⟩
def Nf (lo:Int) (n:Nat):It:=⟨λi ζ=>i<n,λi H x H'=>H'=H/\x=.int (lo+i),λi ζ=>n<=i⟩
theorem WL{K:Aj}(a g:Addr):F0 P w K tg (Mr K a) [g] g (λi h=>h.IsListIter g a i) where
 mem:=by simp
 obj:=λi h f b j=>by have e:b=g:=(by simpa using j);subst e;obtain⟨o,e,c,d⟩:=f;exact⟨o,e,λv z=>by rw[d] at z;cases z⟩
 keep:=λi h l f k=>f.at λo e=>k g (by simp) o e
 item:=by intro X q r t L i pins s σ H E I m f y;subst q r t;obtain⟨N,x,n,A⟩:=y;obtain⟨Y,B,p,O⟩:=I.list n;obtain⟨u,Q,R⟩:=B.get A;obtain⟨C,D,S,F,G,J⟩:=m g (by simp);refine wpAny_pyNext_list_item f p.isList (x:=u) (by simpa using Q) λl M T=>?_;have U:Inv X pins σ H {s with heap:=l}:=I.turned (t':=s.toks) (λb o j e=>(T.2 b j).trans e) C D F G J;obtain⟨o,e,c,d⟩:=id M;exact⟨u,rfl,GZ (s:={s with heap:=l}) e c d (by decide) ⟨x,H,U,R,⟨rfl,λZ V=>by rw[I.list_inj V n];exact A⟩,M,λb j=>(m b j).1⟩⟩
 done:=by intro X q r t L i pins s σ H E I m f y;subst q r t;obtain⟨N,n,A⟩:=y;obtain⟨Y,B,p,O⟩:=I.list n;obtain⟨C,D,S,F,G,J⟩:=m g (by simp);have hl:=B.length;exact wpAny_pyNext_list_end (I.ok.hd L) f p.isList (by simp;lia) λl W=>⟨rfl,I.turned (t':=s.toks) (λb o j e=>W b o j e) C D F G J⟩
 self:=λζ ζ ζ ζ ζ f h=>wpAny_pyIter_listiter f h
def WM{K:Aj}(c:Addr)(lo:Int)(n:Nat):F0 P w K tg (Nf lo n) [c] c (λi h=>IsRangeIter h c (lo+(i:Nat)*1) ((n:Int)-(i:Nat)) 1) where
 mem:=by simp
 obj:=λi h a b d=>by
  have e:b=c:=(by simpa using d);subst e
  exact⟨_,a,λv z=>by
   have D:Data.fields _=Data.cell v:=z;cases D⟩
 keep:=λi h f a k=>k c (by simp) _ a
 item:=by intro X j l m p i pins s σ H E I g a q;subst j l m;obtain⟨r,u,F,x,y,A⟩:=g c (by simp);have W:=Walks.range (prog:=X.prog) (w:=X.w) (I.ok.hd p) c lo 1 n;refine W.item i s _ _ q a λv f B G C Y=>?_;obtain⟨t,rfl⟩:=G;have J:Inv X pins σ H {s with heap:=f,toks:=B}:=I.turned (λb o d e=>Y b o (by simpa using d) e) r u x y A;refine⟨_,rfl,GZ (s:={s with heap:=f,toks:=B}) (n:= "range_iterator") C rfl rfl (by decide) ⟨.int (lo+i),H,J,⟨t,?_⟩,⟨rfl,rfl⟩,C,λb d=>(g b d).1⟩⟩;rw[Int.mul_one]
 done:=by intro X j l m p i pins s σ H E I g a q;subst j l m;obtain⟨r,u,F,x,y,A⟩:=g c (by simp);exact wpAny_pyNext_range_end (I.ok.hd p) a (by have:n<=i:=q;lia) λf L=>⟨rfl,I.turned (t':=s.toks) (λb o d e=>L b o d e) r u x y A⟩
 self:=λζ ζ ζ ζ ζ a h=>wpAny_pyIter_rangeiter a h
section
variable {X:Cx} {tg:Expr}
def Ng (K:Aj) (tl:TE):TI:=λσ H R=>tl σ H λx U=>mR x λa=>(∃xs,Ai K U a xs)/\R (Mr K a) U
def Dy{l:Expr}{tl:TE}(g:PE X l tl):PI X tg l (Ng X.K tl):=by
 intro pins s σ H R I h;refine AQ (g pins s σ H _ I h) λv c⟨x,U,d,i,f⟩=>?_;replace f:=mR.ex f;obtain⟨a,e,⟨m,j⟩,q⟩:=f;subst e;cases i;obtain⟨t,n,p,r⟩:=d.list j;refine wpAny_pyIter_list p.isList ?_;refine⟨c.heap.objs.size,[c.heap.objs.size],_,_,U,rfl,d.kept (t':=c.toks) λb o e=>Ba _ e,WL a _,⟨_,Cb _ rfl,rfl,rfl⟩,λb k=>?_,q⟩;have e:b=c.heap.objs.size:=(by simpa using k);subst e;exact d.fpOk (AK _) (d.hok.fresh (AK _))
def WN{R:It->Hp->Prop}{lo a:Int}{t u v:Tok}{c:Nat}(I:Inv X pins σ H s)(f:-(2 ^ 62)<=lo)(g:lo<2 ^ 62)(h:-(2 ^ 62)<=a)(i:a<2 ^ 62)
 (q:R (Nf lo (a-lo).toNat) H):wpAny (model X.prog X.w) X.A (pyIter (.ref s.heap.objs.size)) (Rl X pins σ tg R) E {s with heap:=s.heap.push {cls:=.type "range",data:=.fields #[.int lo t,.int a u,.int 1 v]},toks:=c}:=by
 refine wpAny_pyIter_range (IsRange.new ..) (small_one f g h i) ?_;have d:Inv X pins σ H {s with heap:=s.heap.push {cls:=.type "range",data:=.fields #[.int lo t,.int a u,.int 1 v]},toks:=c}:=I.kept λb o e=>Ba _ e
 refine⟨(s.heap.push {cls:=.type "range",data:=.fields #[.int lo t,.int a u,.int 1 v]}).objs.size,[(s.heap.push {cls:=.type "range",data:=.fields #[.int lo t,.int a u,.int 1 v]}).objs.size],_,_,H,rfl,
  d.kept (t':=c) λb o e=>Ba _ e,WM _ lo (a-lo).toNat,?_,λb j=>?_,q⟩
 have k:lo+((0:Nat):Int)*1=lo:=(by simp);have l:(((a-lo).toNat:Nat):Int)-((0:Nat):Int)=Builtin.Range.rangeSize lo a 1:=by rw[rangeSize_one];split<;>lia
 show IsRangeIter _ _ (lo+((0:Nat):Int)*1) ((((a-lo).toNat:Nat):Int)-((0:Nat):Int)) 1;rw[k,l];exact Cb _ rfl;have e:b=(s.heap.push {cls:=.type "range",data:=.fields #[.int lo t,.int a u,.int 1 v]}).objs.size:=(by simpa using j);subst e;exact d.fpOk (AK _) (d.hok.fresh (AK _))
def Nh (ta:TA):TI:=λσ H R=>ta σ H λvs U=>mJ vs λj=>-(2 ^ 62)<=j/\j<2 ^ 62/\R (Nf 0 j.toNat) U
def Ib{a:Expr}{c:TA}{p L:Pos}(d:Gl X "range")(f:X.mg "range" = none)(g:PA X [a] c)(i:starEach [a] X.env=[(false,eval a X.env)]:=by rfl):PI X tg (.Call (.Name "range" p) [a] [] L) (Nh c):=by
 intro pins s σ H R I h;refine Call_ (KL I d f boot_range (PyProof.Rows.callWith_type1 (AQ (g L pins s σ H _ I h) λo u⟨v,U,k,l,b⟩=>?_) i rfl));replace b:=mJ.ex b;obtain⟨j,e,b,m,q⟩:=b;subst e;cases l with|cons r n=>cases n;obtain⟨t,rfl⟩:=r;exact call_range_1 (WN k (by lia) (by lia) b m (by simpa using q))
def Fy (J:It) (g:TG) (tb:TS) (D:Ends) (σ:St) (U:Hp):Prop:=∃W:Nat->Nat->St->Hp->Prop,(∃m,W 0 m σ U)/\∀i m σ H,W i m σ H ->
 (J.stop i H/\D.nx σ H)\/(J.go i H/\∃N:St->Hp->Prop,(∀σ' H',N σ' H'->∃m',m'<m/\W (i+1) m' σ' H')/\∀x H',J.yld i H x H'->g x σ H' λσ2 Z=>tb {D with nx:=N,ct:=N,bk:=D.nx} σ2 Z)
def Rm (wi:TI) (g:TG) (tb:TS):TS:=λD σ H=>wi σ H λJ U=>Fy J g tb D σ U
def Ni (fp:G') (h:Heap):B':=fp.filterMap λb=>(h.get? b).map λo=>(b,o)
variable {fp:G'}
def OV{o:Obj}(a:b∈fp)(e:h.get? b=some o):(b,o)∈Ni fp h:=List.mem_filterMap.mpr ⟨b,a,by rw[e];rfl⟩
def WO{p:Addr×Obj}(a:p∈Ni fp h):p.1∈fp/\h.get? p.1=some p.2:=by
 obtain⟨b,c,e⟩:=List.mem_filterMap.mp a;cases q:h.get? b with|none=>rw[q] at e;cases e|some o=>rw[q] at e;have d:(b,o)=p:=BU e;subst d;exact⟨c,q⟩
theorem Inv.pinned(I:Inv X pins σ H s)(f:∀b∈fp,C1 X pins H b)(g:∀b∈fp,∃o,s.heap.get? b=some o/\∀v,o.data≠.cell v):Inv X (pins++Ni fp s.heap) σ H s:=
 I.pins_of λp h=>(BI.mp h).elim (λz=>I.pin p (DI _ z)) λz=>by obtain⟨a,e⟩:=WO z;obtain⟨i,j,k,_⟩:=f p.1 a;obtain⟨o,c,d⟩:=g p.1 a;rw[e] at c;cases c;exact⟨e,i,j,k,d⟩
theorem Inv.unpinned{a:B'}(I:Inv X (pins++a) σ H s):Inv X pins σ H s:=I.pins_of λp b=>I.pin p (DI _ (GG _ b))
def Dq{j:Expr}{body:List Stmt}{B:TI}{g:TG}{tb:TS}{L:Pos}(p:PassesOwn (model X.prog X.w) X.A X.env X.xe)(C:X.calm=true)(Q:PI X tg j B)(R:PG X tg g)(a:FY X body tb)
 (S:∀x,foldedSetIterable j X.env x=pure x:=by intro _;rfl):PS X (.For tg j body [] L) (Rm B g tb):=by
 intro pins s σ H af I h;refine wpAny_For (AQ (Q pins s σ H _ I h) λv s1 U=>AQ U λai s2 V=>?_) S;obtain⟨it,fp,D,ag,Z,e,Y,T,aa,E,W,⟨m0,w0⟩,turn⟩:=V;subst e;have A:∀{k:Hp},(∀b∈fp,k b=none)->∀b∈fp,C1 X pins k b:=λhn b a=>⟨hn b a,(E b a).2⟩;refine codeAny_forLoop_any (λn F=>∃i σ' k,Inv X pins σ' k F/\D i F.heap/\(∀b∈fp,k b=none)/\W i n σ' k) ?_ m0 ⟨0,σ,Z,Y,aa,λb a=>(E b a).1,w0⟩;rintro n G ⟨i,σ3,t,J,O,P,w3⟩;rcases turn i n σ3 t w3 with⟨stop,qn⟩|⟨go,N,hN,step⟩
 . refine wpAny_passesOwn p (AQ (T.done X rfl rfl rfl C i pins G σ3 t X.xe J (A P) O stop) λr s4⟨w,I4⟩=>?_)
   subst w;exact wpAny_execs_nil ⟨σ3,t,I4,qn⟩
 . refine wpAny_passesOwn p (AQ (T.item X rfl rfl rfl C i pins G σ3 t X.xe J (A P) O go) λr s4⟨u,w,h4⟩=>?_)
   subst w;refine wpAny_passesOwn p (AQ h4 λ_ K⟨x,M,I5,r5,y5,z,ab⟩=>?_);have ae:=I5.pinned (A ab) (T.obj _ _ z);refine wpAny_passesOwn p (AQ (R _ K σ3 M x u _ ae r5 (step x M y5)) λ_ s6⟨σ6,H6,I6,q6⟩=>?_);refine wpAny_passesOwn p (AQ (a _ s6 σ6 H6 _ I6 q6) λf y l=>?_)
   have again:∀{σ7:St}{c:Hp},Inv X (pins++Ni fp K.heap) σ7 c y->N σ7 c->∃m,m<n/\∃i σ' k,Inv X pins σ' k y/\D i y.heap/\(∀b∈fp,k b=none)/\W i m σ' k:=λ{σ7 c}d q=>by
    obtain⟨m',hm,w7⟩:=hN σ7 c q;refine⟨m',hm,i+1,σ7,c,d.unpinned,T.keep _ _ _ z λb a o e=>(d.pin (b,o) (DI _ (DI _ (OV a e)))).1,λb a=>?_,w7⟩;obtain⟨o,e,ah⟩:=T.obj _ _ z b a;exact(d.pin (b,o) (DI _ (DI _ (OV a e)))).2.1
   cases f with|next=>obtain⟨σ7,c,d,q⟩:=l;exact again d q|cont=>obtain⟨σ7,c,d,q⟩:=l;exact again d q|brk=>obtain⟨σ7,c,d,l⟩:=l;exact⟨σ7,c,d.unpinned,l⟩|ret v=>obtain⟨x7,σ7,c,d,r7,l⟩:=l;exact⟨x7,σ7,c,d.unpinned,r7,l⟩
end
variable {g:TG}{tb:TS}{D:Ends}
def Nj{J:It}(n:Nat)(Pv:Nat->St->Hp->Prop)(b:Pv 0 σ H)(go:∀i σ H,Pv i σ H->i<n->J.go i H)(stop:∀σ H,Pv n σ H->J.stop n H)
 (c:∀i v σ H H',Pv i σ H->i<n->J.yld i H v H'->g v σ H' λσ2 Z=>tb {D with nx:=Pv (i+1),ct:=Pv (i+1),bk:=D.nx} σ2 Z) (hd:∀σ H,Pv n σ H->D.nx σ H):Fy J g tb D σ H:=by
 unfold Fy;refine⟨λi m σ H=>m=n-i/\i<=n/\Pv i σ H,⟨_,rfl,Dp _,b⟩,?_⟩;rintro i m σ H ⟨rfl,d,p⟩;by_cases a:i<n;exact .inr ⟨go i σ H p a,Pv (i+1),λσ' H' R=>⟨n-(i+1),by lia,rfl,a,R⟩,λv H' y=>c i v σ H H' p a y⟩
 . obtain rfl:i=n:=by lia
   exact .inl ⟨stop σ H p,hd σ H p⟩
def Fz{K:Aj}{xs:S'}(Pv:Nat->St->Hp->Prop)(d:Pv 0 σ H)(c:∀i σ H,i<=xs.length->Pv i σ H->Ai K H a xs)
 (e:∀i x σ H,xs[i]?=some x->Pv i σ H->g x σ H λσ2 Z=>tb {D with nx:=Pv (i+1),ct:=Pv (i+1),bk:=D.nx} σ2 Z) (hd:∀σ H,Pv xs.length σ H->D.nx σ H):Fy (Mr K a) g tb D σ H:=Nj xs.length Pv d (λi σ H p b=>⟨xs,xs[i],c i σ H (CT b) p,by simp[b]⟩) (λσ H p=>⟨xs,c _ σ H (AK _) p,AK _⟩) (λi v σ H f p b y=>by obtain⟨rfl,y⟩:=y;exact e i v σ _ (y xs (c i σ _ (CT b) p)) p) hd
def Nk{lo:Int}{n:Nat}(Pv:Nat->St->Hp->Prop)(b:Pv 0 σ H)
 (c:∀i σ H,i<n->Pv i σ H->g (.int (lo+i)) σ H λσ2 Z=>tb {D with nx:=Pv (i+1),ct:=Pv (i+1),bk:=D.nx} σ2 Z) (hd:∀σ H,Pv n σ H->D.nx σ H):Fy (Nf lo n) g tb D σ H:=Nj n Pv b (λi σ H p a=>a) (λσ H p=>AK _) (λi v σ H d p a y=>by obtain⟨rfl,rfl⟩:=y;exact c i σ _ a p) hd
abbrev R2:=V->V->Hp->VK->Prop
def CW (X:Cx) (f:Value->Value->Sem Value) (r:R2):Prop:=
 ∀(pins:B')(s:Shared)(σ:St)(H:Hp)(x y:V)(v u:Value)(Q:VK),Inv X pins σ H s->RelV x v->RelV y u->r x y H Q ->
  wpAny (model X.prog X.w) X.A (f v u) (EP X pins σ Q) X.xe s
def OW (X:Cx) (f:Value->Sem Value) (r:V->Hp->VK->Prop):Prop:=
 ∀(pins:B')(s:Shared)(σ:St)(H:Hp)(x:V)(v:Value)(Q:VK),Inv X pins σ H s->RelV x v->r x H Q ->
  wpAny (model X.prog X.w) X.A (f v) (EP X pins σ Q) X.xe s
def Br (X:Cx) (f:Value) (r:S'->Hp->VK->Prop):Prop:=
 ∀(pins:B')(s:Shared)(σ:St)(H:Hp)(xs:S')(us:F')(Q:VK),Inv X pins σ H s->Aw xs us->r xs H Q ->
  wpAny (model X.prog X.w) X.A (call f us) (EP X pins σ Q) X.xe s
def EI (r:R2) (ta tb:TE):TE:=λσ H Q=>ta σ H λx U=>tb σ U λy Z=>r x y Z Q
def WP (r:V->Hp->VK->Prop) (ta:TE):TE:=λσ H Q=>ta σ H λx U=>r x U Q
def rI (C:Int->Int->Prop) (g:Int->Int->V):R2:=λx y H Q=>Ia x y λi j=>C i j/\Q (g i j) H
def GK (g:Int->Int->V):R2:=λx y H Q=>Ia x y λi j=>Q (g i j) H
def rU (g:Int->V):V->Hp->VK->Prop:=λx H Q=>mI x λi=>Q (g i) H
section
variable {X:Cx} {a b c:Expr} {ta tb l:TE} {L:Pos}
variable {f:Value->Value->Sem Value}
def KY(d:PE X a ta)(e:PE X b tb){R:V->V->Hp->Prop}(I:Inv X pins σ H s)
 (h:ta σ H λx U=>tb σ U λy Z=>R x y Z) {Q:D'} (g:∀v u c x y Z,Inv X pins σ Z c->RelV x v->RelV y u->R x y Z->wpAny (model X.prog X.w) X.A (f v u) Q X.xe c) :
 wpAny (model X.prog X.w) X.A (eval a X.env) (λv i=>wpAny (model X.prog X.w) X.A (eval b X.env) (λu j=>wpAny (model X.prog X.w) X.A (f v u) Q X.xe j) X.xe i) X.xe s:=by
 refine AQ (d pins s σ H _ I h) λv k⟨x,U,l,m,n⟩=>?_;refine AQ (e pins k σ U _ l n) λu c⟨y,Z,o,p,q⟩=>?_;exact g v u c x y Z o m p q
def AG{op:Operator}{r:R2}(c:CW X (binaryOp op) r)(d:PE X a ta)(e:PE X b tb):PE X (.BinOp a op b L) (EI r ta tb):=by intro pins s σ H Q I h;exact wpAny_BinOp (KY d e I h λv u f x y Z g i j q=>c pins f σ Z x y v u Q g i j q)
def Ms{op:UnaryOp}{r:V->Hp->VK->Prop}(b:OW X (unaryOp op) r)(c:PE X a ta):PE X (.UnaryOp op a L) (WP r ta):=by intro pins s σ H Q I h;exact UnaryOp_ (AQ (c pins s σ H _ I h) λv d⟨x,U,e,f,g⟩=>b pins d σ U x v Q e f g)
def OX{C:Int->Int->Prop}{g:Int->Int->Int}
 (e:∀(i j:Int)(t u:Tok)(s:Shared)(Q:D')(E:D'),C i j->Q (.int (g i j) s.toks) {s with toks:=s.toks+1}->wpAny (model X.prog X.w) X.A (f (.int i t) (.int j u)) Q E s) :
 CW X f (rI C λi j=>.int (g i j)):=by
 intro pins s σ H x y v u Q I a b h;replace h:=Ia.ex h;obtain⟨i,j,rfl,rfl,c,q⟩:=h;obtain⟨t,rfl⟩:=a;obtain⟨d,rfl⟩:=b;exact e i j t d s _ _ c ⟨.int (g i j),H,I.tok _,⟨_,rfl⟩,q⟩
def Iz{g:Int->Int->Int}
 (d:∀(i j:Int)(t u:Tok)(s:Shared)(Q:D')(E:D'),Q (.int (g i j) s.toks) {s with toks:=s.toks+1}->wpAny (model X.prog X.w) X.A (f (.int i t) (.int j u)) Q E s) :
 CW X f (GK λi j=>.int (g i j)):=by
 intro pins s σ H x y v u Q I a b h;replace h:=Ia.ex h;obtain⟨i,j,rfl,rfl,q⟩:=h;obtain⟨t,rfl⟩:=a;obtain⟨c,rfl⟩:=b;exact d i j t c s _ _ ⟨.int (g i j),H,I.tok _,⟨_,rfl⟩,q⟩
def KZ{g:Int->Int->Bool}
 (d:∀(i j:Int)(t u:Tok)(s:Shared)(Q:D')(E:D'),Q (.bool (g i j)) s->wpAny (model X.prog X.w) X.A (f (.int i t) (.int j u)) Q E s) :
 CW X f (GK λi j=>.bl (g i j)):=by
 intro pins s σ H x y v u Q I a b h;replace h:=Ia.ex h;obtain⟨i,j,rfl,rfl,q⟩:=h;obtain⟨t,rfl⟩:=a;obtain⟨c,rfl⟩:=b;exact d i j t c s _ _ ⟨.bl (g i j),H,I,rfl,q⟩
def Nl (i j:Int):Prop:=0<j/\j<1073741824
def Rn (i j:Int):Prop:=0<=j/\j<=1000000/\i.natAbs<2 ^ 64
def K0 (i j:Int):Prop:=(-(2 ^ 64)<i/\i<2 ^ 64)\/(-(2 ^ 64)<j/\j<2 ^ 64)
def K0.ok{i j:Int}(h:K0 i j):IntMulOk i j:=by rcases h with⟨a,b⟩|⟨a,b⟩;exact .of_left (intBits_le_64 a b);exact .of_right (intBits_le_64 a b)
def Ev:CW X (binaryOp .Add) (GK λi j=>.int (i+j)):=Iz λζ ζ ζ ζ ζ ζ ζ q=>add_int q
def Mt:CW X (binaryOp .Sub) (GK λi j=>.int (i-j)):=Iz λζ ζ ζ ζ ζ ζ ζ q=>sub_int q
def JY:CW X (binaryOp .Mult) (rI K0 λi j=>.int (i*j)):=OX λζ ζ ζ ζ ζ ζ ζ a q=>mul_int q a.ok
def Ew:CW X (binaryOp .FloorDiv) (rI Nl λi j=>.int (i/j)):=OX λi j ζ ζ ζ ζ ζ a q=>by have b:(0:Int)<j:=a.1;have c:j<1073741824:=a.2;exact floordiv_int (by lia) (by rw[Int.fdiv_eq_ediv_of_nonneg i (by lia)];exact q) (.inl (PyProof.noPylong_small (by lia)))
def Cv:CW X (binaryOp .Mod) (rI (λζ j=>0<j) λi j=>.int (i%j)):=OX λi j ζ ζ ζ ζ ζ a q=>by have b:(0:Int)<j:=a;exact mod_int' (by lia) (by rw[Int.fmod_eq_emod_of_nonneg i (by lia)];exact q)
def G0:CW X (binaryOp .LShift) (rI Rn λi j=>.int (i*2 ^ j.toNat)):=OX λζ ζ ζ ζ ζ ζ ζ a q=>lshift_int_small a.1 a.2.1 a.2.2 q
def Nm:CW X (binaryOp .BitOr) (GK λi j=>.int (Builtin.bitOr i j)):=Iz λζ ζ ζ ζ ζ ζ ζ q=>or_int q
def IA:CW X (inplaceOp .Add) (GK λi j=>.int (i+j)):=Iz λζ ζ ζ ζ ζ ζ ζ q=>iadd_int q
def WQ{f:Value->Sem Value}{g:Int->Int}
 (b:∀(i:Int)(t:Tok)(s:Shared)(Q:D')(E:D'),Q (.int (g i) s.toks) {s with toks:=s.toks+1}->wpAny (model X.prog X.w) X.A (f (.int i t)) Q E s) :
 OW X f (rU λi=>.int (g i)):=by
 intro pins s σ H x v Q I a h;replace h:=mI.ex h;obtain⟨i,rfl,q⟩:=h;obtain⟨t,rfl⟩:=a;exact b i t s _ _ ⟨.int (g i),H,I.tok _,⟨_,rfl⟩,q⟩
def Mu:OW X (unaryOp .USub) (rU λi=>.int (-i)):=WQ λζ ζ ζ ζ ζ q=>neg_int q
end
def K1:V->V->Bool
 |.non,.non=>true|.non,.int _=>true|.int _,.non=>true|.non,.bl _=>true|.bl _,.non=>true|.non,.str _=>true|.str _,.non=>true
 |.int _,.int _=>true|.bl _,.bl _=>true|.str _,.str _=>true|.byt _,.byt _=>true
 |.int _,.str _=>true|.str _,.int _=>true|.bl _,.str _=>true|.str _,.bl _=>true
 |_,_=>false
def Tz:R2:=λx y H Q=>K1 x y=true/\Q (.bl (decide (x=y))) H
def TC:R2:=λx y H Q=>K1 x y=true/\Q (.bl (!decide (x=y))) H
def TD{i j:Int}:decide (V.int i=V.int j)=(i==j):=by
 rw[Bool.eq_iff_iff];simp
def G3{i j:Bool}:decide (V.bl i=V.bl j)=(i==j):=by
 rw[Bool.eq_iff_iff];simp
def TF{i j:Str}:decide (V.str i=V.str j)=(i==j):=by
 rw[Bool.eq_iff_iff];simp
def TH{i j:Array UInt8}:decide (V.byt i=V.byt j)=(i.toList==j.toList):=by
 rw[Bool.eq_iff_iff];cases i;cases j;simp
section
variable {X:Cx} {a b c:Expr} {ta tb l:TE} {L:Pos}
def CY{Q:VK}{k a:Bool}(I:Inv X pins σ H s)(q:Q (.bl k) H)(e:k=a):EP X pins σ Q (.bool a) s:=by subst e;exact⟨.bl k,H,I,rfl,q⟩
def B0:CW X (compareOp .Eq) Tz:=by
 intro pins s σ H x y v u Q I d a h;obtain⟨c,q⟩:=h
 cases x with
 |non=>
  cases d;cases y with|non=>cases a;exact PySem.EqNone.eq_none_none (CY I q (by simp))|bl j=>cases a;exact PySem.EqNone.eq_none_bool (CY I q (by simp))|int j=>obtain⟨b,rfl⟩:=a;exact PySem.EqNone.eq_none_int (CY I q (by simp))|str j=>obtain⟨b,rfl⟩:=a;exact PySem.EqNone.eq_none_str (CY I q (by simp))|_=>exact absurd (show false=true from c) Ce
 |bl i=>
  cases d;cases y with|non=>cases a;exact PySem.EqNone.eq_bool_none (CY I q (by simp))|bl j=>cases a;exact eq_bool (CY I q G3)|str j=>obtain⟨b,rfl⟩:=a;exact PySem.EqMixed.eq_bool_str (CY I q (by simp))|_=>exact absurd (show false=true from c) Ce
 |int i=>
  obtain⟨t,rfl⟩:=d;cases y with|non=>cases a;exact PySem.EqNone.eq_int_none (CY I q (by simp))|int j=>obtain⟨b,rfl⟩:=a;exact eq_int (CY I q TD)|str j=>obtain⟨b,rfl⟩:=a;exact PySem.EqMixed.eq_int_str (CY I q (by simp))|_=>exact absurd (show false=true from c) Ce
 |str i=>
  obtain⟨t,rfl⟩:=d;cases y with|non=>cases a;exact PySem.EqNone.eq_str_none (CY I q (by simp))|bl j=>cases a;exact PySem.EqMixed.eq_str_bool (CY I q (by simp))|int j=>obtain⟨b,rfl⟩:=a;exact PySem.EqMixed.eq_str_int (CY I q (by simp))|str j=>obtain⟨b,rfl⟩:=a;exact eq_str (CY I q TF)|_=>exact absurd (show false=true from c) Ce
 |byt i=>
  obtain⟨t,rfl⟩:=d;cases y with|byt j=>obtain⟨b,rfl⟩:=a;exact PySem.W.eq_bytes (CY I q TH)|_=>exact absurd (show false=true from c) Ce
 |_=>cases y<;>exact absurd (show false=true from c) Ce
def Mv:CW X (compareOp .NotEq) TC:=by
 intro pins s σ H x y v u Q I d a h;obtain⟨c,q⟩:=h
 cases x with
 |non=>
  cases d;cases y with|non=>cases a;exact PySem.EqNone.ne_none_none (CY I q (by simp))|bl j=>cases a;exact PySem.EqNone.ne_none_bool (CY I q (by simp))|int j=>obtain⟨b,rfl⟩:=a;exact PySem.EqNone.ne_none_int (CY I q (by simp))|str j=>obtain⟨b,rfl⟩:=a;exact PySem.EqNone.ne_none_str (CY I q (by simp))|_=>exact absurd (show false=true from c) Ce
 |bl i=>
  cases d;cases y with|non=>cases a;exact PySem.EqNone.ne_bool_none (CY I q (by simp))|bl j=>cases a;exact ne_bool (CY I q (By not G3))|str j=>obtain⟨b,rfl⟩:=a;exact PySem.EqMixed.ne_bool_str (CY I q (by simp))|_=>exact absurd (show false=true from c) Ce
 |int i=>
  obtain⟨t,rfl⟩:=d;cases y with|non=>cases a;exact PySem.EqNone.ne_int_none (CY I q (by simp))|int j=>obtain⟨b,rfl⟩:=a;exact ne_int (CY I q (By not TD))|str j=>obtain⟨b,rfl⟩:=a;exact PySem.EqMixed.ne_int_str (CY I q (by simp))|_=>exact absurd (show false=true from c) Ce
 |str i=>
  obtain⟨t,rfl⟩:=d;cases y with|non=>cases a;exact PySem.EqNone.ne_str_none (CY I q (by simp))|bl j=>cases a;exact PySem.EqMixed.ne_str_bool (CY I q (by simp))|int j=>obtain⟨b,rfl⟩:=a;exact PySem.EqMixed.ne_str_int (CY I q (by simp))|str j=>obtain⟨b,rfl⟩:=a;exact ne_str (CY I q (By not TF))|_=>exact absurd (show false=true from c) Ce
 |byt i=>
  obtain⟨t,rfl⟩:=d;cases y with|byt j=>obtain⟨b,rfl⟩:=a;exact PySem.W.ne_bytes (CY I q (By not TH))|_=>exact absurd (show false=true from c) Ce
 |_=>cases y<;>exact absurd (show false=true from c) Ce
def OY:CW X (compareOp .Lt) (GK λi j=>.bl (decide (i<j))):=KZ λζ ζ ζ ζ ζ ζ ζ q=>lt_int q
def JZ:CW X (compareOp .LtE) (GK λi j=>.bl (decide (i<=j))):=KZ λζ ζ ζ ζ ζ ζ ζ q=>le_int q
def J1:CW X (compareOp .Gt) (GK λi j=>.bl (decide (j<i))):=KZ λζ ζ ζ ζ ζ ζ ζ q=>gt_int q
def Bs(b:Expr){op:CmpOp}(h:op≠.In:=by decide)(a:op≠.NotIn:=by decide):behindInMarks op b=false:=by
 have c:(op==CmpOp.In)=false:=by cases op<;>first|rfl|exact absurd rfl h
 have d:(op==CmpOp.NotIn)=false:=by cases op<;>first|rfl|exact absurd rfl a
 cases b<;>simp[behindInMarks,c,d]
variable {r:R2}
def K2{op:CmpOp}(c:CW X (compareOp op) r)(d:PE X a ta)(e:PE X b tb)(f:behindInMarks op b=false):PE X (.Compare a [op] [b] L) (EI r ta tb):=by intro pins s σ H Q I h;exact wpAny_Compare1 (KY d e I h λv u g x y Z i j k q=>c pins g σ Z x y v u Q i j k q) f
def OZ (t:TE):TT:=λσ H Q=>t σ H λx H'=>mB x λk=>Q k H'
def Bx{op:CmpOp}(f:CW X (compareOp op) r)(g:PE X a ta)(i:PE X b tb)(j:behindInMarks op b=false):PT X (.Compare a [op] [b] L) (OZ (EI r ta tb)):=by
 intro pins s σ H Q I h
 refine wpAny_isTrue_Compare1 (AQ (g pins s σ H _ I h) λv l⟨x,U,m,n,o⟩=>AQ (i pins l σ U _ m o) λu p⟨y,Z,q,t,w⟩ =>
  AQ (f pins p σ Z x y v u _ q n t w) λc D⟨z,A,B,C,d⟩=>?_) j
 replace d:=mB.ex d;obtain⟨k,e,d⟩:=d;subst e;cases C;exact FN ⟨A,B,d⟩
def G4 (r r':R2) (ta tb l:TE):TE:=λσ H Q=>ta σ H λx U=>tb σ U λy Z=>r x y Z λz H3=>∃k,z=.bl k /\
 (if k=true then l σ H3 λw' H4=>r' y w' H4 Q else Q (.bl false) H3)
def WR{op i:CmpOp}{j:R2}(p:CW X (compareOp op) r)(aa:CW X (compareOp i) j)(q:PE X a ta)(t:PE X b tb)(w:PE X c l)
 (z:lastMarks [op,i] [b,c]=false:=by with_unfolding_all rfl):PT X (.Compare a [op,i] [b,c] L) (OZ (G4 r j ta tb l)):=by
 intro pins s σ H Q I h
 refine isTrue_chain (AQ (q pins s σ H _ I h) λv A⟨x,U,B,C,D⟩=>test_link (AQ (t pins A σ U _ B D) λu E⟨y,Z,F,m,G⟩ =>
  AQ (p pins E σ Z x y v u _ F C m G) λab J⟨ae,g,n,K,k,e,o⟩=>?_)) z
 subst e;cases K;refine FN ?_
 cases k with
 |false=>
  have d:mB (.bl false) (λk=>Q k g):=o;replace d:=mB.ex d;obtain⟨k',M,N⟩:=d;cases M;exact ite_ff ⟨g,n,N⟩
 |true=>
  refine ite_tt (test_last (AQ (w pins J σ g _ n o) λO P⟨R,S,T,V,d⟩=>AQ (aa pins P σ S y R u O _ T m V d) λd' s5⟨z2,W,Y,r5,f⟩=>?_));replace f:=mB.ex f;obtain⟨k2,e2,f⟩:=f;subst e2;cases r5;exact FN ⟨W,Y,f⟩
def Nn:(sizeLine:Nat)<2 ^ 63:=by rw[sizeLine_eq];decide
def TJ:CW X (binaryOp .Add) (λx y H Q=>∃i j,x=.str i/\y=.str j/\i.length+j.length<=sizeLine/\Q (.str (i++j)) H):=by intro pins s σ H x y v u Q I a b h;obtain⟨i,j,rfl,rfl,c,q⟩:=h;obtain⟨t,rfl⟩:=a;obtain⟨d,rfl⟩:=b;exact add_str (λd e=>⟨.str (i++j),H,I.tok _,⟨_,rfl⟩,q⟩) c
def F9{a:F'}(r:Aw [x] a):∃u,a=[u]/\RelV x u:=by
 cases r with|cons b c=>cases c;exact⟨_,rfl,b⟩
def K3{y:V}{a:F'}(r:Aw [x,y] a):∃u b,a=[u,b]/\RelV x u/\RelV y b:=by
 cases r with
 |cons c d=>
  cases d with|cons e f=>cases f;exact⟨_,_,rfl,c,e⟩
def TL:Br X (.type "int") (λxs H Q=>(∃i,xs=[.int i]/\Q (.int i) H)\/∃k,xs=[.bl k]/\Q (.int (if k then 1 else 0)) H):=by
 intro pins s σ H xs b Q I r h;rcases h with⟨i,rfl,q⟩|⟨k,rfl,q⟩;obtain⟨u,rfl,t,rfl⟩:=F9 r;exact call_int_int ⟨.int i,H,I,⟨_,rfl⟩,q⟩;obtain⟨u,rfl,a⟩:=F9 r;cases a;exact call_int_bool ⟨.int (if k then 1 else 0),H,I.tok _,⟨_,rfl⟩,q⟩
def Ro (K:Aj) (x:V) (H:Hp) (n:Nat):Prop:=
 match x with
 |.str y=>y.length<=sizeLine/\n=y.length
 |.byt y=>y.size<=sizeLine/\n=y.size
 |.ref p=>(∃xs,Ai K H p xs/\n=xs.length)\/∃xs,Aq K H p xs/\n=xs.length
 |_=>False
def GL:Br X (.builtin "len") (λxs H Q=>mL xs λx n=>Ro X.K x H n/\Q (.int n) H):=by
 intro pins s σ H xs l Q I r h;replace h:=mL.ex h;obtain⟨x,n,rfl,e,q⟩:=h;obtain⟨u,rfl,b⟩:=F9 r;have m:=Nn;have o:sizeLine=16777216:=sizeLine_eq
 cases x with
 |str y=>obtain⟨t,rfl⟩:=b;obtain⟨i,a⟩:y.length<=sizeLine/\n=y.length:=e;subst a;exact len_str (by lia) ⟨.int _,H,I.tok _,⟨_,rfl⟩,q⟩
 |byt y=>obtain⟨t,rfl⟩:=b;obtain⟨i,a⟩:y.size<=sizeLine/\n=y.size:=e;subst a;exact PySem.W.len_bytes (by lia) ⟨.int _,H,I.tok _,⟨_,rfl⟩,q⟩
 |ref p=>cases b;have a:(∃xs,Ai X.K H p xs/\n=xs.length)\/∃xs,Aq X.K H p xs/\n=xs.length:=e;rcases a with⟨xs,c,a⟩|⟨xs,c,a⟩;subst a;obtain⟨k,d,f,j⟩:=I.list c;have g:=d.length;exact Calls.call_len_list f.isList (by simp only[Cq];lia) ⟨.int xs.length,H,I.tok _,⟨_,by simp only[Cq];rw[g]⟩,q⟩;subst a;obtain⟨k,d,f,j⟩:=I.tuple c;have g:=d.length;exact len_tuple f (by simp only[Cq];lia) ⟨.int xs.length,H,I.tok _,⟨_,by simp only[Cq];rw[g]⟩,q⟩
 |_=>exact(show False from e).elim
end
section
variable {prog:Program} {w:World} {A:Around} {E:D'} {s:Shared} {K:Aj} {x dx C f:Addr} {mA:Str->K'} {name:Str} {v:Value}
end
def DT.some_of{v:V}{o:K'}(r:DT (some v) o):∃u,o=some u/\RelV v u:=by
 cases o with|none=>exact(show False from r).elim|some u=>exact⟨u,rfl,r⟩
section
variable {P:Program} {w:World} {H H':Hp} {h h':Heap} {a C dx:Addr} {fs fs':List (Str×V)}
end
section
variable {X:Cx} {pins:B'} {σ:St} {H:Hp} {s:Shared} {a C dx:Addr} {fs:List (Str×V)} {f:Str} {v:V} {A:Around} {E:D'}
end
section
variable {X:Cx} {o e d:Expr} {f:Str} {L t j:Pos} {ta J:TE}
end
section
variable {X:Cx} {pins:B'} {σ:St} {H:Hp} {s:Shared} {A:Around} {E:D'} {Q:D'} {c:Value} {b:Bool}
end
structure BP (k:Nat) (A:Around):Prop where
 hd:A.handled=none
 dp:A.depth+3*k+5<recursionLimit
 un:A.units+16*k+200<cLine
def BP.mono{j k:Nat}(r:BP k A)(h:j<=k):BP j A:=⟨r.hd,by have:=r.dp;lia,by have:=r.un;lia⟩
def BP.deeper{k:Nat}{A:Around}(r:BP (k+1) A)(env:Env):BP k (A.deeper env):=
 ⟨r.hd,by have:=r.dp;show A.depth+1+3*k+5<_;lia,by have:=r.un;show A.units+3+16*k+200<_;lia⟩
def BP.depth{k:Nat}{A:Around}(r:BP k A):A.depth<recursionLimit:=by have:=r.dp;lia
def BP.units{k:Nat}{A:Around}(r:BP k A):A.units+64<cLine:=by have:=r.un;lia
def Cg:TA:=λζ H Q=>Q [] H
def Cr (ta:TE) (tr:TA):TA:=λσ H Q=>ta σ H λx U=>tr σ U λxs Z=>Q (x::xs) Z
section
variable {X:Cx} {e:Expr} {es:O'} {te:TE} {t:TA} {L:Pos}
def Ac:PA X [] Cg:=λζ ζ ζ ζ H Q I h=>Calls.spliced_nil ⟨[],H,I,.nil,h⟩
def Aa(a:PE X e te)(b:PA X es t)(c:starEach (e::es) X.env=(false,eval e X.env)::starEach es X.env:=by rfl):PA X (e::es) (Cr te t):=by intro L pins s σ H Q I h;rw[c];show wpAny _ _ (spliced ((false,eval e X.env)::backTo L (starEach es X.env))) _ _ s;refine Calls.spliced_cons (AQ (a pins s σ H _ I h) λu d⟨x,U,f,g,i⟩=>?_);exact AQ (b L pins d σ U _ f i) λn o⟨j,Z,k,l,m⟩=>⟨x::j,Z,k,.cons g l,m⟩
def C3 (t:TA):TE:=λσ H Q=>t σ H λxs U=>xs.length<=sizeLine/\∀p,U p=none->Q (.ref p) (upd U p (.tup xs))
def Gq (t:TA):TE:=λσ H Q=>t σ H λxs U=>xs.length<=sizeLine/\∀p,U p=none->Q (.ref p) (upd U p (.lst xs))
def AD{d}(h:PA X es t):PE X (.Tuple es d L) (C3 t):=by intro pins s σ H Q I f;refine wpAny_Tuple_spliced (AQ (h L pins s σ H _ I f) λg a⟨i,U,c,r,z,q⟩=>⟨by rw[<-r.length];exact z,?_⟩);have j:U a.heap.objs.size=none:=c.hok.fresh (AK _);refine⟨.ref a.heap.objs.size,upd U a.heap.objs.size (.tup i),c.laid (t':=a.toks) (λb u e=>Ba _ e) (AK _) ?_,rfl,q _ j⟩;exact⟨z,g,r,⟨_,Cb _ rfl,rfl,_,rfl⟩⟩
def A1(h:PA X es t):PE X (.List es L) (Gq t):=by intro pins s σ H Q I d;refine wpAny_List_spliced (AQ (h L pins s σ H _ I d) λf a⟨g,U,c,r,z,q⟩=>⟨by rw[<-r.length];exact z,?_⟩);have i:U a.heap.objs.size=none:=c.hok.fresh (AK _);refine⟨.ref a.heap.objs.size,upd U a.heap.objs.size (.lst g),c.laid (t':=a.toks) (λb u e=>Ba _ e) (AK _) ?_,rfl,q _ i⟩;exact⟨z,f,0,r,Cb _ rfl⟩
end
abbrev Sp:=List V->Hp->VK->XK->Prop
abbrev G5:=List Env->Hp->Shared->XK->Value->Shared->Prop
structure IB (P:Program) (w:World) (K:Aj) (mg:Str->K') (base:Heap) (A:Around) (outer:List Env) (s:Shared) (H:Hp):Prop where
 frames:A.frames=some outer
 mod:Mod K mg base
 bs:∀b o,base.get? b=some o->s.heap.get? b=some o/\H b=none
 bsz:base.objs.size<=s.heap.objs.size
 funs:s.heap.FunFrames base outer
 frf:∀b∈EH outer,H b=none
 hok:CD P w H s.heap
 bare:AllBare s.gens
def CE (outer:List Env) (P:Program) (w:World) (H:Hp) (s:Shared) (Q:VK) (u:Value) (s':Shared):Prop:=
 ∃v H',s'.os=s.os/\AllBare s'.gens/\Un (EH outer) [] H H' s.heap s'.heap/\CD P w H' s'.heap/\RelV v u/\Q v H'
def CR (CX:G5) (outer:List Env) (P:Program) (w:World) (H:Hp) (s:Shared) (Q:VK) (E:XK) (r:Result) (s':Shared):Prop:=
 match r with
 |.ok (.ret u)=>CE outer P w H s Q u s'
 |.ok _=>False
 |.error e=>CX outer H s E e s'
structure Eb (P:Program) (w:World) (K:Aj) (mg:Str->K') (base:Heap) (CX:G5) (k:Nat) (f:Addr) (fd:FuncData) (ps:I') (sp:Sp):Prop where
 len:∀vs H Q E,sp vs H Q E->vs.length=ps.length
 run:∀(A:Around)(outer:List Env)(s:Shared)(H:Hp)(args:Args)(us:F')(vs:S')(Q:VK)(E:XK),BP k A->IB P w K mg base A outer s H->BindsTo s fd args (ps.zip us)->Aw vs us->sp vs H Q E ->
  codeAny (model P w) A (.call (.ref f) args) (CR CX outer P w H s Q E) s
section
variable {X:Cx} {pins:B'} {σ:St} {H:Hp} {s s':Shared}
def Inv.env0(I:Inv X pins σ H s):IB X.prog X.w X.K X.mg X.base X.A X.stack s H:=
 ⟨I.ok.frames,I.ok.mod,I.bs,Ea I.ok.bsz I.sz,I.stack,I.stkFree,I.hok,I.bare⟩
def Inv.after{Q:VK}{u:Value}(I:Inv X pins σ H s)(h:CE X.stack X.prog X.w H s Q u s'):EP X pins σ Q u s':=by obtain⟨v,a,c,j,un,f,r,q⟩:=h;obtain⟨e,g,d,t,i⟩:=s';obtain rfl:i=s.os:=c;exact⟨v,a,I.call (h':=e) (g':=g) (d':=d) (t':=t) (ch:=[]) un f j (λb z=>absurd z (by simp)),r,q⟩
end
def J2 (sp:Sp) (c:S') (E:XK) (t:TA):TE:=λσ H Q=>t σ H λvs U=>sp (vs++c) U Q E
def Binds (K:Aj) (fd:FuncData) (ps:I') (ds:F'):Prop:=
 ∀(s:Shared)(us:F'),K.In s.heap->(us++ds).length=ps.length->BindsTo s fd ⟨us,[]⟩ (ps.zip (us++ds))
variable {ps:I'}
def Binds.all{K:Aj}{b:FuncData}(h:∀a:F',a.length=ps.length->bindArgs b ⟨a,[]⟩=pure (ps.zip a)):Binds K b ps []:=λs a ζ c=>by rw[DR] at c ⊢;exact .of_eq (h a c)
def Rp (CX:G5) (X:Cx) (E:XK):Prop:=∀(pins:B')(σ:St)(H:Hp)(s:Shared)(e:Value)(s':Shared),Inv X pins σ H s->CX X.stack H s E e s'->X.xe e s'
section
variable {X:Cx} {CX:G5} {k:Nat} {f C:Addr} {fd:FuncData} {ps:I'} {sp:Sp} {c:S'} {ds:F'} {E:XK} {x m:Str} {p L apos:Pos} {e o:Expr} {es:O'} {ta:TE} {t:TA}
def K4{Q:VK}{a:F'}{vs:S'}(F:Eb X.prog X.w X.K X.mg X.base CX k f fd ps sp)(g:BP k X.A)(i:Binds X.K fd ps ds)(hd:Aw c ds)(j:Rp CX X E)
 (I:Inv X pins σ H s) (r:Aw vs a) (h:sp (vs++c) H Q E):wpAny (model X.prog X.w) X.A (call (.ref f) a) (EP X pins σ Q) X.xe s:=by
 have d:Aw (vs++c) (a++ds):=r.append hd;have l:(a++ds).length=ps.length:=by rw[<-d.length];exact F.len _ _ _ _ h
 refine wpAny_call (codeAny_mono (F.run X.A X.stack s H ⟨a,[]⟩ (a++ds) (vs++c) Q E g I.env0 (i s a I.kIn l) d h) λr m b=>?_)
 cases r with
 |error e=>exact j pins σ H s e m I b
 |ok n=>
  cases n with|ret u=>exact I.after b|next=>exact False.elim b|brk=>exact False.elim b|cont=>exact False.elim b
def IC(F:Eb X.prog X.w X.K X.mg X.base CX k f fd ps sp)(b:BP k X.A)(d:Gl X x)(g:X.mg x=some (.ref f))(i:PySem.W.keepIn X.K (.ref f)=true)(j:Binds X.K fd ps ds)(hd:Aw c ds)(l:Rp CX X E)
 (m:PA X (e::es) t) (o:(x==j1)=false:=by decide) (n:starEach (e::es) X.env=(false,eval e X.env)::starEach es X.env:=by rfl) (u:(backTo L (starEach es X.env)).any (·.1)=false:=by rfl) :
 PE X (.Call (.Name x p) (e::es) [] L) (J2 sp c E t):=by
 intro pins s σ H Q I h;refine wpAny_Call_Name_kw (Tu I d g ?_ o);refine PySem.W.callWith_K (h₀:=X.base) I.ok.mod.kin i (AQ (m L pins s σ H _ I h) λv w⟨y,U,a,r,q⟩=>⟨a.kIn,?_⟩) n u;exact K4 F b j hd l a r q
end
section
variable {X:Cx} {CX:G5} {k:Nat} {f C:Addr} {fd:FuncData} {ps ks:I'} {sp:Sp} {E:XK} {x m:Str} {p L apos kpos:Pos} {e o:Expr} {es:O'} {kws:List Keyword} {te ta:TE} {t tk:TA} {nm:Option Str}
variable {g:F'->F'->F'} {gV:S'->S'->S'}
end
structure Af (N P:I') (sc:Scope):Prop where
 kind:sc.kind=.function
 co:sc.isCoroutine=false
 gen:sc.isGenerator=false
 nd:N.Nodup
 pre:N.take P.length=P
 par:∀x∈P,sc.names.lookup x=some .local\/sc.names.lookup x=some .cell
 nofree:∀y∈sc.names,y.2≠.free
theorem TM{kindOf:Str->Option NameKind}{x:Str}:∀{binds:List (Str×Value)}{m:Str->K'},(∀v,(x,v)∉binds)->bindL kindOf binds m x=m x
 |[],_,_=>rfl
 |(n,v)::r,m,h=>by
   unfold bindL;rw[TM λw a=>h w (Du _ a)];split;have:x≠n:=by rintro rfl;exact h v BS
   simp[this];rfl
theorem TN{kindOf:Str->Option NameKind}{x:Str}:∀{binds:List (Str×Value)}{m:Str->K'},(∀v,(x,v)∉binds)->bindC kindOf binds m x=m x
 |[],_,_=>rfl
 |(n,v)::r,m,h=>by
   unfold bindC;rw[TN λw a=>h w (Du _ a)];split;rfl;have:x≠n:=by rintro rfl;exact h v BS
   simp[this]
theorem TR{kindOf:Str->Option NameKind}{x:Str}{v:Value}:∀{P:I'}{vs:F'}{i:Nat}{m:Str->K'},P.Nodup->P[i]?=some x->vs[i]?=some v->kindOf x=some .local ->
 bindL kindOf (P.zip vs) m x=some v
 |[],_,_,_,_,h,_,_=>by simp at h
 |_::_,[],_,_,_,_,h,_=>by simp at h
 |p::P,w::vs,0,m,c,a,b,d=>by
   simp at a b;subst a;subst b;show bindL kindOf ((p,w)::P.zip vs) m p=_;unfold bindL;rw[TM λv hv=>(Fh.mp c).1 (List.of_mem_zip hv).1,Ap d];simp
 |p::P,w::vs,i+1,m,c,a,b,d=>by show bindL kindOf ((p,w)::P.zip vs) m x=_;unfold bindL;exact TR (i:=i) (Fh.mp c).2 (by simpa using a) (by simpa using b) d
theorem TU{kindOf:Str->Option NameKind}{x:Str}{v:Value}:∀{P:I'}{vs:F'}{i:Nat}{m:Str->K'},P.Nodup->P[i]?=some x->vs[i]?=some v->kindOf x≠some .local ->
 bindC kindOf (P.zip vs) m x=some v
 |[],_,_,_,_,h,_,_=>by simp at h
 |_::_,[],_,_,_,_,h,_=>by simp at h
 |p::P,w::vs,0,m,c,a,b,d=>by
   simp at a b;subst a;subst b;show bindC kindOf ((p,w)::P.zip vs) m p=_;unfold bindC;rw[TN λv hv=>(Fh.mp c).1 (List.of_mem_zip hv).1,Ag d];simp
 |p::P,w::vs,i+1,m,c,a,b,d=>by show bindC kindOf ((p,w)::P.zip vs) m x=_;unfold bindC;exact TU (i:=i) (Fh.mp c).2 (by simpa using a) (by simpa using b) d
def start (N:I') (vs:S'):St:=vs.map some++List.replicate (N.length-vs.length) none
def AF (CX:G5) (P:Program) (w:World) (K:Aj) (mg:Str->K') (base:Heap) (N:I') (qual:Str) (scope:Scope) (f:Addr) (cd:Value) (A:Around) (outer:List Env) (s:Shared) (H:Hp) (E:XK):Cx where
 prog:=P
 w:=w
 K:=K
 mg:=mg
 base:=base
 A:=A.deeper (envOfC qual scope s.heap.objs.size f cd)
 N:=N
 s₀:=s
 H₀:=H
 env:=envOfC qual scope s.heap.objs.size f cd
 outer:=outer
 stack:=envOfC qual scope s.heap.objs.size f cd::outer
 ex:=[]
 calm:=true
 fn:=λζ=>true
 pn:=[]
 xe:=λe s'=>wpAny (model P w) (A.deeper (envOfC qual scope s.heap.objs.size f cd)) (leaving (envOfC qual scope s.heap.objs.size f cd) e) (λζ s''=>CX outer H s E e s'') (λe' s''=>CX outer H s E e' s'') s'
def TV{a:Scope}{n:Nat}{x:Str}(h:a.names.lookup x=some .cell):∃c,(cellsFrom n a.names []).lookup x=some c:=by have q:=PySem.W.cellsFrom_some a.names n [] (.inl h);exact Option.isSome_iff_exists.mp q
def WS{CX:G5}{K:Aj}{C:Str->K'}{G:Heap}{N:I'}{B:Str}{scope:Scope}{f:Addr}{m:Value}{I:List Env}{J:Shared}{E:XK}{D:F'}{vs:S'}
 (S:Af N ps scope) (hd:A.handled=none) (g:IB P w K C G A I s H) (T:vs.length=ps.length) (r:Aw vs D)
 (x:InCallC s s.heap.objs.size (bindL (envOfC B scope s.heap.objs.size f m).kindOf (ps.zip D) λζ=>none) (cellsFrom (s.heap.objs.size+1) scope.names []) (bindC (envOfC B scope s.heap.objs.size f m).kindOf (ps.zip D) λζ=>none) J) :
 Inv (AF CX P w K C G N B scope f m A I s H E) [] (start N vs) H J:=by
 have X:ps.length<=N.length:=by have:=By List.length S.pre;rw[Dx] at this;lia
 obtain⟨o,U,rfl,L⟩:=x.done;have F:∀b:Addr,b∉(AF CX P w K C G N B scope f m A I s H E).ex:=λb z=>absurd (show b∈([]:G') from z) (by simp)
 refine⟨⟨g.mod,S.kind,rfl,rfl,AK _,λy z c o d=>?_,λy j=>?_,λy c ζ h=>?_,λζ=>hd,Around.frames_deeper g.frames,.inr ⟨rfl,rfl⟩,λb z=>absurd z (F b),g.bs,g.bsz,λb ζ ζ=>F b,λb z=>absurd z (F b),g.funs,g.frf⟩,
  rfl,g.bare,Un.kept L,⟨_,x.toInCall.ns,λi y v o d W=>?_⟩,λy c h=>⟨_,x.cell y c h⟩,g.hok.fresh (AK _),λy c h=>?_,λp l=>absurd (show p∈([]:B') from l) (by simp),g.hok.kept L,?_⟩
 exact name_of_addr x.apart (FX o) (FX d);have j:scope.names.lookup y=some .cell\/scope.names.lookup y=some .free:=j;rcases j with j|j;exact TV j;exact absurd rfl (S.nofree _ (FX j));exact CT (x.above y c (FX h));have t:i<vs.length:=(by unfold start at d;by_cases t:i<vs.length;exact t;rw[Ep (by simpa using t)] at d;rw[List.getElem?_replicate] at d;split at d<;>cases d)
 have Q:vs[i]?=some v:=by
  unfold start at d;rw[Ez (by simpa using t),Bf] at d;cases e:vs[i]? with|none=>rw[e] at d;cases d|some a=>rw[e] at d;cases d;rfl
 obtain⟨u,M,R⟩:=r.get Q;have l:ps[i]?=some y:=(by rw[<-S.pre,List.getElem?_take_of_lt (by lia)];exact o);have O:ps.Nodup:=by rw[<-S.pre];exact S.nd.sublist (List.take_sublist _ _)
 refine⟨u,R,?_⟩;rcases S.par y (Bq l) with k|k;exact .inl ⟨k,TR O l M k⟩;obtain⟨c,e⟩:=TV (n:=s.heap.objs.size+1) k;refine .inr ⟨.inl k,c,e,?_⟩;have q:=x.cell y c e;rw[TU O l M (by show scope.names.lookup y≠_;rw[k];decide)] at q;exact q;exact g.hok.fresh (CT (x.above y c (FX h)));unfold start;show _=N.length;rw[AY,An,m6];lia
def No{CX:G5}{K:Aj}{i:Str->K'}{j:Heap}{k:Nat}{f:Addr}{name c:Str}{R:Arguments}{body:List Stmt}{scope:Scope}{z kV G B a ct T:Value}{C U:Option Addr}
 {aa:Array (K')} {N:I'} {sp:Sp} (W:K.lookup f=some ⟨T,U,.func (PySem.W.fnOf name c R body scope z kV G B C a ct),aa⟩) (ab:PySem.W.codeIn K a c=true) (S:Af N ps scope)
 (L:∀vs H Q E,sp vs H Q E->vs.length=ps.length)
 (af:∀(A:Around)(g:List Env)(s:Shared)(H:Hp)(vs:S')(Q:VK)(E:XK),BP k (A.deeper (envOfC c scope s.heap.objs.size f a))->sp vs H Q E ->
  ∃t,FY (AF CX P w K i j N c scope f a A g s H E) body t/\t {nx:=λζ H'=>Q .non H',rt:=Q} (start N vs) H) :
 Eb P w K i j CX (k+1) f (PySem.W.fnOf name c R body scope z kV G B C a ct) ps sp:=by
 refine⟨L,λA g s H ai X vs Q E l h Y r M=>?_⟩;have Z:=L _ _ _ _ M;have D:K.In s.heap:=h.mod.kin.keeps λb o e=>(h.bs b o e).1;have ae:s.heap.NoLimit:=h.mod.nolimit.keeps λb o e=>(h.bs b o e).1
 have ag:∀y∈ps.zip X,scope.names.lookup y.1=some .local\/(scope.names.lookup y.1=some .cell/\((cellsFrom (s.heap.objs.size+1) scope.names []).lookup y.1).isSome=true):=λ⟨n,v⟩hy=>by
  rcases S.par n (List.of_mem_zip hy).1 with q|q;exact .inl q;exact .inr ⟨q,PySem.W.cellsFrom_some _ _ _ (.inl q)⟩
 refine codeAny_call_function l.depth (D _ _ W) rfl S.co S.gen rfl (PySem.W.codeRec_of D ab) (Y _ _ _ _ ?_);refine wpAny_newFunctionEnv_cells S.kind ag λah he F x=>?_;subst he;refine⟨ae.keeps x.toInCall.keep,codeAny_func ?_⟩;obtain⟨t,ht,hq⟩:=af A g s H vs Q E (l.deeper _) M;have I:Inv (AF CX P w K i j N c scope f a A g s H E) [] (start N vs) H F:=WS S l.hd h Z r x;refine Fw (ht [] F (start N vs) H _ I hq) (λfl m d=>?_) λe m d=>d
 have O:∀{σ':St}{H':Hp}{v:V}{u:Value},Inv (AF CX P w K i j N c scope f a A g s H E) [] σ' H' m->RelV v u->Q v H'->CE g P w H s Q u m:=
  λ{σ' H' v u}J p q=>⟨v,H',J.os,J.bare,J.base,J.hok,p,q⟩
 cases fl with|ret u=>obtain⟨v,σ',H',J,p,q⟩:=d;exact O J p q|next=>obtain⟨σ',H',J,q⟩:=d;exact O (v:=V.non) (u:=Value.none) J rfl q|brk=>obtain⟨_,_,_,q⟩:=d;exact False.elim q|cont=>obtain⟨_,_,_,q⟩:=d;exact False.elim q
section
variable {X:Cx} {x:Str} {p L:Pos} {e:Expr} {es:O'} {t:TA} {id T:String} {r:S'->Hp->VK->Prop}
def Rq (r:S'->Hp->VK->Prop) (t:TA):TE:=λσ H Q=>t σ H λvs U=>r vs U Q
def CZ(a:Br X (.builtin id) r)(b:X.mg x=none)(c:PA X (e::es) t)(d:Gl X x:=by rfl)(hv:bootBuiltins x=some (.builtin id):=by decide +kernel)(f:x ≠ "__name__" :=by decide)(o:(x==j1)=false:=by decide)
 (g:starEach (e::es) X.env=(false,eval e X.env)::starEach es X.env:=by rfl) (q:(backTo L (starEach es X.env)).any (·.1)=false:=by rfl):PE X (.Call (.Name x p) (e::es) [] L) (Rq r t):=by
 intro pins s σ H Q I h;refine wpAny_Call_Name_kw (KL I d b hv ?_ f o);exact PyProof.Rows.callWith_builtin1 (AQ (c L pins s σ H _ I h) λi j⟨k,U,l,m,n⟩=>a pins j σ U k i Q l m n) g q
def Mw(a:Br X (.type T) r)(b:X.mg x=none)(c:PA X (e::es) t)(d:Gl X x:=by rfl)(hv:bootBuiltins x=some (.type T):=by decide +kernel)(f:x ≠ "__name__" :=by decide)(o:(x==j1)=false:=by decide)
 (g:starEach (e::es) X.env=(false,eval e X.env)::starEach es X.env:=by rfl) (q:(backTo L (starEach es X.env)).any (·.1)=false:=by rfl):PE X (.Call (.Name x p) (e::es) [] L) (Rq r t):=by
 intro pins s σ H Q I h;refine wpAny_Call_Name_kw (KL I d b hv ?_ f o);exact PyProof.Rows.callWith_type1 (AQ (c L pins s σ H _ I h) λi j⟨k,U,l,m,n⟩=>a pins j σ U k i Q l m n) g q
end
end L2
namespace HT
open PySem PyProof.Rows
section
open PySem.SeqAt
open PySem.AutoSeq1 (wpAny_loadPart')
open PySem.MeetsSeq PySem.MeetsSeq2 PySem.MeetsSeq3
end
section
variable {prog:Program} {w:World} {A:Around} {E:D'} {s:Shared}
def sIx (n d:Nat):L'->Nat
 |none=>d
 |some v=>if v<0 then(v+(n:Int)).toNat else min v.toNat n
def sIx_none(n d:Nat):sIx n d none=d:=rfl
def sIx_nat(n d k:Nat):sIx n d (some (k:Int))=min k n:=by show(if(k:Int)<0 then((k:Int)+(n:Int)).toNat else min (k:Int).toNat n)=min k n;rw[Ag (by lia),BF]
end
end HT
namespace L2
open PySem PySem.Spec PyProof.Rows
abbrev TO:=St->Hp->(L'->Hp->Prop)->Prop
def PO (X:Cx) (e:Option Expr) (t:TO):Prop:=
 ∀(pins:B')(s:Shared)(σ:St)(H:Hp)(Q:L'->Hp->Prop),Inv X pins σ H s->t σ H Q ->
  wpAny (model X.prog X.w) X.A (evalPart e X.env) (λu s'=>∃o H',Inv X pins σ H' s'/\IsPart u o/\Q o H') X.xe s
def ID:TO:=λζ H Q=>Q none H
def Np (t:TE):TO:=λσ H Q=>t σ H λx U=>∃i,x=.int i/\Q (some i) U
def WT{ns:E'}:∀{a:F'},Aw (ns.map V.int) a->IntsAre a ns:=by
 induction ns with
 |nil=>intro a r;rw[Mm] at r;cases r;exact .nil
 |cons n ns b=>
  intro a r;rw[Do] at r;cases r with|cons c d=>obtain⟨t,e⟩:=c;subst e;exact .cons n t (b d)
section
variable {X:Cx} {e:Expr} {te:TE} {lo hi:Option Expr} {tl th:TO} {L J:Pos}
def Rr:PO X none ID:=by intro a s σ H Q I h;rw[evalPart_none];exact Ay ⟨none,H,I,.none,h⟩
def Rs(h:PE X e te):PO X (some e) (Np te):=by intro f s σ H Q I a;rw[evalPart_some];refine AQ (h f s σ H _ I a) λu g⟨x,U,b,c,d⟩=>?_;obtain⟨i,rfl,q⟩:=d;obtain⟨t,rfl⟩:=c;exact⟨some i,U,b,.int i t,q⟩
def Rt (X:Cx) (r:V->L'->L'->Hp->VK->Prop):Prop:=
 ∀(pins:B')(s:Shared)(σ:St)(H:Hp)(x:V)(v vl vu:Value)(lo hi:L')(sl:Addr)(Q:VK),Inv X pins σ H s->RelV x v->s.heap.IsSliceOf sl vl vu .none->IsPart vl lo->IsPart vu hi->r x lo hi H Q ->
  ∃T id,typeLookup (.type T) "__getitem__" = pure (some (.builtin id))/\s.TypeIs v T/\wpAny (model X.prog X.w) X.A (getItem v (.ref sl)) (EP X pins σ Q) X.xe s
def WU (r:V->L'->L'->Hp->VK->Prop) (te:TE) (tl th:TO):TE:=λσ H Q=>te σ H λx U=>tl σ U λl Z=>th σ Z λu H3=>r x l u H3 Q
def Ru{r:V->L'->L'->Hp->VK->Prop}(i:Rt X r)(j:PE X e te)(k:PO X lo tl)(m:PO X hi th):PE X (.Subscript e (.Slice lo hi none J) L) (WU r te tl th):=by intro c s σ H Q I h;refine Subscript_ (AQ (j c s σ H _ I h) λv n⟨x,U,o,p,t⟩=>?_);refine wpAny_Slice (AQ (k c n σ U _ o t) λd w⟨l,Z,y,z,A⟩=>AQ (m c w σ Z _ y A) λf a⟨u,g,B,C,D⟩=>?_);rw[evalPart_none];refine Ay ?_;have E:Inv X c σ g {a with heap:=a.heap.push {cls:=.type "slice",data:=.fields #[d,f,.none]}}:=B.kept (t':=a.toks) λb M q=>Ba _ q;obtain⟨T,id,F,G,K⟩:=i c {a with heap:=a.heap.push {cls:=.type "slice",data:=.fields #[d,f,.none]}} σ g x v d f l u a.heap.objs.size Q E p (Heap.IsSliceOf.new ..) z C D;show wpAny (model X.prog X.w) X.A (subscriptTail e (.Slice lo hi none J) v (.ref a.heap.objs.size)) (EP X c σ Q) X.xe {a with heap:=a.heap.push {cls:=.type "slice",data:=.fields #[d,f,.none]}};exact tail_any (ops:=[.ref a.heap.objs.size,v]) G F K (by with_unfolding_all rfl)
def E9 (xs:S') (lo hi:L'):S':=(xs.drop (HT.sIx xs.length 0 lo)).take (HT.sIx xs.length xs.length hi-HT.sIx xs.length 0 lo)
def WV(xs:S')(lo hi:L'):(E9 xs lo hi).length<=xs.length:=by unfold E9;rw[Dx,Qr];lia
end
def G6 (n:Nat) (i:Int):Option Nat:=if 0<=i then(if i<n then some i.toNat else none) else if -(n:Int)<=i then some (i+n).toNat else none
def BW {α:Type} (xs:List α) (i:Int):Option α:=(G6 xs.length i).bind λj=>xs[j]?
variable {n:Nat}
def TW{i:Int}{j:Nat}(h:G6 n i=some j):seqIndex? i n=some j/\j<n/\-(n:Int)<=i/\i<n:=by unfold G6 at h;by_cases b:0<=i;rw[Ap b] at h;by_cases a:i<n;rw[Ap a] at h;have e:i.toNat=j:=BU h;exact⟨by rw[seqIndex_of b a,e],by lia,by lia,a⟩;rw[Ag a] at h;cases h;rw[Ag b] at h;by_cases a:-(n:Int)<=i;rw[Ap a] at h;have e:(i+n).toNat=j:=BU h;exact⟨by rw[seqIndex_neg (by lia) a,e],by lia,a,by lia⟩;rw[Ag a] at h;cases h
def Rv{α:Type}{xs:List α}{i:Int}{v:α}(h:BW xs i=some v):∃j,seqIndex? i xs.length=some j/\xs[j]?=some v/\j<xs.length/\-(xs.length:Int)<=i/\i<xs.length:=by
 unfold BW at h;cases e:G6 xs.length i with|none=>rw[e] at h;cases h|some j=>rw[e] at h;obtain⟨a,b,c,d⟩:=TW e;exact⟨j,a,h,b,c,d⟩
def BJ{α:Type}{xs:List α}{j:Nat}{v:α}(h:xs[j]?=some v):BW xs (j:Int)=some v:=by
 have a:j<xs.length:=(Bi.mp h).1;have e:G6 xs.length (j:Int)=some j:=(by unfold G6;rw[Ap (by lia),Ap (by lia)];simp);unfold BW;rw[e];exact h
def IE (b:Expr):Prop:=∀o i,subscripted b false o i=operate [o,i] (getItem o i)
def Ic (X:Cx) (r:R2):Prop:=
 ∀(d slice:Expr)(pins:B')(s:Shared)(σ:St)(H:Hp)(x y:V)(v u:Value)(Q:VK),Inv X pins σ H s->RelV x v->RelV y u->r x y H Q ->
  subscripted slice false v u=operate [v,u] (getItem v u)->wpAny (model X.prog X.w) X.A (subscriptTail d slice v u) (EP X pins σ Q) X.xe s
def Nq (X:Cx) (id:String) (r:V->S'->Hp->VK->Prop):Prop:=
 ∀(pins:B')(s:Shared)(σ:St)(H:Hp)(x:V)(xs:S')(v:Value)(us:F')(Q:VK),Inv X pins σ H s->RelV x v->Aw xs us->r x xs H Q ->
  wpAny (model X.prog X.w) X.A (call (.builtin id) (v::us)) (EP X pins σ Q) X.xe s
section
variable {X:Cx} {a b:Expr} {ta tb:TE} {L:Pos}
def Ic.or{r a:R2}(h:Ic X r)(h':Ic X a):Ic X (λx y H Q=>r x y H Q\/a x y H Q):=by intro d slice f s σ H x y v u Q I b c q e;rcases q with q|q;exact h d slice f s σ H x y v u Q I b c q e;exact h' d slice f s σ H x y v u Q I b c q e
def AB{r:R2}(c:Ic X r)(d:PE X a ta)(e:PE X b tb)(f:IE b:=by exact λζ ζ=>rfl):PE X (.Subscript a b L) (EI r ta tb):=by intro l s σ H Q I h;exact Subscript_ (KY d e I h λv u g x y Z i j k q=>c a b l g σ Z x y v u Q i j k q (f _ _))
def Nr (K:Aj):R2:=λx y H Q=>mX x y λp xs i v=>Ai K H p xs/\BW xs i=some v/\Q v H
def Nt (K:Aj):R2:=λx y H Q=>mX x y λp xs i v=>Aq K H p xs/\BW xs i=some v/\Q v H
def Nu:R2:=λx y H Q=>∃z i c,x=.str z/\y=.int i/\z.length<=sizeLine/\BW z.cps.toList i=some c/\Q (.str ⟨#[c]⟩) H
def IF:Ic X (Nr X.K):=by
 intro d slice l s σ H x y v u Q I m n h e;replace h:=mX.ex h;obtain⟨p,K,i,z,rfl,rfl,o,A,q⟩:=h;cases m;obtain⟨t,rfl⟩:=n;obtain⟨G,r,b,L⟩:=I.list o;obtain⟨j,a,B,M,C,D⟩:=Rv A;obtain⟨w,f,J⟩:=r.get B;have E:=r.length;have N:=Nn;have k:EP X l σ Q w s:=⟨z,H,I,J,q⟩;by_cases g:0<=i;have c:i.toNat=j:=(by rw[seqIndex_of g D] at a;exact BU a);exact item_listR b.isList g (by lia) (by rw[c];simpa using f) k e;have c:(i+(G.toArray.size:Int)).toNat=j:=(by rw[seqIndex_neg (by lia) C] at a;rw[Cq,<-E];exact BU a)
 exact subscriptTail_builtinR (x:=w) b.isList.typeIs slot_list_getitem.lookup
  (wpAny_getItem_list_neg (Q:=λr F=>r=w/\EP X l σ Q r F) b.isList (by lia) (by rw[Cq]<;>lia) (by lia) (by rw[c];simpa using f) ⟨rfl,k⟩) e
def K5:Ic X (Nt X.K):=by
 intro d slice b s σ H x y v u Q I c e h f;replace h:=mX.ex h;obtain⟨p,D,i,z,rfl,rfl,g,k,q⟩:=h;cases c;obtain⟨t,rfl⟩:=e;obtain⟨L,r,a,E⟩:=I.tuple g;obtain⟨j,l,m,F,G,J⟩:=Rv k;obtain⟨w,n,B⟩:=r.get m;have o:=r.length;have K:=Nn;have C:EP X b σ Q w s:=⟨z,H,I,B,q⟩
 exact subscriptTail_builtinR (x:=w) a.typeIs slot_tuple_getitem.lookup
  (getItem_tuple (j:=j) (Q:=λr A=>r=w/\EP X b σ Q r A) a (by lia) (by lia) (by rw[Cq,<-o];exact l) (by simpa using n) ⟨rfl,C⟩) f
def K6:Ic X Nu:=by
 intro d slice C s σ H x y v u Q I b e h f;obtain⟨z,i,c,rfl,rfl,r,g,q⟩:=h;obtain⟨t,rfl⟩:=b;obtain⟨w,rfl⟩:=e;obtain⟨j,a,k,A,l,m⟩:=Rv g;have n:z.cps.toList.length=z.length:=(by simp[Str.length]);rw[n] at a l m;have B:=Nn
 exact tail_any (typeIs_str s z t) slot_str_getitem.lookup (getItem_str (c:=c) (by
  have o:decide (i < -(2 ^ 63:Int))=false:=DS (by lia);have p:decide (i ≥ 2 ^ 63)=false:=DS (by lia);rw[o,p,Bool.or_false]) (by rw[a];simpa using k) ⟨.str ⟨#[c]⟩,H,I.tok _,⟨_,rfl⟩,q⟩) f
def Ie (K:Aj):R2:=λx y H Q=>Nr K x y H Q\/Nt K x y H Q\/Nu x y H Q
def AC:Ic X (Ie X.K):=IF.or (K5.or K6)
def WW(a:F')(n j:Nat)(u:Value):Obj.mapSeq (·.setIfInBounds j u) {cls:=.type "list",data:=.seq a.toArray n}={cls:=.type "list",data:=.seq (a.set j u).toArray n}:=by simp[Obj.mapSeq]
def Inv.lst{pins:B'}{σ:St}{H:Hp}{s:Shared}{p:Addr}{xs:S'}(I:Inv X pins σ H s)(h:H p=some (.lst xs)) :
 ∃(a:F')(n:Nat),Aw xs a/\s.heap.get? p=some {cls:=.type "list",data:=.seq a.toArray n}/\xs.length<=sizeLine:=by
 obtain⟨z,a,n,r,e⟩:=I.hok p _ h;exact⟨a,n,r,e,z⟩
variable {s:Shared}
def Inv.lstUpd{pins:B'}{σ:St}{H:Hp}{p:Addr}{xs ys:S'}{d its':F'}{a:Nat}{f:Obj->Obj}(I:Inv X pins σ H s)(h:H p=some (.lst xs))
 (g:s.heap.get? p=some {cls:=.type "list",data:=.seq d.toArray n}) (c:f {cls:=.type "list",data:=.seq d.toArray n}={cls:=.type "list",data:=.seq its'.toArray a}) (r:Aw ys its') (hz:ys.length<=sizeLine) (t:Nat) :
 Inv X pins σ (upd H p (.lst ys)) {s with heap:=s.heap.update p f,toks:=t}:=by
 have e:(s.heap.update p f).get? p=some {cls:=.type "list",data:=.seq its'.toArray a}:=(by rw[o2 f g (by rw[c]<;>rfl),c]);refine I.write (x:=p) (e:=p) (by rw[h];trivial) (.inl rfl) (λb u i q=>(Heap.get?_update_other _ _ (Ne.symm i)).trans q) ⟨_,e⟩ ?_;exact⟨hz,its',a,r,e⟩
def Nv:V->V->V->Hp->(Hp->Prop)->Prop:=λo i v H Q=>∃p xs k j,o=.ref p/\i=.int k/\H p=some (.lst xs)/\G6 xs.length k=some j/\Q (upd H p (.lst (xs.set j v)))
def Mx:Ix X Nv:=by
 intro D s σ H o i v E F u Q I x y z h;obtain⟨p,A,k,j,rfl,rfl,e,B,q⟩:=h;cases x;obtain⟨t,rfl⟩:=y;obtain⟨w,n,r,b,C⟩:=I.lst e;obtain⟨a,G,f,g⟩:=TW B;have c:=r.length;have J:=Nn
 have l:Inv X D σ (upd H p (.lst (A.set j v))) {s with heap:=s.heap.update p (Obj.mapSeq (·.setIfInBounds j u))}:=
  I.lstUpd e b (WW w n j u) (r.set z j) (by rw[Er];exact C) s.toks
 by_cases m:0<=k;have d:k.toNat=j:=(by rw[seqIndex_of m g] at a;exact BU a);exact PySem.W.ki_setAt b m (by lia) (by rw[Cq,<-c];exact g) (by rw[d];exact⟨_,l,q⟩);have d:(k+(w.toArray.size:Int)).toNat=j:=(by rw[seqIndex_neg (by lia) f] at a;rw[Cq,<-c];exact BU a);exact PySem.W.ki_setBack b (by lia) (by rw[Cq,<-c];exact f) (by lia) (by rw[d];exact⟨_,l,q⟩)
def WX(lo a:L')(n:Nat):(sliceBounds lo a none n).1=((HT.sIx n 0 lo:Nat):Int)/\(sliceBounds lo a none n).2.1=((HT.sIx n n a:Nat):Int)/\(sliceBounds lo a none n).2.2=1:=by
 refine⟨?_,?_,rfl⟩
 cases lo with
 |none=>simp[sliceBounds,HT.sIx]
 |some i=>simp only[sliceBounds,HT.sIx,Option.getD_none,show(1:Int) > 0 by decide,if_true];by_cases h:i<0;simp only[h,if_true]<;>lia;simp only[h,if_false]<;>lia
 cases a with|none=>simp[sliceBounds,HT.sIx]|some i=>simp only[sliceBounds,HT.sIx,Option.getD_none,show(1:Int) > 0 by decide,if_true];by_cases h:i<0;simp only[h,if_true]<;>lia;simp only[h,if_false]<;>lia
def WY(a:F')(lo b:L'):slicePick a.toArray lo b none=((a.drop (HT.sIx a.length 0 lo)).take (HT.sIx a.length a.length b-HT.sIx a.length 0 lo)).toArray:=by obtain⟨c,d,e⟩:=WX lo b a.toArray.size;unfold slicePick;rw[c,d,e];simp only[sliceRange_one,pick_run,Cq]<;>rfl
def Rw (K:Aj):V->L'->L'->Hp->VK->Prop:=λx lo hi H Q=>∃a xs,x=.ref a/\Ai K H a xs/\∀p,H p=none->Q (.ref p) (upd H p (.lst (E9 xs lo hi)))
def Rx:Rt X (Rw X.K):=by intro z s σ H x v p t d e u Q I g i j k h;obtain⟨a,c,rfl,l,q⟩:=h;cases g;obtain⟨y,r,f,m⟩:=I.list l;have n:=r.length;refine⟨"list",_,slot_list_getitem.lookup,f.isList.typeIs,?_⟩;refine wpAny_getItem_list_slice f.isList i j k .none (by simp) ?_ (by rw[Cq]<;>lia);rw[WY,<-n];refine⟨.ref s.heap.objs.size,_,I.laid (t':=s.toks) (o:=.lst (E9 c d e)) (λb w q=>Ba _ q) (AK _) ?_,rfl,q _ (I.hok.fresh (AK _))⟩;exact⟨Ea (WV c d e) m,_,0,(r.drop (HT.sIx c.length 0 d)).take (HT.sIx c.length c.length e-HT.sIx c.length 0 d),Cb _ rfl⟩
def J3:V->Bool
 |.non=>true
 |.bl _=>true
 |.int _=>true
 |.str _=>true
 |_=>false
def J4:V->V->Bool
 |.non,.non=>true
 |.bl a,.bl b=>a==b
 |.bl a,.int b=>(if a then 1 else 0)==b
 |.int a,.bl b=>a==(if b then 1 else 0)
 |.int a,.int b=>a==b
 |.str a,.str b=>a==b
 |_,_=>false
variable {x:V}
def K7{A:Around}{y:V}{u v:Value}(e:RelV y u)(c:RelV x v)(g:J3 y=true)(f:J3 x=true):SeqAt.EqAt A s u v (J4 y x):=by
 cases y with
 |non=>
  cases e;cases x with|non=>cases c;exact SeqAt.EqAt.same _|bl b=>cases c;exact SeqAt.EqAt.none_bool b|int b=>obtain⟨t,rfl⟩:=c;exact SeqAt.EqAt.none_int b t|str b=>obtain⟨t,rfl⟩:=c;exact SeqAt.EqAt.none_str b t|_=>exact absurd (show false=true from f) Ce
 |bl a=>
  cases e;cases x with|non=>cases c;exact SeqAt.EqAt.bool_none a|bl b=>cases c;exact SeqAt.EqAt.bool_bool a b|int b=>obtain⟨t,rfl⟩:=c;exact SeqAt.EqAt.bool_int a b t|str b=>obtain⟨t,rfl⟩:=c;exact SeqAt.EqAt.bool_str a b t|_=>exact absurd (show false=true from f) Ce
 |int a=>
  obtain⟨d,rfl⟩:=e;cases x with|non=>cases c;exact SeqAt.EqAt.int_none a d|bl b=>cases c;exact SeqAt.EqAt.int_bool a d b|int b=>obtain⟨t,rfl⟩:=c;exact SeqAt.EqAt.int_int a d b t|str b=>obtain⟨t,rfl⟩:=c;exact SeqAt.EqAt.int_str a d b t|_=>exact absurd (show false=true from f) Ce
 |str a=>
  obtain⟨d,rfl⟩:=e;cases x with|non=>cases c;exact SeqAt.EqAt.str_none a d|bl b=>cases c;exact SeqAt.EqAt.str_bool a d b|int b=>obtain⟨t,rfl⟩:=c;exact SeqAt.EqAt.str_int a d b t|str b=>obtain⟨t,rfl⟩:=c;exact SeqAt.EqAt.str_str a d b t|_=>exact absurd (show false=true from f) Ce
 |_=>exact absurd (show false=true from g) Ce
def IG (x:V) (u:Value):Bool:=match u with
 |.none=>J4 .non x
 |.bool b=>J4 (.bl b) x
 |.int i _=>J4 (.int i) x
 |.str z _=>J4 (.str z) x
 |_=>false
def G7{y:V}{u:Value}(r:RelV y u)(f:J3 y=true):IG x u=J4 y x:=by
 cases y with|non=>cases r;rfl|bl b=>cases r;rfl|int i=>obtain⟨t,rfl⟩:=r;rfl|str z=>obtain⟨t,rfl⟩:=r;rfl|_=>exact absurd (show false=true from f) Ce
theorem Ry{x:V}:∀{xs:S'}{a:F'},Aw xs a->xs.all J3=true->a.any (IG x)=xs.any λy=>J4 y x
 |_,_,.nil,_=>rfl
 |y::xs,u::a,.cons r t,f=>by rw[List.all_cons,Bool.and_eq_true] at f;rw[List.any_cons,List.any_cons,G7 r f.1,Ry t f.2]
theorem Rz{A:Around}{s:Shared}{x:V}{v:Value}(c:RelV x v)(d:J3 x=true):∀{xs:S'}{b:F'},Aw xs b->xs.all J3=true->∀u∈b,SeqAt.EqAt A s u v (IG x u)
 |_,_,.nil,_=>λu a=>by cases a
 |y::xs,u::b,.cons r t,f=>λe a=>by rw[List.all_cons,Bool.and_eq_true] at f;rcases BB.mp a with rfl|a;rw[G7 r f.1];exact K7 r c f.1 d;exact Rz c d t f.2 e a
def O0 (x:V) (xs:S'):Bool:=xs.any λy=>J4 y x
def WZ (K:Aj) (neg:Bool):R2:=λx y H Q=>∃p xs,y=.ref p/\(Ai K H p xs\/Aq K H p xs)/\J3 x=true/\xs.all J3=true/\Q (.bl (if neg then !O0 x xs else O0 x xs)) H
def W0:CW X (compareOp .In) (WZ X.K false):=by intro k s σ H x y v u Q I e g h;obtain⟨p,j,rfl,a,f,fs,q⟩:=h;cases g;rcases a with a|a;obtain⟨b,r,c,i⟩:=I.list a;refine SeqAt.in_listAt (IG x) c.isList (λw d=>Rz e f r fs w (by simpa using d)) ⟨.bl _,H,I,rfl,?_⟩;rw[show b.toArray.any (IG x)=b.any (IG x) by simp,Ry r fs];exact q;obtain⟨b,r,c,i⟩:=I.tuple a;refine SeqAt.in_tupleAt (IG x) c (λw d=>Rz e f r fs w (by simpa using d)) ⟨.bl _,H,I,rfl,?_⟩;rw[show b.toArray.any (IG x)=b.any (IG x) by simp,Ry r fs];exact q
def W1:Br X (.type "list") (λxs H Q=>∃p ys,xs=[.ref p]/\(Ai X.K H p ys\/Aq X.K H p ys)/\∀l,H l=none->Q (.ref l) (upd H l (.lst ys))):=by
 intro y s σ H xs A Q I r h;obtain⟨p,ys,rfl,g,q⟩:=h;obtain⟨u,rfl,x⟩:=F9 r;cases x
 have w:∀(c:F'),Aw ys c->ys.length<=sizeLine->∀(a:Heap)(d:Nat),(∀b v,s.heap.get? b=some v->a.get? b=some v) ->
  a.get? s.heap.objs.size=some {cls:=.type "list",dict:=none,data:=.seq c.toArray d,slots:=#[]}->EP X y σ Q (.ref s.heap.objs.size) {s with heap:=a}:=λc f i a d j e =>
  ⟨.ref s.heap.objs.size,_,I.laid (t':=s.toks) j (AK _) (show AE X.prog X.w _ a _ (.lst ys) from⟨i,c,d,f,e⟩),rfl,q _ (I.hok.fresh (AK _))⟩
 rcases g with g|g;obtain⟨c,f,k,i⟩:=I.list g;have z:=f.length;obtain⟨o,m,t,n,hd⟩:=k.isList;exact call_list_seq p (.inl rfl) m t hd (λa d j e=>w c f i a d j e) (by simp only[Cq]<;>lia);obtain⟨c,f,k,i⟩:=I.tuple g;have z:=f.length;obtain⟨o,m,t,n,hd⟩:=k;exact call_list_seq p (.inr rfl) m t hd (λa d j e=>w c f i a d j e) (by simp only[Cq]<;>lia)
def W2:Br X (.type "tuple") (λxs H Q=>∃p ys,xs=[.ref p]/\((Ai X.K H p ys/\∀l,H l=none->Q (.ref l) (upd H l (.tup ys)))\/(Aq X.K H p ys/\Q (.ref p) H))):=by
 intro k s σ H xs v Q I r h;obtain⟨p,ys,rfl,h⟩:=h;obtain⟨u,rfl,m⟩:=F9 r;cases m;rcases h with⟨c,q⟩|⟨c,q⟩;obtain⟨g,d,f,i⟩:=I.list c;have w:=d.length;refine call_tuple_list f.isList (λa n=>?_) (by simp only[Cq]<;>lia);have j:Inv X k σ H {s with heap:=a}:=I.kept (t':=s.toks) n
 have t:Inv X k σ (upd H a.objs.size (.tup ys)) {s with heap:=a.push {cls:=.type "tuple",data:=.seq g.toArray}}:=
  j.laid (t':=s.toks) (λb o e=>Ba _ e) (AK _) (show AE X.prog X.w _ _ _ (.tup ys) from⟨i,g,d,IsTup.new _ _⟩)
 exact⟨.ref a.objs.size,_,t,rfl,q _ (j.hok.fresh (AK _))⟩;obtain⟨g,d,f,i⟩:=I.tuple c;exact call_tuple_same f ⟨.ref p,H,I,rfl,q⟩
def TX (K:Aj) (T:String) (x:V) (H:Hp):Prop:=match x with
 |.str _=>T = "str"
 |.int _=>T = "int"
 |.ref p=>(T = "list" /\ ∃xs,Ai K H p xs)\/(T = "tuple" /\ ∃o,K.lookup p=some o/\o.cls=.type "tuple" /\ o.dict=none) \/
  (T = "dict" /\ ((∃kvs,H p=some (.dK kvs))\/∃kvs,H p=some (.dT kvs)))\/(T = "set" /\ ∃S n,H p=some (.set S n))
 |_=>False
def K8{pins:List (Addr × Obj)}{σ:St}{H:Hp}{T:String}{v:Value}(I:Inv X pins σ H s)(r:RelV x v)(ty:TX X.K T x H) :
 s.TypeIs v T/\∀a,v=.ref a->∃ob,s.heap.get? a=some ob/\ob.dict=none:=by
 cases x with
 |str z=>
  obtain⟨t,rfl⟩:=r;cases(show T = "str" from ty);exact⟨typeIs_str s z t,λζ e=>nomatch e⟩
 |int i=>
  obtain⟨t,rfl⟩:=r;cases(show T = "int" from ty);exact⟨typeIs_int s i t,λζ e=>nomatch e⟩
 |ref p=>
  cases r;rcases ty with⟨rfl,k,g⟩|⟨rfl,o,b,h,hd⟩|⟨rfl,b⟩|⟨rfl,S,n,b⟩;obtain⟨l,_,f,_⟩:=I.list g;refine⟨f.isList.typeIs,λa e=>?_⟩;cases e;obtain⟨o,n,e,c,hd,_⟩:=f;exact⟨o,e,hd⟩;refine⟨⟨o,I.kIn p o b,h⟩,λa e=>?_⟩;cases e;exact⟨o,I.kIn _ o b,hd⟩;have z:∃o,s.heap.get? p=some o/\o.ExactDict:=(by rcases b with⟨j,b⟩|⟨j,b⟩;obtain⟨_,_,_,_,o,_,_,e,ex,_⟩:=I.hok p _ b;exact⟨o,e,ex⟩;obtain⟨_,_,_,_,o,_,_,e,ex,_⟩:=I.hok p _ b;exact⟨o,e,ex⟩);obtain⟨o,e,ex⟩:=z;refine⟨⟨o,e,ex.1⟩,λa d=>?_⟩;cases d;exact⟨o,e,ex.2.1⟩;obtain⟨o,_,_,_,e,ex,_⟩:=I.hok p _ b;refine⟨⟨o,e,ex.1⟩,λa d=>?_⟩;cases d;exact⟨o,e,ex.2.1⟩
 |_=>exact False.elim ty
def W3 (K:Aj) (T:String) (r:V->S'->Hp->VK->Prop) (to:TE) (t:TA):TE:=λσ H Q=>to σ H λx U=>TX K T x U/\t σ U λxs Z=>r x xs Z Q
variable {o e:Expr} {es:O'} {to:TE} {t:TA} {name:Str} {apos cpos:Pos} {T id:String} {r:V->S'->Hp->VK->Prop}
def EJ(f:PlainAttrs T)(C:Slot T name id)(B:typeOf (.builtin id)=pure (.type "method_descriptor"))(g:Nq X id r)(i:PE X o to)(j:PA X (e::es) t)
 (E:attributeBase o name X.env (eval o X.env)=eval o X.env:=by rfl)
 (D:((backTo cpos (starEach (e::es) X.env)).all (λx=>!x.1) && (backToKw cpos (keywordEach [] X.env)).all (λx=>x.1.isSome)
  && decide ((e::es).length+([]:List Keyword).length+(if([]:List Keyword).isEmpty then 0 else 1)<30))=true:=by rfl)
 (F:(apos.endLine==cpos.line)=true:=by rfl) (k:starEach (e::es) X.env=(false,eval e X.env)::starEach es X.env:=by rfl) (G:(backTo cpos (starEach es X.env)).any (·.1)=false:=by rfl) :
 PE X (.Call (.Attribute o name apos) (e::es) [] cpos) (W3 X.K T r to t):=by
 intro a s σ H Q I h;refine wpAny_Call_method_late E D F rfl (AQ (i a s σ H _ I h) λv l⟨x,U,b,c,ty,m⟩=>?_);obtain⟨n,p⟩:=K8 b c ty;refine⟨T,id,f,C,B,n,p,?_⟩;have d:=j cpos a l σ U _ b m;rw[k] at d ⊢;refine Calls.callWith_builtin (by show(false || (backTo cpos (starEach es X.env)).any (·.1))=false;rw[G]<;>rfl) (Calls.evalArgs_plain ?_);exact AQ d λq u⟨w,Z,y,z,A⟩=>g a u σ Z x w v q Q y c z A
end
def TY (X:Cx) (id:String) (r:V->S'->Hp->VK->Prop):Prop:=
 ∀(pins:B')(s:Shared)(σ:St)(H:Hp)(x:V)(xs:S')(v:Value)(us:F')(Q:VK),Inv X pins σ H s->RelV x v->Aw xs us->r x xs H Q ->
  wpAny (model X.prog X.w) X.A (call (.builtin id) (v::us)) (EP X pins σ Q) X.xe s
theorem Aw.one:∀{x:V}{a:F'},Aw [x] a->∃u,a=[u]/\RelV x u
 |_,_,.cons r .nil=>⟨_,rfl,r⟩
section
variable {X:Cx} {pins:B'} {σ:St} {H:Hp} {s:Shared} {l b:Addr} {xs ys zs:S'}
def Inv.lset{a its':F'}{f:M'->M'}{t':Nat}(I:Inv X pins σ H s)(b:H l=some (.lst xs))
 (e:s.heap.get? l=some {cls:=.type "list",data:=.seq a.toArray n}) (c:f a.toArray=its'.toArray) (hv:Aw ys its') (hz:ys.length<=sizeLine) :
 Inv X pins σ (upd H l (.lst ys)) {s with heap:=s.heap.update l (Obj.mapSeq f),toks:=t'}:=by
 have q:=PySem.IsL.update e f;rw[c] at q;refine I.write (x:=l) (e:=l) (by rw[b];exact trivial) (.inl rfl) (λh u d g=>(Heap.get?_update_other s.heap (Obj.mapSeq f) (Ne.symm d)).trans g) ⟨_,q⟩ ?_;exact⟨hz,its',_,hv,q⟩
def Inv.lnew{a:F'}{t':Nat}(I:Inv X pins σ H s)(hv:Aw ys a)(hz:ys.length<=sizeLine) :
 Inv X pins σ (upd H s.heap.objs.size (.lst ys)) {s with heap:=s.heap.push {cls:=.type "list",data:=.seq a.toArray},toks:=t'}:=
 I.laid (λζ ζ q=>Ba _ q) (AK _) ⟨hz,a,0,hv,Cb _ rfl⟩
def Inv.fresh(I:Inv X pins σ H s):H s.heap.objs.size=none:=I.hok.fresh (AK _)
def Inv.lstM(I:Inv X pins σ H s)(b:H l=some (.lst xs)):xs.length<=sizeLine/\∃(a:F')(n:Nat),Aw xs a/\xs.length=a.length/\s.heap.get? l=some {cls:=.type "list",data:=.seq a.toArray n}:=by obtain⟨z,a,n,r,e⟩:=I.hok l _ b;exact⟨z,a,n,r,r.length,e⟩
def W4(h:n<=sizeLine):Builtin.List.listTooLong n=false:=by unfold Builtin.List.listTooLong;exact DS (by lia)
end
section
variable {X:Cx}
def TZ:V->S'->Hp->VK->Prop:=λx vs H Q=>mA x vs λl xs y=>H l=some (.lst xs)/\xs.length<sizeLine/\Q .non (upd H l (.lst (xs++[y])))
theorem T1:TY X "list.append" TZ:=by
 intro o s σ H x g v i Q I c d h;replace h:=mA.ex h;obtain⟨l,j,y,rfl,rfl,a,k,q⟩:=h;cases c;obtain⟨u,rfl,f⟩:=d.one;obtain⟨z,b,n,r,m,e⟩:=I.lstM a;refine call_meets F.slot_list_append ⟨_,e,rfl⟩ F.entry_list_append (F.args_list_append_2 _ _) (PySem.list_append l b.toArray n u (by rw[Cq];lia)) ⟨e,?_⟩;refine⟨.non,_,I.lset (its':=b++[u]) a e (by simp) (r.append (.cons f .nil)) ?_,rfl,q⟩;rw[AY,FM];lia
def T4:V->S'->Hp->VK->Prop:=λx vs H Q=>∃l b xs zs,x=.ref l/\vs=[.ref b]/\H l=some (.lst xs)/\H b=some (.lst zs)/\xs.length+zs.length<=sizeLine/\Q .non (upd H l (.lst (xs++zs)))
theorem W5:TY X "list.extend" T4:=by
 intro J s σ H x w v y Q I f g h;obtain⟨l,b,A,B,rfl,rfl,d,i,C,q⟩:=h;cases f;obtain⟨u,rfl,j⟩:=g.one;cases j;obtain⟨z,a,n,r,D,e⟩:=I.lstM d;obtain⟨E,c,k,m,G,o⟩:=I.lstM i;have p:a.toArray.size+c.toArray.size<=sizeLine:=by rw[Cq,Cq];lia
 have t:¬(!a.toArray.isEmpty && Builtin.List.listTooLong (a.toArray.size+c.toArray.size))=true:=(by rw[W4 p,Bool.and_false];exact Ce)
 refine call_meets F.slot_list_extend ⟨_,e,rfl⟩ F.entry_list_extend (F.args_list_extend_2 _ _)
  (AutoSeq1.list_extend_list_list_0 l a.toArray n b c.toArray k t (by rw[Cq];lia) (by lia)) ⟨e,o,?_⟩
 refine⟨.non,_,I.lset (its':=a++c) d e (by simp) (r.append m) ?_,rfl,q⟩;rw[AY];lia
def RA:R2:=λx y H Q=>∃l b xs zs,x=.ref l/\y=.ref b/\H l=some (.lst xs)/\H b=some (.lst zs)/\xs.length+zs.length<=sizeLine/\∀p,H p=none->Q (.ref p) (upd H p (.lst (xs++zs)))
def My:CW X (binaryOp .Add) RA:=by intro D s σ H x y v u Q I d f h;obtain⟨l,b,o,p,rfl,rfl,g,i,t,q⟩:=h;cases d;cases f;obtain⟨z,a,n,r,w,e⟩:=I.lstM g;obtain⟨A,c,B,j,C,k⟩:=I.lstM i;refine PySem.P.add_list e k ?_ (by rw[Cq,Cq];lia);have m:a.toArray++c.toArray=(a++c).toArray:=(by simp);rw[m];exact⟨.ref _,_,I.lnew (t':=s.toks) (r.append j) (by rw[AY];lia),rfl,q _ I.fresh⟩
end
section
variable {prog:Program} {w:World} {A:Around} {E:D'} {s:Shared}
end
section
variable {X:Cx}
end
section
variable {κ:Type} [DecidableEq κ]
def A2 (kvs:List (κ×V)) (k:κ):U':=(kvs.find? λkv=>decide (kv.1=k)).map (·.2)
def Bk (kvs:List (κ×V)) (k:κ) (v:V):List (κ×V):=
 if(kvs.any λkv=>decide (kv.1=k))=true then kvs.map (λkv=>if kv.1=k then(kv.1,v) else kv) else kvs++[(k,v)]
def GN{p:κ×V}{r:List (κ×V)}{k:κ}(e:p.1=k):A2 (p::r) k=some p.2:=by simp[A2,Mo,e]
def GO{p:κ×V}{r:List (κ×V)}{k:κ}(e:¬p.1=k):A2 (p::r) k=A2 r k:=by simp[A2,Mo,e]
theorem Nw(k:κ):∀kvs:List (κ×V),(kvs.any λa=>decide (a.1=k))=(A2 kvs k).isSome
 |[]=>rfl
 |p::r=>by rw[List.any_cons];by_cases e:p.1=k;simp only[GN e,A5 e,Bool.true_or,Option.isSome_some];rw[GO e,DS e,Bool.false_or];exact Nw k r
theorem T6(k j:κ)(y:V):∀kvs:List (κ×V),A2 (kvs.map λa=>if a.1=k then(a.1,y) else a) j=(A2 kvs j).map λx=>if j=k then y else x
 |[]=>rfl
 |p::r=>by have b:=T6 k j y r;rw[Do];by_cases h:p.1=k;rw[Ap h];by_cases e:p.1=j;rw[GN (p:=(p.1,y)) e,GN e,Option.map_some,Ap (e.symm.trans h)];rw[GO (p:=(p.1,y)) e,GO e,b];rw[Ag h];by_cases e:p.1=j;rw[GN (p:=p) e,GN e,Option.map_some,Ag (λz=>h (e.trans z))];rw[GO (p:=p) e,GO e,b]
theorem T9(k j:κ)(y:V):∀kvs:List (κ×V),A2 kvs k=none->A2 (kvs++[(k,y)]) j=if j=k then some y else A2 kvs j
 |[],_=>by by_cases e:k=j;rw[Ap e.symm];exact GN (p:=(k,y)) e;rw[Ag (λz=>e z.symm)];exact GO (p:=(k,y)) e
 |p::r,a=>by
   rw[List.cons_append];have b:¬p.1=k:=λz=>by rw[GN z] at a;cases a
   rw[GO b] at a;have c:=T9 k j y r a;by_cases e:p.1=j;rw[GN e,GN e,Ag (λz=>b (e.trans z))];rw[GO e,GO e,c]
def W6(kvs:List (κ×V))(k j:κ)(y:V):A2 (Bk kvs k y) j=if j=k then some y else A2 kvs j:=by
 unfold Bk;by_cases a:(kvs.any λb=>decide (b.1=k))=true;rw[Ap a,T6];rw[Nw] at a;by_cases e:j=k;obtain⟨x,c⟩:=Option.isSome_iff_exists.mp a;rw[Ap e,e,c,Option.map_some,Ap rfl];rw[Ag e]
 cases A2 kvs j with
 |none=>rfl
 |some x=>rw[Option.map_some,Ag e]
 rw[Ag a];refine T9 k j y kvs ?_;rw[Nw] at a;cases q:A2 kvs k with|none=>rfl|some x=>rw[q] at a;exact(a rfl).elim
def O1(kvs:List (κ×V))(k:κ)(v:V):(Bk kvs k v).length<=kvs.length+1:=by unfold Bk;split;rw[An];lia;rw[AY,CV,GI];lia
def DT.isSome_eq{o:U'}{u:K'}(r:DT o u):o.isSome=u.isSome:=by
 cases o with
 |none=>cases u with
   |none=>rfl
   |some _=>exact(show False from r).elim
 |some _=>cases u with
   |none=>exact(show False from r).elim
   |some _=>rfl
def DT.getD{o:U'}{u:K'}{d:V}{d':Value}(r:DT o u)(a:RelV d d'):RelV (o.getD d) (u.getD d'):=by
 cases o with
 |none=>cases u with
   |none=>exact a
   |some _=>exact(show False from r).elim
 |some _=>cases u with
   |none=>exact(show False from r).elim
   |some _=>exact r
variable {kvs:List (κ×V)}{vs:List (κ×Value)}
def KV.val(r:KV kvs vs)(k:κ):DT (A2 kvs k) (valueAt vs k):=by
 unfold KV at r
 induction r with|nil=>exact True.intro|@cons p q i a h t f=>obtain⟨d,g⟩:=h;by_cases e:p.1=k;have c:q.1=k:=d.symm.trans e;have b:valueAt (q::a) k=some q.2:=(by simp[valueAt,Mo,c]);rw[GN e,b];exact g;have c:¬q.1=k:=λz=>e (d.trans z);have b:valueAt (q::a) k=valueAt a k:=(by simp[valueAt,Mo,c]);rw[GO e,b];exact f
def KV.any{kvs:List (κ×V)}{vs:List (κ×Value)}(r:KV kvs vs)(k:κ):(kvs.any λa=>decide (a.1=k))=vs.any λa=>decide (a.1=k):=by
 unfold KV at r
 induction r with|nil=>rfl|cons h t b=>rw[List.any_cons,List.any_cons,b,h.1]
def KV.repl(r:KV kvs vs)(k:κ){y:V}{u:Value}(c:RelV y u) :
 KV (kvs.map λa=>if a.1=k then(a.1,y) else a) (vs.map λa=>if a.1=k then(a.1,u) else a):=by
 unfold KV at r ⊢
 induction r with|nil=>exact .nil|@cons p q g i h t d=>rw[Do,Do];refine .cons ?_ d;obtain⟨b,f⟩:=h;by_cases e:p.1=k;rw[Ap e,Ap (b.symm.trans e)];exact⟨b,c⟩;rw[Ag e,Ag (λz=>e (b.trans z))];exact⟨b,f⟩
def KV.put(r:KV kvs vs)(k:κ){y:V}{u:Value}(a:RelV y u):KV (Bk kvs k y) (stored vs k u):=by unfold Bk stored;rw[r.any k];by_cases e:(vs.any λb=>decide (b.1=k))=true;rw[Ap e,Ap e];exact r.repl k a;rw[Ag e,Ag e];exact Paired.snoc r ⟨rfl,a⟩
def KV.keys(r:KV kvs vs):kvs.map (·.1)=vs.map (·.1):=by
 unfold KV at r
 induction r with|nil=>rfl|cons h t a=>rw[Do,Do,a,h.1]
def KV.length{kvs:List (κ×V)}{vs:List (κ×Value)}(r:KV kvs vs):kvs.length=vs.length:=Paired.length r
end
variable {P:Program}{w:World}{u:Value}
def Ny{k:A3}(r:RelV (kV k) u):(Eu P w).is k u=true:=by
 cases k with|inl i=>obtain⟨t,e⟩:=(show ∃t,u=Value.int i t from r);subst e;exact WE P w i t|inr x=>obtain⟨t,e⟩:=(show ∃t,u=Value.str x t from r);subst e;exact WF P w x t
theorem Ua{P:Program}{w:World}:∀{ks:List A3}{a:F'},Aw (ks.map kV) a->ItemsAre (Eu P w) ks a
 |[],_,r=>by rw[Mm] at r;cases r;exact .nil
 |k::ks,_,r=>by
   rw[Do] at r;cases r with|cons h t=>exact .cons (Ny h) (Ua t)
abbrev KT (H:Hp):List (List A3×V)->List (List A3×Addr×Value)->Prop:=Paired λp q=>p.1=q.1/\H q.2.1=some (.tup (p.1.map kV))/\RelV p.2 q.2.2
variable {H:Hp}{kvs:List (List A3×V)}{xs:List (List A3×Addr×Value)}
def KT.val(r:KT H kvs xs)(k:List A3):DT (A2 kvs k) ((atKey xs k).map (·.2)):=by
 induction r with|nil=>exact True.intro|@cons p q i a h t f=>obtain⟨d,_,g⟩:=h;by_cases e:p.1=k;have c:q.1=k:=d.symm.trans e;have b:atKey (q::a) k=some q.2:=(by simp[atKey,Mo,c]);rw[GN e,b];exact g;have c:¬q.1=k:=λz=>e (d.trans z);have b:atKey (q::a) k=atKey a k:=(by simp[atKey,Mo,c]);rw[GO e,b];exact f
variable {y:V}
def KT.repl(r:KT H kvs xs)(k:List A3)(d:RelV y u) :
 KT H (kvs.map λb=>if b.1=k then(b.1,y) else b) (xs.map (putAt k u)):=by
 induction r with|nil=>exact .nil|@cons p q i j h t f=>rw[Do,Do];refine .cons ?_ f;obtain⟨a,c,g⟩:=h;unfold putAt;by_cases e:p.1=k;rw[Ap e,Ap (a.symm.trans e)];exact⟨a,c,d⟩;rw[Ag e,Ag (λz=>e (a.trans z))];exact⟨a,c,g⟩
def KT.put(r:KT H kvs xs)(k:List A3){b:Addr}(c:H b=some (.tup (k.map kV)))(a:RelV y u) :
 KT H (Bk kvs k y) (storedH xs k b u):=by
 have e:(kvs.any λd=>decide (d.1=k))=(atKey xs k).isSome:=(by rw[Nw,(r.val k).isSome_eq,Option.isSome_map]);unfold Bk storedH;rw[e];by_cases q:(atKey xs k).isSome=true;rw[Ap q,Ap q];exact r.repl k a;rw[Ag q,Ag q];exact Paired.snoc r ⟨rfl,c,a⟩
variable {H':Hp}
def KT.keeps(r:KT H kvs xs)(a:∀b ys,H b=some (.tup ys)->H' b=some (.tup ys)):KT H' kvs xs:=
 Paired.mapP r λζ ζ z=>⟨z.1,a _ _ z.2.1,z.2.2⟩
section
variable {P:Program} {w:World} {H:Hp} {h:Heap} {a:Addr}
def G8{u:HO}(ok:CD P w H h)(e:Rd H a u):AE P w H h a u:=e.ok ok
def Mz{kvs:List (A3×V)}(ok:CD P w H h)(e:Rd H a (.dK kvs)):kvs.length<=sizeLine/\(a==sysModules)=false/\∃vs,KV kvs vs/\h.DictOf (Eu P w) a vs:=
 show AE P w H h a (.dK kvs) from G8 ok e
def J5{kvs:List (A3×V)}(ok:CD P w H h)(e:H a=some (.dK kvs)):kvs.length<=sizeLine/\(a==sysModules)=false/\∃vs,KV kvs vs/\h.DictOf (Eu P w) a vs:=Mz ok (.inl e)
def K9{ks:List A3}(ok:CD P w H h)(e:H a=some (.tup (ks.map kV))):(tupleKind (Eu P w)).is h ks a:=by obtain⟨_,f,r,o,b,c,n,d⟩:=(show AE P w H h a (.tup (ks.map kV)) from ok a _ e);exact⟨o,f.toArray,n,b,c,d,by simpa using Ua r⟩
def MA(ok:CD P w H h)(e:Rd H a (.dT kvs)):kvs.length<=sizeLine/\(a==sysModules)=false /\
 ∃xs,KT H kvs xs/\h.DictOfH (tupleKind (Eu P w)) a xs:=by
 obtain⟨z,y,xs,r,o,d,f,g,i,j,k,n⟩:=(show AE P w H h a (.dT kvs) from G8 ok e);refine⟨z,y,xs,r,o,d,f,g,i,j,k,λx b=>?_,n⟩
 have all:∀{l:List (List A3 × V)}{m:List (List A3 × Addr × Value)},KT H l m -> ∀x∈m,(tupleKind (Eu P w)).is h x.1 x.2.1:=by
  intro l m q
  induction q with
  |nil=>intro x b;exact nomatch b
  |@cons p q u v c t s=>intro x b;rcases BB.mp b with e|b;subst e;exact K9 ok (by rw[<-c.1];exact c.2.1);exact s x b
 exact all r x b
def G9(ok:CD P w H h)(e:H a=some (.dT kvs)):kvs.length<=sizeLine/\(a==sysModules)=false /\
 ∃xs,KT H kvs xs/\h.DictOfH (tupleKind (Eu P w)) a xs:=MA ok (.inl e)
end
def EA (H:Hp) (a:Addr) (y:V) (r:U'):Prop:=
 (∃kvs k,Rd H a (.dK kvs)/\y=kV k/\r=A2 kvs k)\/∃kvs k b,Rd H a (.dT kvs)/\y=.ref b/\H b=some (.tup (k.map kV))/\r=A2 kvs k
def Gr (H:Hp) (a:Addr) (y v:V) (H':Hp):Prop:=
 (∃kvs k,H a=some (.dK kvs)/\y=kV k/\kvs.length<sizeLine/\H'=upd H a (.dK (Bk kvs k v))) \/
 ∃kvs k b,H a=some (.dT kvs)/\y=.ref b/\H b=some (.tup (k.map kV))/\kvs.length<sizeLine/\H'=upd H a (.dT (Bk kvs k v))
variable {a:Addr}
def EA.t{b:Addr}{k:List A3}(e:H a=some (.dT kvs))(c:H b=some (.tup (k.map kV))):EA H a (.ref b) (A2 kvs k):=.inr ⟨kvs,k,b,.inl e,rfl,c,rfl⟩
def Gr.k{H:Hp}{a:Addr}{kvs:List (A3×V)}{k:A3}{v:V}(e:H a=some (.dK kvs))(b:kvs.length<sizeLine):Gr H a (kV k) v (upd H a (.dK (Bk kvs k v))):=.inl ⟨kvs,k,e,rfl,b,rfl⟩
section
variable {X:Cx} {pins:B'} {σ:St} {H:Hp} {s:Shared} {a:Addr} {y v:V} {u r:Value} {o:U'} {A:Around} {E:D'}
def Inv.big(I:Inv X pins σ H s):sysModules<s.heap.objs.size:=by have h:mainGlobals<s.heap.objs.size:=(I.mod.glob.keeps I.bk).lt;exact Nat.lt_trans (by decide) h
def W7{Q:D'}(r:A.units+1<cLine)(I:Inv X pins σ H s)(g:EA H a y (some v))(n:RelV y u)(h:∀c q,Inv X pins σ H q->RelV v c->Q c q) :
 wpAny (model X.prog X.w) A (getItem (.ref a) u) Q E s:=by
 rcases g with⟨kvs,k,e,d,l⟩|⟨kvs,k,b,e,d,t,l⟩;subst d;obtain⟨z,hd,w,j,f⟩:=Mz I.hok e;obtain⟨c,i,m⟩:=DT.some_of (v:=v) (o:=valueAt w k) (by rw[l];exact j.val k);exact wpAny_getItem_of (Ny n) f.mapOf i (h c _ (I.tok _) m);subst d;cases(show u=Value.ref b from n);obtain⟨z,hd,xs,j,f⟩:=MA I.hok e;obtain⟨c,i,m⟩:=DT.some_of (v:=v) (o:=(atKey xs k).map (·.2)) (by rw[l];exact j.val k);obtain⟨p,x,B⟩:=E5.mp i;refine wpAny_getItem_heap (tupleKind_room_in1 r) (K9 I.hok t) f x ?_;rw[B];exact h c _ (I.tok _) m
def RB{Q:D'}(m:A.units+1<cLine)(I:Inv X pins σ H s)(g:EA H a y o)(i:RelV y u)(h:∀j,Inv X pins σ H j->Q (.bool o.isSome) j) :
 wpAny (model X.prog X.w) A (compareOp .In u (.ref a)) Q E s:=by
 rcases g with⟨kvs,k,e,c,l⟩|⟨kvs,k,b,e,c,n,l⟩;subst c;obtain⟨z,hd,p,f,d⟩:=Mz I.hok e;refine wpAny_in_of (Ny i) hd d.mapOf ?_;rw[<-(f.val k).isSome_eq,<-l];exact h _ (I.tok _);subst c;cases(show u=Value.ref b from i);obtain⟨z,hd,xs,f,d⟩:=MA I.hok e;refine wpAny_in_heap (tupleKind_room_in1 m) (K9 I.hok n) hd d ?_;have q:=(f.val k).isSome_eq;rw[Option.isSome_map] at q;rw[<-q,<-l];exact h _ (I.tok _)
def O2{h':Heap}{t':Nat}{ob:HO}(I:Inv X pins σ H s)(c:M6 (H a))(d:Heap.SameBut a s.heap h')(f:∃q,h'.get? a=some q)(h:AE X.prog X.w (upd H a ob) h' a ob) :
 Inv X pins σ (upd H a ob) {s with heap:=h',toks:=t'}:=
 I.write (x:=a) (e:=a) c (.inl rfl) (λb q g z=>(d.2 b g).trans z) f h
def La{h':Heap}{kvs:List (A3×V)}{vs:List (A3×Value)}(z:kvs.length<=sizeLine)(hd:(a==sysModules)=false)(c:KV kvs vs)(b:h'.DictOf (Eu P w) a vs) :
 AE P w H' h' a (.dK kvs):=⟨z,hd,vs,c,b⟩
def W8{Q:Unit->Shared->Prop}(G:A.units+1<cLine)(I:Inv X pins σ H s)(g:Gr H a y v H')(w:RelV y u)(x:RelV v r)(h:∀B,Inv X pins σ H' B->Q () B) :
 wpAny (model X.prog X.w) A (setItem (.ref a) u r) Q E s:=by
 rcases g with⟨kvs,k,e,j,l,m⟩|⟨kvs,k,b,e,j,C,l,m⟩;subst j m;obtain⟨z,hd,J,d,n⟩:=J5 I.hok e;have o:J.length<=sizeLine:=by rw[<-d.length];exact z
 have p:(Bk kvs k v).length<=sizeLine:=by have:=O1 kvs k v;lia
 refine wpAny_setItem_pairs (hsz:=o) (Ny w) n λD i t=>h _ ?_;have K:∃q,D.get? a=some q:=let ⟨q,_,_,f,_⟩:=i;⟨q,f⟩;exact O2 I (by rw[e];exact True.intro) t K (La p hd (d.put k x) i);subst j m;cases(show u=Value.ref b from w);obtain⟨z,hd,xs,d,n⟩:=G9 I.hok e;have o:xs.length<=sizeLine:=by rw[<-Paired.length d];exact z
 have p:(Bk kvs k v).length<=sizeLine:=by have:=O1 kvs k v;lia
 refine wpAny_setItem_heap (hsz:=o) (tupleKind_room_in1 G) (K9 I.hok C) n λD i t=>h _ ?_;obtain⟨q,L,M,f,N,O,P,_,R⟩:=i;refine O2 I (by rw[e];exact True.intro) t ⟨q,f⟩ ⟨p,hd,_,(d.put k C x).keeps λc S F=>?_,q,L,M,f,N,O,P,R⟩;rw[AI (Mq F e (λz=>nomatch z))];exact F
end
section
variable {X:Cx} {pins:B'} {σ:St} {H:Hp} {s:Shared} {a:Addr} {kvs:List (A3×V)} {k:A3} {u:Value} {A:Around} {E:D'}
end
def NA (i:Expr):Prop:=∀ov iv,subscripted i false ov iv=operate [ov,iv] (getItem ov iv)
variable {s:Shared}
def IH{prog:Program}{A:Around}{E:D'}{env:Env}{d slice:Expr}{L:Pos}{T id:String}{Q:D'}
 (j:typeLookup (.type T) "__getitem__" = pure (some (.builtin id))) (k:NA slice)
 (h:wpAny (model prog w) A (eval d env) (λo e=>wpAny (model prog w) A (eval slice env) (λi a=>a.TypeIs o T/\wpAny (model prog w) A (getItem o i) Q E a) E e) E s) :
 wpAny (model prog w) A (eval (.Subscript d slice L) env) Q E s:=by
 refine Subscript_ (Fw h (λo e l=>Fw l (λi a b=>?_) λζ ζ x=>x) λζ ζ x=>x);obtain⟨f,b⟩:=b;unfold subscriptTail;refine Ae ?_;rw[getitemInPython_of_ne f.not_modules];refine Ae (wpAny_specialOf f j ?_);have c:wpAny (model prog w) A (subscripted slice false o i) (λr g=>wpAny (model prog w) A (letTemporaryGo d o r >>= λζ=>pure r) Q E g) E a:=(by rw[k o i];exact wpAny_operating (Fw b (λr g m=>Ae (wpAny_letTemporaryGo (Ay m))) λζ ζ x=>x))
 first
  |exact Ay (Ae c)
  |exact Ae (Ay (Ae c))
  |exact Ae c
def W9{X:Cx}{pins:B'}{σ:St}{o:U'}(I:Inv X pins σ H s)(g:EA H a y o):s.TypeIs (.ref a) "dict" :=by rcases g with⟨kvs,k,e,_,_⟩|⟨kvs,k,b,e,_,_,_⟩;obtain⟨_,_,d,_,c⟩:=Mz I.hok e;exact c.typeIs;obtain⟨_,_,xs,_,c⟩:=MA I.hok e;exact c.typeIs
def NB (k ty:TE):TE:=λσ H Q=>k σ H λx U=>ty σ U λy Z=>∃a v,x=.ref a/\EA Z a y (some v)/\Q v Z
section
variable {X:Cx} {o i e d:Expr} {L t j:Pos} {k ty J:TE}
def II(d:X.A.units+1<cLine)(e:PE X o k)(f:PE X i ty)(j:NA i):PE X (.Subscript o i L) (NB k ty):=by intro c s σ H Q I h;refine IH PySem.F.slot_dict_getitem.lookup j (AQ (e c s σ H _ I h) λu l⟨x,U,m,n,p⟩=>AQ (f c l σ U _ m p) λz A⟨y,Z,b,q,a,v,ex,g,r⟩=>?_);subst ex;obtain rfl:u=Value.ref a:=n;exact⟨W9 b g,W7 d b g q λB C t w=>⟨v,Z,t,w,r⟩⟩
end
def Xa(h:Heap)(a:sysModules<h.objs.size):AE P w H (h.push {cls:=.type "dict",data:=.dict #[]}) h.objs.size (.dK []):=
 ⟨Dp _,beq_eq_false_iff_ne.mpr (Ne.symm (Ch a)),[],.nil,Heap.DictOf.new h⟩
def Ub(h:Heap)(a:sysModules<h.objs.size):AE P w H (h.push {cls:=.type "dict",data:=.dict #[]}) h.objs.size (.dT []):=
 ⟨Dp _,beq_eq_false_iff_ne.mpr (Ne.symm (Ch a)),[],.nil,_,#[],0,Cb _ rfl,⟨rfl,rfl,rfl⟩,rfl,rfl,List.nodup_nil⟩
def Lb:TE:=λζ H Q=>∀p,H p=none->Q (.ref p) (upd H p (.dK []))
def Lc:TE:=λζ H Q=>∀p,H p=none->Q (.ref p) (upd H p (.dT []))
section
variable {X:Cx} {L:Pos}
def Xb:PE X (.Dict [] [] L) Lb:=λb s σ H Q I h =>
 wpAny_Dict_empty ⟨.ref s.heap.objs.size,_,I.laid (a:=s.heap.objs.size) (o:=.dK []) (t':=s.toks) (λζ ζ q=>Ba _ q) (AK _) (Xa s.heap I.big),rfl,h _ (I.hok.fresh (AK _))⟩
def RC:PE X (.Dict [] [] L) Lc:=λb s σ H Q I h =>
 wpAny_Dict_empty ⟨.ref s.heap.objs.size,_,I.laid (a:=s.heap.objs.size) (o:=.dT []) (t':=s.toks) (λζ ζ q=>Ba _ q) (AK _) (Ub s.heap I.big),rfl,h _ (I.hok.fresh (AK _))⟩
end
structure M2 (X:Cx) (o:Expr) (m:Str) (apos:Pos) (e f:Expr) (cpos:Pos):Prop where
 base:attributeBase o m X.env (eval o X.env)=eval o X.env
 few:((backTo cpos (starEach [e,f] X.env)).all (λx=>!x.1) && (backToKw cpos (keywordEach [] X.env)).all (λx=>x.1.isSome)
  && decide (([e,f]:O').length+([]:List Keyword).length+(if([]:List Keyword).isEmpty then 0 else 1)<30))=true
 line:(apos.endLine==cpos.line)=true
 trees:backTo cpos (starEach [e,f] X.env)=[(false,eval e X.env),(false,eval f X.env)]
def Uc (H:Hp) (a:Addr):Prop:=(∃kvs,Rd H a (.dK kvs))\/∃kvs,Rd H a (.dT kvs)
def Ld{X:Cx}{pins:B'}{σ:St}(I:Inv X pins σ H s)(d:Uc H a) :
 s.TypeIs (.ref a) "dict" /\ (∀b,Value.ref a=.ref b->∃ob,s.heap.get? b=some ob/\ob.dict=none)/\(a==sysModules)=false:=by
 rcases d with⟨kvs,e⟩|⟨kvs,e⟩;obtain⟨_,hd,h,_,c⟩:=Mz I.hok e;refine⟨c.typeIs,λb q=>?_,hd⟩;cases q;obtain⟨ob,_,_,f,g,_⟩:=c;exact⟨ob,f,g.2.1⟩;obtain⟨_,hd,xs,_,c⟩:=MA I.hok e;refine⟨c.typeIs,λb q=>?_,hd⟩;cases q;obtain⟨ob,_,_,f,g,_⟩:=c;exact⟨ob,f,g.2.1⟩
section
variable {X:Cx} {pins:B'} {σ:St} {H:Hp} {s:Shared} {a:Addr} {y d:V} {u r:Value} {o:U'} {A:Around} {E:D'}
def Le{Q:D'}(q:A.units+1<cLine)(I:Inv X pins σ H s)(g:EA H a y o)(j:RelV y u)(m:RelV d r)(h:∀n p,Inv X pins σ H p->RelV (o.getD d) n->Q n p) :
 wpAny (model X.prog X.w) A (call (.builtin "dict.get") [.ref a,u,r]) Q E s:=by
 rcases g with⟨kvs,k,e,f,l⟩|⟨kvs,k,b,e,f,t,l⟩;subst f;obtain⟨z,hd,v,i,c⟩:=Mz I.hok e;refine call_meetsIn PySem.F.slot_dict_get c.typeIs PySem.F.entry_dict_get (PySem.F.args_dict_get_3 _ _ _) (meets_dict_get_default (Eu X.prog X.w) a (Ny j) hd r) ⟨_,c.mapOf,h _ _ (I.tok _) ?_⟩;rw[l];exact(i.val k).getD m;subst f;cases(show u=Value.ref b from j);obtain⟨z,hd,xs,i,c⟩:=MA I.hok e;refine call_meetsIn PySem.F.slot_dict_get c.typeIs PySem.F.entry_dict_get (PySem.F.args_dict_get_3 _ _ _) (meetsH_dict_get_default (tupleKind (Eu X.prog X.w)) a b hd r) ⟨tupleKind_room_in1 q,k,xs,K9 I.hok t,c,h _ _ (I.tok _) ?_⟩;rw[l];exact(i.val k).getD m
end
def Lf (k ty tx:TE):TE:=λσ H Q=>k σ H λx U=>∃a,x=.ref a/\Uc U a/\ty σ U λy Z=>tx σ Z λz H3=>∃o,EA H3 a y o/\Q (o.getD z) H3
section
variable {X:Cx} {o e f:Expr} {apos cpos:Pos} {k ty tx:TE}
def Xc(i:X.A.units+1<cLine)(j:PE X o k)(l:PE X e ty)(n:PE X f tx)(m:M2 X o "get" apos e f cpos):PE X (.Call (.Attribute o "get" apos) [e,f] [] cpos) (Lf k ty tx):=by
 intro b s σ H Q I h;refine wpAny_Call_method m.base m.few m.line PySem.F.plainAttrs_dict PySem.F.slot_dict_get PySem.F.type_dict_get (AQ (j b s σ H _ I h) λu p⟨x,U,c,q,a,ex,d,r⟩=>?_);subst ex;obtain rfl:u=Value.ref a:=q;obtain⟨t,v,_⟩:=Ld c d;refine⟨t,v,?_⟩;rw[m.trees]
 refine Calls.callWith_builtin rfl (Calls.evalArgs_plain (Calls.spliced_cons (AQ (l b p σ U _ c r) λL w⟨y,Z,A,B,C⟩ =>
  Calls.spliced_cons (AQ (n b w σ Z _ A C) λM N⟨z,D,E,F,O,g,G⟩=>Calls.spliced_nil ?_))))
 exact Le i E g B F λP R J K=>⟨_,D,J,K,G⟩
end
section
variable {X:Cx} {pins:B'} {σ:St} {H:Hp} {s:Shared} {a:Addr} {kvs:List (A3×V)} {A:Around} {E:D'}
end
section
variable {X:Cx} {pins:B'} {σ:St} {H:Hp} {s:Shared} {a:Addr} {y:V} {u:Value} {A:Around} {E:D'}
end
end L2
namespace Att
open PySem PySem.W PySem.Calls PyProof.Rows
def Xd{P:Params}{h:Heap}:∀(ns:E')(vs:F'),WellAll P h vs (ns.map WData.int)->IntsAre vs ns:=by
 intro ns
 induction ns with
 |nil=>intro vs w;rw[Mm] at w;cases w;exact .nil
 |cons n ns c=>
  intro vs w;rw[Do] at w;cases w with|cons a b=>cases a;exact .cons _ _ (c _ b)
def Xe{l:OpenLaw}{n:Nat}(i:l.most=some n){P:Params}{h:Heap}{args:List WData}{f:F'}
 (g:l.row.toRowW.claim.pre args=true) (u:WellAll P h f args) :
 ∃a vs ns,f=[Value.ref a]/\args=[WData.list (ns.map WData.int)]/\h.get? a=some {cls:=.type "list",data:=.seq vs.toArray}/\IntsAre vs ns/\ns.length<=n:=by
 have v:WShape.hasAll [] args [.list .int]=true:=(pre_splitW g).1;have e:l.pre.holds [] {args:=args}=true:=(pre_splitW g).2;obtain⟨d,r,rfl,j,k⟩:=hasAllW_cons v;obtain rfl:=hasAllW_nil k;obtain⟨y,rfl,m⟩:=hasW_list j;obtain⟨ns,rfl⟩:=items_int m
 have w:ns.length<=n:=by
  unfold OpenLaw.pre at e;have b:(WTm.not (.lt (.lit (.int (n:Int))) (.len (.arg 0)))).holds [] {args:=[.list (ns.map .int)]}=true:=(by have b:=(holds_andW e).1;rw[i] at b;exact b);have c:=condW_of b (w_not (w_lt w_lit (w_len_list (w_arg rfl))));rw[An] at c;refine Nat.le_of_not_lt λq=>?_;have o:(n:Int)<((ns.length:Nat):Int):=(by lia)
  first
   |(rw[A5 o] at c;exact absurd c (by decide))
   |(simp at c;lia)
 cases u with
 |cons p s=>
  cases s;cases p with|list t x=>exact⟨_,_,ns,rfl,rfl,t,Xd ns _ x,w⟩
def Xf(l:OpenLaw)(args:List WData):l.row.toRowW.claim.post args (.bool true) args=true:=
 postW_of (r:=l.row.toRowW) (X:=(true==true))
  (show WShape.has [] (.bool true) .bool=true by first|rfl|decide|simp[WShape.has,WShape.arms,WShape.armsAll])
  (show(WTm.eq .res (.lit (.bool true))).value [] {args:=args,res:=some (.bool true),after:=args}=some (.bool (true==true)) from w_eq_bool (w_res rfl) w_lit) rfl
def attach_call{l:OpenLaw}{n:Nat}{q:Program}{loose:I'}{XP:(Str->K')->Heap->Prop}{YP:World->Heap->Prop}{d:DefRec}
 (s:l.most=some n) (C:d.params.defaults=[])
 (call:∀(w:World)(i b:Shared)(e j:Str->K')(c:Addr)(o:Obj)(k g m:Value)(a:Addr)(vs:F')(ns:E'),
  Ground q loose [] XP w i e j b.heap->YP w b.heap ->
  b.heap.get? c=some o->o.data=.func (docDef d.name d.params d.body d.scope k g m)->b.heap.CodeRec g d.name->e d.name=some (.ref c) ->
  b.heap.get? a=some {cls:=.type "list",data:=.seq vs.toArray}->IntsAre vs ns->ns.length<=n->b.gens=#[] ->
  codeAny (model l.prog w) callerA (.call (.ref c) ⟨[.ref a],[]⟩) (λr h=>r=.ok (.ret (.bool true))/\OldK b.heap h.heap/\h.os=b.os/\AllBare h.gens) b) :
 WalkO q loose XP YP l.row.toRowW d [] (λf vs=>PySem.call f vs):=by
 intro w i b e j G Y c o k g m t kV u hd D p E v O P L H Q M F N;obtain rfl:t=.none:=Dflts.none p C;obtain rfl:kV=.none:=Dflts.noKw p;obtain⟨a,vs,ns,rfl,rfl,I,K,J⟩:=Xe s H F;refine enter_call (codeAny_mono (call w i b e j c o k g m a vs ns G Y u (fd_plain hd) D E I K J v) λr h x=>?_);obtain⟨rfl,y,z,A⟩:=x;exact⟨.inl ⟨.bool true,.bool true,[],rfl,λζ=>rfl,.bool true,Xf l _,λζ=>⟨List.Pairwise.nil,λζ B=>(nomatch B)⟩⟩,y,z,A⟩
section
variable {prog:Program} {w:World} {A:Around} {E:D'} {s:Shared} {K:Frag}
end
end Att
namespace L2
open PySem PySem.Spec PyProof.Rows
theorem O3:∀{vs:F'}{ns:E'},IntsAre vs ns->Aw (ns.map V.int) vs
 |_,_,.nil=>.nil
 |_,_,.cons n t h=>.cons ⟨t,rfl⟩ (O3 h)
def Lg (H:Hp):Prop:=∀b,H b=none\/∃o xs,H b=some (.frz o (.lst xs))
variable {P:Program}{w:World}{a:Addr}{fd:FuncData}{x:Str}
def Xg {K:Aj} {i A:Str->K'} {CX:G5} {k:Nat} {B:Addr} {sp:Sp} {c:Shared} {vs:F'} {ns:E'}
 (G:K.In c.heap) (Q:c.heap.Ns mainGlobals i) (f:c.heap.Ns builtinsNs A) (ab:∀x:Str,x ≠ "__name__" -> A x=bootBuiltins x) (ah:c.heap.NoLimit) (W:c.gens=#[])
 (t:c.heap.get? a=some {cls:=.type "list",data:=.seq vs.toArray}) (I:IntsAre vs ns) (J:ns.length<=sizeLine) (X:BP k callerA)
 (F:∀E:Heap,K.In E->E.Ns mainGlobals i->Eb P w K i E CX k B fd [x] sp) (al:∀(s:Shared)(u:Value),BindsTo s fd ⟨[u],[]⟩ [(x,u)])
 (ae:∀H:Hp,Lg H->Ai K H a (ns.map V.int)->sp [.ref a] H (λv ζ=>v=.bl true) λζ ζ ζ=>False)
 (af:∀H e g,CX [] H c (λζ ζ ζ=>False) e g->False) :
 codeAny (model P w) callerA (.call (.ref B) ⟨[.ref a],[]⟩) (λr g=>r=.ok (.ret (.bool true))/\OldK c.heap g.heap/\g.os=c.os/\AllBare g.gens) c:=by
 have L:=O3 I;have ai:=I.length
 have T:∀ H:Hp,Lg H->Ai K H a (ns.map V.int)->CD P w H c.heap->(∀ b,H b≠none->b=a)->(H a≠none->K.lookup a=none) ->
  codeAny (model P w) callerA (.call (.ref B) ⟨[.ref a],[]⟩) (λr g=>r=.ok (.ret (.bool true))/\OldK c.heap g.heap/\g.os=c.os/\AllBare g.gens) c:=by
  intro H M Y R N Z;have U:∀{b:Addr}{o:Obj},c.heap.get? b=some o->H b=none->(E7 c.heap H).get? b=some o:=λe n=>WH e n
  have ag:∀{b:Addr}{o:Obj}{j:Array DictEntry}{l:Nat},c.heap.get? b=some o->o.data=.dict j l->H b=none:=λ{b o j l}e d=>by
   cases q:H b with|none=>rfl|some u=>have C:b=a:=N b (by rw[q];simp);subst C;rw[t] at e;cases e;have d':Data.seq vs.toArray _=Data.dict j l:=d;cases d'
  have y:∀{b:Addr}{m:Str->K'},c.heap.Ns b m->(E7 c.heap H).Ns b m:=λ{b m}⟨o,j,l,e,d,r⟩=>⟨o,j,l,U e (ag e d),d,r⟩
  have S:K.In (E7 c.heap H):=λb o e=>U (G b o e) (by
   cases q:H b with
   |none=>rfl
   |some u=>
    have C:b=a:=N b (by rw[q];simp);subst C;rw[Z (by rw[q];simp)] at e;cases e)
  have hM:Mod K i (E7 c.heap H):=⟨S,y Q,⟨A,y f,ab⟩,let ⟨mc,h1,h2⟩:=ah;⟨mc,y h1,h2⟩⟩;have e0:IB P w K i (E7 c.heap H) callerA [] c H:=⟨rfl,hM,λb o e=>Iu e,Nat.le_of_eq (WG _ _),trivial,λb f=>absurd (show b∈([]:G') from f) (by simp),R,.of_eq W⟩;refine codeAny_mono ((F _ S (y Q)).run callerA [] c H ⟨[.ref a],[]⟩ [.ref a] [.ref a] _ _ X e0 (al c (.ref a)) (.cons rfl .nil) (ae H M Y)) λr g h=>?_
  cases r with
  |error e=>exact(af H e g h).elim
  |ok fl=>
   cases fl with
   |next=>exact False.elim h
   |brk=>exact False.elim h
   |cont=>exact False.elim h
   |ret u=>
    obtain⟨v,H',aa,aj,un,ak,r',q⟩:=h;have q':v=.bl true:=q;subst q';obtain rfl:u=Value.bool true:=r';refine⟨rfl,OldK.of_keep λb o e=>?_,aa,aj⟩
    cases q:H b with
    |none=>exact un.keep b o e q (by intro z;exact absurd (show b∈([]:G') from z) (by simp)) (by simp)
    |some u=>rcases M b with z|⟨ob,xs,z⟩;rw[q] at z;cases z;have z2:=un.frzs b ob _ z;obtain⟨O,_⟩:=R b _ z;obtain⟨e2,_⟩:=ak b _ z2;rw[e] at O;cases O;exact e2
 cases D:K.lookup a with
 |some o=>have e:=G a o D;rw[t] at e;cases e;refine T (λζ=>none) (λζ=>.inl rfl) (.inr ⟨_,vs.toArray,_,D,rfl,rfl,rfl,by rw[Cq,ai];exact J,by simpa using L⟩) (λb u z=>by have p:(none:Option HO)=some u:=z;cases p) (λb z=>absurd rfl z) λz=>absurd rfl z
 |none=>
  refine T (λb=>if b=a then some (.frz {cls:=.type "list",data:=.seq vs.toArray} (.lst (ns.map V.int))) else none) (λb=>?_) (.inl (.inr ⟨{cls:=.type "list",data:=.seq vs.toArray},Ap rfl⟩)) (λb u z=>?_) (λb z=>?_) λζ=>D;by_cases f:b=a;exact .inr ⟨_,_,Ap f⟩;exact .inl (Ag f);by_cases f:b=a;have p:=(Ap f).symm.trans z;cases p;subst f;exact⟨t,by rw[An];exact J,vs,_,L,t⟩;have p:=(Ag f).symm.trans z;cases p;by_cases f:b=a;exact f;exact absurd (Ag f) z
variable {n:Nat}
def IJ{l:PySem.W.OpenLaw}{k:Nat}{q:Program}{loose:I'}{XP:(Str->K')->Heap->Prop}{YP:World->Heap->Prop}{d:DefRec}{K:Params->Aj}{CX:World->G5}{sp:World->Sp}(p:l.most=some n)(E:n<=sizeLine)(I:d.params.defaults=[])(r:BP k callerA)
 (t:∀(w:World)(h:Heap),YP w h->(K w.params).In h)
 (F:∀(w:World)(b:Str->K')(c:Addr)(h:Heap),(K w.params).In h->h.Ns mainGlobals b->b d.name=some (.ref c) ->
  ∃fd:FuncData,(∀(s:Shared)(u:Value),BindsTo s fd ⟨[u],[]⟩ [(x,u)]) /\
   ∀i:Heap,(K w.params).In i->i.Ns mainGlobals b->Eb l.prog w (K w.params) b i (CX w) k c fd [x] (sp w))
 (J:∀(w:World)(H:Hp)(a:Addr)(ns:E'),ns.length<=n->Lg H->Ai (K w.params) H a (ns.map V.int)->sp w [.ref a] H (λv ζ=>v=.bl true) λζ ζ ζ=>False)
 (L:∀(w:World)(H:Hp)(s:Shared)(e:Value)(g:Shared),CX w [] H s (λζ ζ ζ=>False) e g->False) :
 PySem.W.WalkO q loose XP YP l.row.toRowW d [] (λf vs=>PySem.call f vs):=by
 refine Att.attach_call p I λw P y b Q c o R S U a vs ns G Y T hd W M N O m z=>?_;have j:=t w _ Y;obtain⟨fd,A,B⟩:=F w b c _ j G.T.g M;exact Xg j G.T.g G.T.b G.T.builtins G.T.nolimit z N O (Ea m E) r B A (λH C D=>J w H a ns m C D) λH e g=>L w H y e g
abbrev Ig:G5:=λζ ζ ζ ζ ζ ζ=>False
abbrev E0:XK:=λζ ζ ζ=>False
variable {X:Cx}
def NC:Rp Ig X E0:=λζ ζ ζ ζ ζ ζ ζ h=>h.elim
structure Bt (K:Aj) (x qual:Str) (st:Stmt) (f:Addr) (fd:FuncData):Prop where
 ex:∃(oc:Value)(od:Option Addr)(kV doc pm:Value)(an:Option Addr)(cdv ct:Value)(osl:Array (K')),
  fd=PySem.W.fnOf x qual (JR st) (H1 st) (A0 st) .none kV doc pm an cdv ct/\K.lookup f=some ⟨oc,od,.func fd,osl⟩/\PySem.W.codeIn K cdv qual=true
 kp:PySem.W.keepIn K (.ref f)=true
section
variable {P:Program} {w:World} {K:Aj} {mg:Str->K'} {base:Heap}
variable {qual:Str}{st:Stmt}{f:Addr}
def Bt.ok{N b:I'}{k:Nat}{sp:Sp}(F:Bt K x qual st f fd)(S:Af N b (A0 st))(g:∀vs H Q E,sp vs H Q E->vs.length=b.length)
 (l:∀(a:Value)(A:Around)(c:List Env)(s:Shared)(H:Hp)(vs:S')(Q:VK)(E:XK),BP k (A.deeper (envOfC qual (A0 st) s.heap.objs.size f a))->sp vs H Q E ->
  ∃t,FY (AF Ig P w K mg base N qual (A0 st) f a A c s H E).nox (H1 st) t/\t {nx:=λζ H'=>Q .non H',rt:=Q} (start N vs) H):Eb P w K mg base Ig (k+1) f fd b sp:=by
 obtain⟨m,n,kV,u,o,p,a,r,v,rfl,d,i⟩:=F.ex;refine No d i S g λA c s H vs Q E e j=>?_;obtain⟨t,h,q⟩:=l a A c s H vs Q E e j;exact⟨t,h.nox,q⟩
def Bt.binds{a:I'}(F:Bt K x qual st f fd)
 (h:∀(kV e b:Value)(c:Option Addr)(g ct:Value)(d:F'),d.length=a.length->bindArgs (PySem.W.fnOf x qual (JR st) (H1 st) (A0 st) .none kV e b c g ct) ⟨d,[]⟩=pure (a.zip d)):Binds K fd a []:=by
 obtain⟨i,j,kV,e,b,c,g,ct,l,rfl,k,m⟩:=F.ex;exact .all (h kV e b c g ct)
def Ha{g:Value}{h b:Option Addr}{i:Array (K')}{kV e d a ct:Value}(l:K.lookup f=some ⟨g,h,.func (PySem.W.fnOf x qual (JR st) (H1 st) (A0 st) .none kV e d b a ct),i⟩)
 (c:PySem.W.codeIn K a qual=true) (k:PySem.W.keepIn K (.ref f)=true):Bt K x qual st f (PySem.W.fnOf x qual (JR st) (H1 st) (A0 st) .none kV e d b a ct):=⟨⟨g,h,kV,e,d,b,a,ct,i,rfl,l,c⟩,k⟩
end
variable {A:Around}
def MB{k:Nat}(a:BP k A):A.units+1<cLine:=Nat.lt_of_le_of_lt (Nat.add_le_add_left (by decide:1<=64) _) a.units
def BX(h:n<=1000):n<sizeLine:=Nat.lt_of_le_of_lt h (by decide)
section
variable {X:Cx}
def pv(i:Nat){L:Pos}(a:X.N[i]?=some x:=by rfl)(hv:OT X.env.scope x:=by first|exact j9 rfl|exact j' (j9 rfl)|exact j' (j' rfl))(hd:(x==j1)=false:=by decide)
 (b:(x==("__classdict__":Str))=false:=by decide):PE X (.Name x L) (Bj i):=KJ a hv hd b
end
variable {B:Prop}
def Bl{A:Prop}(h:B):if false=true then A else B:=by rw[Ag Ce];exact h
def Cw{A:Prop}(h:A):if true=true then A else B:=by rw[Ap rfl];exact h
def At{c A:Prop} [Decidable c](a:c->A)(b:¬c->B):if c then A else B:=by by_cases h:c;rw[Ap h];exact a h;rw[Ag h];exact b h
def Ad (H H':Hp):Prop:=∀b o,H b=some o->H' b=some o
def Ad.refl(H:Hp):Ad H H:=λζ ζ h=>h
variable {H U:Hp}
def Ad.trans{Z:Hp}(a:Ad H U)(b:Ad U Z):Ad H Z:=λc o h=>b c o (a c o h)
variable {H':Hp}
def Ad.free(e:Ad H H'){l:Addr}(h:H' l=Option.none):H l=Option.none:=by
 cases q:H l with|none=>rfl|some o=>rw[e l o q] at h;cases h
variable {xs:S'}
def Ad.seq{K:Aj}(e:Ad H H')(h:Ai K H a xs):Ai K H' a xs:=by rcases h with(h|⟨o,h⟩)|h;exact .inl (.inl (e _ _ h));exact .inl (.inr ⟨o,e _ _ h⟩);exact .inr h
section
variable {κ:Type} [DecidableEq κ]
end
inductive Ty where
 |int|bool|str|non|lst|tup|dct
 deriving DecidableEq
def Ty.name:Ty->String
 |.int => "int"|.bool => "bool"|.str => "str"|.non => "NoneType"|.lst => "list"|.tup => "tuple"|.dct => "dict"
inductive IK (K:Aj) (H:Hp):V->Ty->Prop where
 |int (i:Int):IK K H (.int i) .int
 |bl (b:Bool):IK K H (.bl b) .bool
 |str (x:Str):IK K H (.str x) .str
 |non:IK K H .non .non
 |lst {a:Addr} {xs:S'} (h:Ai K H a xs):IK K H (.ref a) .lst
 |tup {a:Addr} {xs:S'} (h:Aq K H a xs):IK K H (.ref a) .tup
 |dk {a:Addr} {kvs:List (A3×V)} (h:H a=some (.dK kvs)):IK K H (.ref a) .dct
def RD:Ty->Ty->Bool
 |.int,.int=>true|.bool,.bool=>true|.bool,.int=>true|.str,.str=>true|.non,.non=>true|.lst,.lst=>true|.tup,.tup=>true|.dct,.dct=>true|_,_=>false
def RE (K:Aj):S'->Hp->VK->Prop:=λvs H Q=>∃x T T',vs=[x,.ty (Ty.name T)]/\IK K H x T'/\Q (.bl (RD T' T)) H
def IL:Br X (.builtin "isinstance") (RE X.K):=by
 intro F s σ H g w Q I r h;obtain⟨x,T,z,rfl,ty,q⟩:=h;obtain⟨u,j,rfl,c,p⟩:=K3 r;have k:j=Value.type (Ty.name T):=p;subst k
 cases ty with
 |int i=>
  obtain⟨t,rfl⟩:=c;cases T with|int=>exact IsiPair.int_int ⟨.bl true,H,I,rfl,q⟩|bool=>exact IsiPair.int_bool ⟨.bl false,H,I.tok _,rfl,q⟩|str=>exact IsiPair.int_str ⟨.bl false,H,I.tok _,rfl,q⟩|non=>exact IsiPair.int_NoneType ⟨.bl false,H,I.tok _,rfl,q⟩|lst=>exact IsiPair.int_list ⟨.bl false,H,I.tok _,rfl,q⟩|tup=>exact IsiPair.int_tuple ⟨.bl false,H,I.tok _,rfl,q⟩|dct=>exact IsiPair.int_dict ⟨.bl false,H,I.tok _,rfl,q⟩
 |bl b=>
  obtain rfl:u=Value.bool b:=c;cases T with|int=>exact IsiPair.bool_int ⟨.bl true,H,I,rfl,q⟩|bool=>exact IsiPair.bool_bool ⟨.bl true,H,I,rfl,q⟩|str=>exact IsiPair.bool_str ⟨.bl false,H,I.tok _,rfl,q⟩|non=>exact IsiPair.bool_NoneType ⟨.bl false,H,I.tok _,rfl,q⟩|lst=>exact IsiPair.bool_list ⟨.bl false,H,I.tok _,rfl,q⟩|tup=>exact IsiPair.bool_tuple ⟨.bl false,H,I.tok _,rfl,q⟩|dct=>exact IsiPair.bool_dict ⟨.bl false,H,I.tok _,rfl,q⟩
 |str y=>
  obtain⟨t,rfl⟩:=c;cases T with|int=>exact IsiPair.str_int ⟨.bl false,H,I.tok _,rfl,q⟩|bool=>exact IsiPair.str_bool ⟨.bl false,H,I.tok _,rfl,q⟩|str=>exact IsiPair.str_str ⟨.bl true,H,I,rfl,q⟩|non=>exact IsiPair.str_NoneType ⟨.bl false,H,I.tok _,rfl,q⟩|lst=>exact IsiPair.str_list ⟨.bl false,H,I.tok _,rfl,q⟩|tup=>exact IsiPair.str_tuple ⟨.bl false,H,I.tok _,rfl,q⟩|dct=>exact IsiPair.str_dict ⟨.bl false,H,I.tok _,rfl,q⟩
 |non=>
  obtain rfl:u=Value.none:=c;cases T with|int=>exact IsiPair.NoneType_int ⟨.bl false,H,I.tok _,rfl,q⟩|bool=>exact IsiPair.NoneType_bool ⟨.bl false,H,I.tok _,rfl,q⟩|str=>exact IsiPair.NoneType_str ⟨.bl false,H,I.tok _,rfl,q⟩|non=>exact IsiPair.NoneType_NoneType ⟨.bl true,H,I,rfl,q⟩|lst=>exact IsiPair.NoneType_list ⟨.bl false,H,I.tok _,rfl,q⟩|tup=>exact IsiPair.NoneType_tuple ⟨.bl false,H,I.tok _,rfl,q⟩|dct=>exact IsiPair.NoneType_dict ⟨.bl false,H,I.tok _,rfl,q⟩
 |lst d=>
  obtain rfl:u=Value.ref _:=c;obtain⟨v,l,⟨o,n,e,a,hd,m⟩,f⟩:=I.list d;cases T with|int=>exact IsiPair.list_int e a ⟨.bl false,H,I.tok _,rfl,q⟩|bool=>exact IsiPair.list_bool e a ⟨.bl false,H,I.tok _,rfl,q⟩|str=>exact IsiPair.list_str e a ⟨.bl false,H,I.tok _,rfl,q⟩|non=>exact IsiPair.list_NoneType e a ⟨.bl false,H,I.tok _,rfl,q⟩|lst=>exact IsiPair.list_list e a ⟨.bl true,H,I,rfl,q⟩|tup=>exact IsiPair.list_tuple e a ⟨.bl false,H,I.tok _,rfl,q⟩|dct=>exact IsiPair.list_dict e a ⟨.bl false,H,I.tok _,rfl,q⟩
 |tup d=>
  obtain rfl:u=Value.ref _:=c;obtain⟨v,l,⟨o,e,a,n,m⟩,f⟩:=I.tuple d;cases T with|int=>exact IsiPair.tuple_int e a ⟨.bl false,H,I.tok _,rfl,q⟩|bool=>exact IsiPair.tuple_bool e a ⟨.bl false,H,I.tok _,rfl,q⟩|str=>exact IsiPair.tuple_str e a ⟨.bl false,H,I.tok _,rfl,q⟩|non=>exact IsiPair.tuple_NoneType e a ⟨.bl false,H,I.tok _,rfl,q⟩|lst=>exact IsiPair.tuple_list e a ⟨.bl false,H,I.tok _,rfl,q⟩|tup=>exact IsiPair.tuple_tuple e a ⟨.bl true,H,I,rfl,q⟩|dct=>exact IsiPair.tuple_dict e a ⟨.bl false,H,I.tok _,rfl,q⟩
 |dk d=>
  obtain rfl:u=Value.ref _:=c;obtain⟨f,A,g,E,o,B,C,e,ex,D⟩:=I.hok _ _ d;have a:=ex.1;cases T with|int=>exact IsiPair.dict_int e a ⟨.bl false,H,I.tok _,rfl,q⟩|bool=>exact IsiPair.dict_bool e a ⟨.bl false,H,I.tok _,rfl,q⟩|str=>exact IsiPair.dict_str e a ⟨.bl false,H,I.tok _,rfl,q⟩|non=>exact IsiPair.dict_NoneType e a ⟨.bl false,H,I.tok _,rfl,q⟩|lst=>exact IsiPair.dict_list e a ⟨.bl false,H,I.tok _,rfl,q⟩|tup=>exact IsiPair.dict_tuple e a ⟨.bl false,H,I.tok _,rfl,q⟩|dct=>exact IsiPair.dict_dict e a ⟨.bl true,H,I,rfl,q⟩
def Ud{bs:List Bool}{a:F'}(r:Aw (bs.map V.bl) a):TruthOf P w A (λi v=>a.toArray[i]?=some v) (λi=>bs.getD i false):=by
 intro i v s Q E d f;have c:a[i]?=some v:=(by simpa using d);have g:=r.length;rw[An] at g;have k:i<a.length:=(Bi.mp c).1;have h:(bs.map V.bl)[i]?=some (V.bl (bs.getD i false)):=(by rw[Bf,Dv];have:bs[i]?=some bs[i]:=AM (by lia);rw[this];rfl);obtain⟨u,b,j⟩:=r.get h;rw[c] at b;cases b;have e:v=Value.bool (bs.getD i false):=j;subst e;exact FN f
def Xh{bs:List Bool}:(List.range bs.length).all (λi=>bs.getD i false)=bs.all id:=by rw[Bool.eq_iff_iff,List.all_eq_true,List.all_eq_true];constructor;intro h b d;obtain⟨i,a,e⟩:=OJ.mp d;have:=h i (List.mem_range.mpr a);rw[Dv,AM a] at this;rw[<-e];exact this;intro h i a;have c:=List.mem_range.mp a;rw[Dv,AM c];exact h _ (Eo c)
def RF (K:Aj):S'->Hp->VK->Prop:=λvs H Q=>∃(a:Addr)(bs:List Bool),vs=[.ref a]/\Ai K H a (bs.map V.bl)/\Q (.bl (bs.all id)) H
def Xi(g:X.calm=true):Br X (.builtin "all") (RF X.K):=by
 intro C s σ H t w Q I r h;obtain⟨a,bs,rfl,j,q⟩:=h;obtain⟨u,rfl,k⟩:=F9 r;obtain rfl:u=Value.ref a:=k;obtain⟨c,d,p,x⟩:=I.list j;have f:=d.length;rw[An] at f;have n:a<s.heap.objs.size:=by obtain⟨_,e,_⟩:=p.isList;exact Bg e
 refine call_all_walk (wpAny_pyIter_list p.isList ?_);refine⟨s.heap.objs.size,[s.heap.objs.size,a],[s.heap.objs.size],c.toArray.size,(λi v=>c.toArray[i]?=some v),(λi h=>h.IsListIter s.heap.objs.size a i/\h.IsList a c.toArray),(λi=>bs.getD i false),rfl,Walks.list (A:=X.A.in1) (I.ok.hd g) s.heap.objs.size a (Ch n) c.toArray,⟨⟨_,Cb _ rfl,rfl,rfl⟩,p.isList.push _⟩,Ud d,λy B l=>?_⟩;refine⟨.bl (bs.all id),H,I.kept λb o e=>l b o (λz=>?_) (Ba _ e),?_,q⟩;have m:b=s.heap.objs.size:=(by simpa using z);exact absurd (Bg e) (by rw[m];exact GU _);have e:c.toArray.size=bs.length:=(by rw[Cq,f]);show Value.bool _=Value.bool _;rw[e,Xh]
variable {pins:B'}{σ:St}{s:Shared}
def Inv.track{T:Addr}{o:HO}(I:Inv X pins σ H s)(f:C1 X pins H T)(p:∃ob,s.heap.get? T=some ob)(l:AE X.prog X.w (upd H T o) s.heap T o):Inv X pins σ (upd H T o) s:=by obtain⟨d,g,r,h,i,j⟩:=f;refine I.step (g':=s.gens) (t':=s.toks) (d':=s.drawn) (h':=s.heap) (ch:=[T]) (λb a=>?_) (λb ob ζ ζ ζ e ζ=>e) (λb ob ζ ζ ζ e ζ=>⟨ob.slots,e⟩) (λb ob a e n=>?_) (λb ob ζ e=>⟨ob,e⟩) (λb xs e=>?_) (λb ob u e=>?_) (λb t e=>?_) (λm k=>k) (λb u e=>?_) I.bare;have e:b=T:=(by simpa using a);subst e;exact⟨h,g,i,j⟩;rw[AI (by simpa using a)];exact n;rw[AI (Be e d)];exact e;rw[AI (Be e d)];exact e;exact⟨#[],by rw[AI (Be e d),e];simp⟩;by_cases a:b=T;subst a;rw[Ab] at e;cases e;exact l;rw[AI a] at e;exact(I.hok b u e).stay (λc v ζ q=>q) (λc q=>by rw[AI (Be q d)];exact q) λc xs q=>by rw[AI (Be q d)];exact q
def FP (env:Env):List (Str×NameKind)->List (Str×Addr)->List (Str×Addr)
 |[],acc=>acc
 |(n,k)::r,acc=>if k==.free then FP env r ((n,(env.cells.lookup n).getD 0)::acc) else FP env r acc
theorem RG{env:Env}(f:Str×NameKind->List (Str×Addr)->Sem (ForInStep (List (Str×Addr))))
 (d:∀n k g,f (n,k) g=if(k==NameKind.free)=true then(cellOf env n >>= λa=>pure (.yield ((n,a)::g))) else pure (.yield g)) :
 ∀(names:List (Str×NameKind))(acc:List (Str×Addr)),(∀x∈names,x.2=.free->∃c,env.cells.lookup x.1=some c)->forIn names acc f=pure (FP env names acc)
 |[],acc,_=>by rw[List.forIn_nil];rfl
 |(n,k)::r,acc,h=>by
   rw[List.forIn_cons,d];unfold FP;by_cases b:(k==NameKind.free)=true;rw[Ap b,Ap b];obtain⟨c,j⟩:=h (n,k) BS (beq_iff_eq.mp b);have e:cellOf env n=pure c:=by unfold cellOf;rw[j]
   rw[e,j];exact RG f d r _ λx i=>h x (Du _ i);rw[Ag b,Ag b];exact RG f d r _ λx i=>h x (Du _ i)
variable {scope:Scope}{env:Env}
def Ue(h:∀x∈scope.names,x.2=.free->∃c,env.cells.lookup x.1=some c):closureFor scope env=pure (FP env scope.names []):=by simp only[closureFor];rw[RG (env:=env) _ (λn k b=>by cases a:k==NameKind.free<;>simp[a]) scope.names [] h];rfl
theorem O4{env:Env}:∀{names:List (Str×NameKind)}{acc:List (Str×Addr)}{x:Str}{c:Addr},(x,c)∈FP env names acc->(x,c)∈acc\/((x,NameKind.free)∈names/\c=(env.cells.lookup x).getD 0)
 |[],_,_,_,h=>.inl h
 |(n,k)::r,acc,x,c,h=>by unfold FP at h;by_cases a:(k==NameKind.free)=true;rw[Ap a] at h;rcases O4 h with h|⟨h,e⟩;rcases BB.mp h with h|h;cases h;rw[beq_iff_eq.mp a];exact .inr ⟨BS,rfl⟩;exact .inl h;exact .inr ⟨Du _ h,e⟩;rw[Ag a] at h;rcases O4 h with h|⟨h,e⟩;exact .inl h;exact .inr ⟨Du _ h,e⟩
theorem RH{env:Env}:∀{names:List (Str×NameKind)}{acc:List (Str×Addr)}{p:Str×Addr},p∈acc->p∈FP env names acc
 |[],_,_,h=>h
 |(n,k)::r,acc,p,h=>by unfold FP;by_cases a:(k==NameKind.free)=true;rw[Ap a];exact RH (Du _ h);rw[Ag a];exact RH h
theorem ND{env:Env}:∀{names:List (Str×NameKind)}{acc:List (Str×Addr)}{x:Str},(x,NameKind.free)∈names->∃c,(x,c)∈FP env names acc
 |(n,k)::r,acc,x,h=>by unfold FP;rcases BB.mp h with h|h;cases h;rw[Ap (show(NameKind.free==NameKind.free)=true by rfl)];exact⟨_,RH BS⟩;by_cases a:(k==NameKind.free)=true;rw[Ap a];exact ND h;rw[Ag a];exact ND h
theorem MC{α:Type}:∀{l:List (Str×α)}{x:Str}{c:α},(x,c)∈l->∃a,l.lookup x=some a
 |(n,d)::r,x,c,h=>by
   rw[Mj]
   cases b:x==n with
   |true=>exact⟨d,rfl⟩
   |false=>rcases BB.mp h with h|h;cases h;simp at b;exact MC h
theorem J6:∀(names:List (Str×NameKind))(n:Nat)(acc:List (Str×Addr)),cellsFrom n names acc=cellsFrom n names []++acc
 |[],_,_=>rfl
 |(x,k)::r,n,acc=>by unfold cellsFrom;by_cases a:(k==NameKind.cell)=true;rw[Ap a,Ap a,J6 r (n+1) ((x,n)::acc),J6 r (n+1) [(x,n)],Fv];rfl;rw[Ag a,Ag a];exact J6 r n acc
theorem O5:∀{names:List (Str×NameKind)}{n:Nat}{acc:List (Str×Addr)}{x:Str}{c:Addr},(x,c)∈cellsFrom n names acc->(x,c)∈acc\/(x,NameKind.cell)∈names
 |[],_,_,_,_,h=>.inl h
 |(y,k)::r,n,acc,x,c,h=>by unfold cellsFrom at h;by_cases a:(k==NameKind.cell)=true;rw[Ap a] at h;rcases O5 h with h|h;rcases BB.mp h with h|h;cases h;rw[beq_iff_eq.mp a];exact .inr BS;exact .inl h;exact .inr (Du _ h);rw[Ag a] at h;rcases O5 h with h|h;exact .inl h;exact .inr (Du _ h)
section
variable {M:Model} {A:Around} {E:D'} {s:Shared}
def Xj{a:List (Str×Addr)}{Q:Env->Shared->Prop}
 (b:Q (newEnv scope s.heap.objs.size env.globals (cellsFrom (s.heap.objs.size+1) scope.names a) env.qual none .none (some env) builtinsNs) {s with heap:=pushCells (s.heap.push {cls:=.type "dict",data:=.dict #[]}) scope.names}) :
 wpAny M A (newFunctionEnv scope env.globals a [] env.qual none .none (some env)) Q E s:=by
 simp only[newFunctionEnv,Option.isSome_some,if_true];refine Ae (wpAny_alloc ?_);refine Ae (wpAny_layCells _ (λname d e=>by cases c:d==NameKind.cell<;>simp[c]) _ _ _ _ ?_);rw[show({s with heap:=s.heap.push {cls:=.type "dict",data:=.dict #[]}}:Shared).heap.objs.size=s.heap.objs.size+1 from n7 ..];exact Ae (Ay (Ay b))
end
abbrev EB (X:Cx) (N:I') (scope:Scope) (cs:List (Str×Addr)) (C:Addr) (s:Shared) (H:Hp) (ex:G'):Cx where
 prog:=X.prog
 w:=X.w
 K:=X.K
 mg:=X.mg
 base:=X.base
 A:=X.A
 N:=N
 s₀:=s
 H₀:=H
 env:=compEnvC scope cs C X.env
 outer:=X.stack
 stack:=X.stack
 ex:=ex
 fn:=λx=>decide (scope.names.lookup x≠some .free)
 calm:=X.calm
 pn:=[]
 xe:=λζ ζ=>False
structure Av (psc:Scope) (PN:I') (scope:Scope) (N:I') (k:Nat) (caps:P'):Prop where
 kind:scope.kind=.function
 loc:∀x∈scope.names,x.2=.local->scope.names.lookup x.1=some .local
 ndn:(scope.names.map (·.1)).Nodup
 nd:N.Nodup
 len:N.length=k+caps.length
 free:∀x∈scope.names,x.2=.free->psc.names.lookup x.1=some .cell\/psc.names.lookup x.1=some .free
 cap:∀p∈(N.drop k).zip caps,PN[p.2]?=some p.1/\scope.names.lookup p.1=some .free
def FQ (k:Nat) (caps:P') (σ:St):St:=List.replicate k none++caps.map λj=>(σ[j]?).getD none
variable {caps:P'}{i:Nat}{v:V}
def Uf{k:Nat}(h:(FQ k caps σ)[i]?=some (some v)):∃j,k<=i/\caps[i-k]?=some j/\σ[j]?=some (some v):=by
 unfold FQ at h;by_cases b:i<k;rw[Ez (by simpa using b),List.getElem?_replicate,Ap b] at h;cases h;rw[Ep (by simpa using b),m6,Bf] at h
 cases e:caps[i-k]? with
 |none=>rw[e] at h;cases h
 |some j=>
  rw[e] at h;have a:(σ[j]?).getD none=some v:=BU h;refine⟨j,by lia,rfl,?_⟩;cases q:σ[j]? with|none=>rw[q] at a;cases a|some o=>rw[q] at a;exact By some a
def Ug{a:NameKind}(h:(relabel scope env).names.lookup x=some a):∃k,(x,k)∈scope.names/\(a=k\/(k=.free/\a=.cell)):=by
 have e:=FX h;have f:(x,a)∈scope.names.map (λ(n,k)=>if(k==NameKind.free && env.scope.kind==.function && env.kindOf n==some .cell) then(n,NameKind.cell) else(n,k)):=e;obtain⟨⟨n,k⟩,d,b⟩:=AN.mp f;dsimp only at b;by_cases c:(k==NameKind.free && env.scope.kind==.function && env.kindOf n==some .cell)=true;rw[Ap c] at b;cases b;simp only[Bool.and_eq_true,beq_iff_eq] at c;exact⟨k,d,.inr ⟨c.1.1,rfl⟩⟩;rw[Ag c] at b;cases b;exact⟨a,d,.inl rfl⟩
theorem Uh{f:Str×NameKind->Str×NameKind}(b:∀n k,f (n,k)=(n,k)\/(k=.free/\f (n,k)=(n,NameKind.cell))):∀{names:List (Str×NameKind)}{x:Str},names.lookup x=some .free->(names.map f).lookup x=some .cell\/(names.map f).lookup x=some .free
 |[],_,h=>by simp at h
 |(n,k)::r,x,h=>by
   have d:=@Uh f b r x;rw[Mj] at h;rw[Do]
   cases a:x==n with
   |true=>rw[a] at h;cases h;rcases b n .free with e|⟨_,e⟩;right;rw[e,Mj,a];left;rw[e,Mj,a]
   |false=>rw[a] at h;have c:=d h;rcases b n k with e|⟨_,e⟩;rw[e,Mj,a];exact c;rw[e,Mj,a];exact c
def Ui(h:scope.names.lookup x=some .free):(relabel scope env).names.lookup x=some .cell\/(relabel scope env).names.lookup x=some .free:=by refine Uh (λn k=>?_) h;by_cases a:(k==NameKind.free && env.scope.kind==.function && env.kindOf n==some .cell)=true;right;refine⟨?_,Ap a⟩;simp only[Bool.and_eq_true,beq_iff_eq] at a;exact a.1.1;left;exact Ag a
def O6{names:List (Str×NameKind)}(h:(names.map (·.1)).Nodup){k d:NameKind}(a:(x,k)∈names)(b:(x,d)∈names):k=d:=by
 induction names with
 |nil=>simp at a
 |cons p r g=>rw[Do] at h;obtain⟨e,i⟩:=Fh.mp h;rcases BB.mp a with f|a<;>rcases BB.mp b with c|b;rw[<-f] at c;exact(Prod.mk.inj c).2.symm;exact absurd (AN.mpr ⟨_,b,by rw[<-f]⟩) e;exact absurd (AN.mpr ⟨_,a,by rw[<-c]⟩) e;exact g i a b
variable {h1:Heap}{C:Addr}
def Un.but{fs ex:G'}{h f:Heap}(u:Un fs ex H H' h h1)(c:Heap.SameBut C h1 f)(g:h.objs.size<=C):Un fs ex H H' h f:=by have ne:∀b o,h.get? b=some o->b≠C:=λb o e=>Ch (Fj (Bg e) g);refine⟨λb o e n d a=>(c.2 b (ne b o e)).trans (u.keep b o e n d a),λb o e n d a=>?_,u.free,λb o e a=>?_,u.tups,u.frzs,u.tbls⟩;obtain⟨i,q⟩:=u.slot b o e n d a;exact⟨i,(c.2 b (ne b o e)).trans q⟩;obtain⟨j,q⟩:=u.there b o e a;exact⟨j,(c.2 b (ne b o e)).trans q⟩
def CD.but{d:Heap}(x:CD P w H h1)(g:Heap.SameBut C h1 d)(f:H C=none):CD P w H d:=λb u e=>by refine(x b u e).stay (λc v a q=>(g.2 c ?_).trans q) (λζ q=>q) λζ ζ q=>q;rintro rfl;rcases a with rfl|a;rw[f] at e;cases e;rw[f] at a;cases a
section
variable {X:Cx} {scope:Scope} {N:I'} {k:Nat} {caps:P'} {psc:Scope} {PN:I'} {pins:B'} {σ:St} {H:Hp} {s:Shared}
abbrev DK (X:Cx) (scope:Scope) (C:Addr):List (Str×Addr):=cellsFrom (C+1) scope.names (FP X.env scope.names [])
def Uj(I:Inv X pins σ H s)(S:Av X.env.scope X.N scope N k caps){c:Addr}(h:(x,c)∈DK X scope C) :
 (x,c)∈cellsFrom (C+1) scope.names []\/X.env.cells.lookup x=some c:=by
 unfold DK at h;rw[J6] at h;rcases BI.mp h with h|h;exact .inl h;rcases O4 h with h|⟨h,e⟩;simp at h;obtain⟨b,a⟩:=I.ok.has x (S.free _ h rfl);rw[a] at e;exact .inr (by rw[a];exact By some e.symm)
def Xk{t:G'}(I:Inv X pins σ H s)(S:Av X.env.scope X.N scope N k caps)(B:∀b∈t,C1 X pins H b)(ae:∀b∈t,∃o,s.heap.get? b=some o){D C:Nat}{t':Nat}(g:D=s.heap.objs.size)(J:C=D+1)
 (E:h1=pushCells ((s.heap.push {cls:=.type "list",data:=.seq #[]}).push {cls:=.type "dict",data:=.dict #[]}) scope.names) :
 Inv (EB X N scope (DK X scope C) C s H t) [] (FQ k caps σ) (upd H D (.lst [])) {s with heap:=h1,toks:=t'}:=by
 have Z:(s.heap.push {cls:=.type "list",data:=.seq #[]}).objs.size=C:=(by rw[n7,J,g]);have aa:((s.heap.push {cls:=.type "list",data:=.seq #[]}).push {cls:=.type "dict",data:=.dict #[]}).objs.size=C+1:=(by rw[n7,Z])
 have G:∀b o,s.heap.get? b=some o->h1.get? b=some o:=λb o e=>by
  rw[E];exact pushCells_keeps _ _ b o (Ba _ (Ba _ e))
 have ak:h1.get? D=some {cls:=.type "list",data:=.seq #[]}:=(by rw[E,g];exact pushCells_keeps _ _ _ _ (Ba _ (Cb _ rfl)));have af:h1.Ns C (λζ=>none):=(by rw[E,<-Z];exact(Heap.Ns.new _ (.type "dict")).keeps (pushCells_keeps _ _));have ok:=cellsFrom_ok scope.names ((s.heap.push {cls:=.type "list",data:=.seq #[]}).push {cls:=.type "dict",data:=.dict #[]}) (C+1) [] ⟨λζ ζ d=>(nomatch d),List.Pairwise.nil⟩ (by rw[aa];exact AK _);rw[aa] at ok;have own:∀x c,(x,c)∈cellsFrom (C+1) scope.names []->h1.IsCell c none/\C+1<=c:=λx c h=>by rw[E];exact ok.empty x c h
 have P:∀x c,X.env.cells.lookup x=some c->c<D:=λx c e=>by
  obtain⟨v,q⟩:=I.cell x c e;rw[g];exact q.lt
 have Y:∀b∈t,b<D:=λb f=>by
  obtain⟨o,e⟩:=ae b f;rw[g];exact Bg e
 have ao:H C=none:=I.hok.fresh (by rw[J,g];exact Nat.le_succ _);have split:=λx c(h:(DK X scope C).lookup x=some c)=>Uj (C:=C) I S (FX h);have T:∀b,b≠D->H b=none->(upd H D (.lst [])) b=none:=λb f e=>by rw[AI f];exact e
 have al:∀x,scope.names.lookup x=some .free->∃c,X.env.cells.lookup x=some c/\(DK X scope C).lookup x=some c:=λx w=>by
  have d:=FX w;obtain⟨F,K⟩:=ND (env:=X.env) (acc:=[]) d;obtain⟨c,U⟩:=MC (l:=DK X scope C) (x:=x) (c:=F) (by unfold DK;rw[J6];exact DI _ K);refine⟨c,?_,U⟩;rcases split x c U with q|q;rcases O5 q with z|z;simp at z;have:=O6 S.ndn d z;cases this;exact q
 have ag:(EB X N scope (DK X scope C) C s H t).Ok:=by
  refine⟨I.ok.mod,S.kind,I.ok.glob,I.ok.blt,?above,?inj,?has,?cab,I.ok.hd,I.ok.frames,.inl rfl,?exf,λb o e=>I.bs b o e,Ea I.ok.bsz I.sz,?noex,?exfs,I.stack,I.stkFree⟩
  case above =>
   show s.heap.objs.size<=C;rw[J,g];exact Nat.le_succ _
  case inj =>
   intro x y c L M;rcases split x c L with n|n<;>rcases split y c M with r|r;exact name_of_addr ok.apart n r;have h1:@LE.le Nat _ (C+1) c:=(own x c n).2;have a:@LT.lt Nat _ c D:=P y c r;exfalso;lia;have h1:@LE.le Nat _ (C+1) c:=(own y c r).2;have a:@LT.lt Nat _ c D:=P x c n;exfalso;lia;exact I.ok.inj x y c n r
  case has =>
   intro x w;have Q:(relabel scope X.env).names.lookup x=some .cell\/(relabel scope X.env).names.lookup x=some .free:=w;have p:∃m,(x,m)∈scope.names/\(m=.cell\/m=.free):=(by rcases Q with q|q;obtain⟨m,h1,a⟩:=Ug q;rcases a with a|⟨a,_⟩;exact⟨m,h1,.inl a.symm⟩;exact⟨m,h1,.inr a⟩;obtain⟨m,h1,a⟩:=Ug q;rcases a with a|⟨_,a⟩;exact⟨m,h1,.inr a.symm⟩;cases a);obtain⟨m,d,p|p⟩:=p;subst p
   have q:=PySem.W.cellsFrom_some scope.names (C+1) (FP X.env scope.names []) (x:=x) (.inl (by
    obtain⟨k2,A⟩:=MC d;rw[A,O6 S.ndn (FX A) d]))
   exact Option.isSome_iff_exists.mp q;subst p;obtain⟨F,K⟩:=ND (env:=X.env) (acc:=[]) d;exact MC (c:=F) (by show(x,F)∈DK X scope C;unfold DK;rw[J6];exact DI _ K)
  case cab =>
   intro x c w e;have Q:decide (scope.names.lookup x≠some .free)=true:=w;have ah:=Bd Q;show s.heap.objs.size<=c;have e':(DK X scope C).lookup x=some c:=e;have d:=FX e';unfold DK at d;rw[J6] at d;rcases BI.mp d with z|z;have h1:@LE.le Nat _ (C+1) c:=(own x c z).2;have a:@LE.le Nat _ s.heap.objs.size c:=(by lia);exact a;rcases O4 z with z|⟨z,_⟩;simp at z;obtain⟨k2,A⟩:=MC z;exact absurd (by rw[A,O6 S.ndn (FX A) z]) ah
  case exf =>
   intro b f;refine⟨?_,λx c e z=>?_⟩;have h1:@LT.lt Nat _ b D:=Y b f;exact Ch (show @LT.lt Nat _ b C by lia);rcases split x c e with q|q;have h1:@LE.le Nat _ (C+1) c:=(own x c q).2;have a:@LT.lt Nat _ b D:=Y b f;have V:@Eq Nat c b:=z;lia;exact(B b f).2.2.2.2.1 x c q z
  case noex =>
   intro b o e f;rcases(B b f).2.2.2.1 with q|q;exact I.ok.noex b o e q;exact absurd (Fj (Bg e) (Ea I.ok.bsz q)) (GU _)
  case exfs =>
   intro b f z;have V:b∈EH X.stack:=z;rcases BB.mp (I.stkSub b V) with q|q;exact(B b f).2.1 q;exact(B b f).2.2.1 q
 refine⟨ag,rfl,I.bare,Un.laid G (by rw[g];exact AK _) (I.hok.fresh (by rw[g];exact AK _)),⟨_,af,?loc⟩,?cell,T _ (show @Ne Nat C D by lia) ao,?freeC,λaq O=>absurd O (by simp),?hok,?len⟩
 case loc =>
  intro i x v L M e3;obtain⟨j,hi,hj,hv⟩:=Uf M;have hz:(x,j)∈(N.drop k).zip caps:=(by refine List.mem_iff_getElem?.mpr ⟨i-k,?_⟩;rw[List.getElem?_zip_eq_some];refine⟨?_,hj⟩;rw[List.getElem?_drop,show k+(i-k)=i by lia];exact L);obtain⟨O,R⟩:=S.cap (x,j) hz;have p:=S.free (x,.free) (FX R) rfl;obtain⟨ar,hn,hl⟩:=I.loc;obtain⟨u,ab,l⟩:=hl j x v O hv (by rcases p with q|q;exact .inr (.inl q);exact .inr (.inr q));refine⟨u,ab,?_⟩;obtain⟨c,ai,aj⟩:=al x R;have an:s.heap.IsCell c (some u):=(by rcases l with⟨q,_⟩|⟨_,c',n,r⟩;have W:X.env.scope.names.lookup x=some .local:=q;rcases p with z|z;rw[W] at z;cases z;rw[W] at z;cases z;rw[ai] at n;cases n;exact r);exact .inr ⟨Ui R,c,aj,an.keeps G⟩
 case cell =>
  intro x c e;rcases split x c e with q|q;exact⟨_,(own x c q).1⟩;obtain⟨v,z⟩:=I.cell x c q;exact⟨v,z.keeps G⟩
 case freeC =>
  intro x c e;rcases split x c e with q|q;have h1:@LE.le Nat _ (C+1) c:=(own x c q).2;have a:@LE.le Nat _ s.heap.objs.size c:=(by lia);exact T c (show @Ne Nat c D by lia) (I.hok.fresh a);exact T c (Ch (P x c q)) (I.freeC x c q)
 case hok =>
  exact I.hok.laid G (by rw[g];exact AK _) ⟨Dp _,[],0,.nil,ak⟩
 case len =>
  show(FQ k caps σ).length=N.length;unfold FQ;rw[AY,m6,An,S.len]
def Xl{a:G'}(I:Inv X pins σ H s)(S:Av X.env.scope X.N scope N k caps){t:B'}{σ':St}{e:Shared}(Q:∀x c,X.env.cells.lookup x=some c->c∉a)(U:s.heap.objs.size<=C)
 (J:Inv (EB X N scope (DK X scope C) C s H a) t σ' H' e):Inv (EB X N scope (DK X scope C) C s H a) t (FQ k caps σ) H' e:=by
 obtain⟨m,w,_⟩:=id J.loc;refine⟨J.ok,J.os,J.bare,J.base,⟨m,w,λi x v y A V=>?_⟩,J.cell,J.free,J.freeC,J.pin,J.hok,?_⟩;obtain⟨j,W,B,D⟩:=Uf A;have E:(x,j)∈(N.drop k).zip caps:=(by refine List.mem_iff_getElem?.mpr ⟨i-k,?_⟩;rw[List.getElem?_zip_eq_some];refine⟨?_,B⟩;rw[List.getElem?_drop,show k+(i-k)=i by lia];exact y);obtain⟨F,b⟩:=S.cap (x,j) E;have f:=S.free (x,.free) (FX b) rfl;obtain⟨Y,aa,G⟩:=I.loc;obtain⟨u,r,l⟩:=G j x v F D (by rcases f with q|q;exact .inr (.inl q);exact .inr (.inr q));refine⟨u,r,?_⟩;have T:∃c,X.env.cells.lookup x=some c/\s.heap.IsCell c (some u):=(by rcases l with⟨q,_⟩|⟨_,g,K,L⟩;have h:X.env.scope.names.lookup x=some .local:=q;rcases f with z|z;rw[h] at z;cases z;rw[h] at z;cases z;exact⟨g,K,L⟩);obtain⟨c,d,o,M,hd⟩:=T;have R:(DK X scope C).lookup x=some c:=(by have n:=FX b;obtain⟨O,P⟩:=ND (env:=X.env) (acc:=[]) n;obtain⟨g,p⟩:=MC (l:=DK X scope C) (x:=x) (c:=O) (by unfold DK;rw[J6];exact DI _ P);rcases Uj (C:=C) I S (FX p) with q|q;rcases O5 q with z|z;simp at z;have:=O6 S.ndn n z;cases this;rw[d] at q;cases q;exact p);obtain⟨Z,q⟩:=J.base.any M (I.freeC x c d) (Q x c d);exact .inr ⟨Ui b,c,R,_,q,hd⟩;show(FQ k caps σ).length=N.length;unfold FQ;rw[AY,m6,An,S.len]
end
def PF (X:Cx) (f:O') (t:TT):Prop:=
 ∀(pins:B')(s:Shared)(σ:St)(H:Hp)(Q:Bool->Hp->Prop),Inv X pins σ H s->t σ H Q ->
  wpAny (model X.prog X.w) X.A (forIn f true λc r=>if r=true then do let ok <-isTrue c X.env (eval c X.env);pure (ForInStep.yield ok) else pure (ForInStep.yield r)) (TP X pins σ Q) X.xe s
def IM:TT:=λζ H Q=>Q true H
def Gu:PF X [] IM:=λζ ζ ζ H ζ I h=>wpAny_tests_nil ⟨H,I,h⟩
def Hb{c:Expr}{t:TT}(h:PT X c t):PF X [c] t:=λpins s σ H Q I a=>wpAny_tests_one (h pins s σ H Q I a)
variable {F j:Expr}{f:O'}{L:Pos}
def Xm{prog:Program}{R:Result->Shared->Prop}{target:Expr}{d acc:Value}(I:Nat->Shared->Prop)
 (turn:∀n s,I n s->wpAny (model prog w) A (pyNext d) (λr b=>match r with
  |none=>R (.ok .next) b
  |some v=>wpAny (model prog w) A (letOwnedTupleGo target d v) (λζ b=>wpAny (model prog w) A (assign target env v) (λζ i=>
   wpAny (model prog w) A (forIn f true λc r=>if r=true then do let ok <-isTrue c env (eval c env);pure (ForInStep.yield ok) else pure (ForInStep.yield r)) (λok g =>
    if ok=true then wpAny (model prog w) A (eval F env) (λx k =>
     wpAny (model prog w) A (call (.builtin "list.append") [acc,x]) (λζ l=>∃m,m<n/\I m l) (λζ ζ=>False) k) (λζ ζ=>False) g
    else ∃m,m<n/\I m g) (λζ ζ=>False) i) (λζ ζ=>False) b) (λζ ζ=>False) b) (λζ ζ=>False) s)
 (n:Nat) (h:I n s) :
 codeAny (model prog w) A (.compLoop (.ListComp F [⟨target,j,f,0⟩] scope L) 0 d acc env) R s:=by
 refine codeAny_loop rfl I (λn s p=>?_) n h;show wpAny _ A ((compTurn (.ListComp F [⟨target,j,f,0⟩] scope L) 0 d acc env).onRaise (λx=>do noteFrame x env;theTreesLotGoes x)) _ _ s;refine wpAny_noted ?_;rw[compTurn_list];refine Ae (wpAny_standAt (Ae (Fw (turn n s p) (λr b e=>?_) λζ ζ a=>a.elim)))
 cases r with
 |none=>exact Ay e
 |some v=>
  refine Ae (Fw e (λζ b e=>?_) λζ ζ a=>a.elim);refine Ae (Fw e (λζ i q=>Ae (Fw q (λok g o=>?_) λζ ζ a=>a.elim)) λζ ζ a=>a.elim);cases ok with|false=>exact Ay ⟨rfl,o⟩|true=>exact Ae (Ae (Fw o (λx k t=>Ae (Fw t (λζ l u=>Ay (Ay ⟨rfl,u⟩)) λζ ζ a=>a.elim)) λζ ζ a=>a.elim))
def Lh (J:It) (k:Nat) (caps:P') (g:TG) (l:TT) (te:TE) (σ:St) (U:Hp) (Q:Addr->Hp->Prop):Prop:=∀D,U D=none->∃W:Nat->Nat->S'->Hp->Prop,(∃m,W 0 m [] (upd U D (.lst [])))/\∀i m ys Z,W i m ys Z ->
 (J.stop i Z/\Q D Z)\/(J.go i Z/\∀x H3,J.yld i Z x H3->g x (FQ k caps σ) H3 λσ4 H4=>l σ4 H4 λb H5 =>
  if b=true then te σ4 H5 λy H6=>H6 D=some (.lst ys)/\ys.length<sizeLine/\∃m',m'<m/\W (i+1) m' (ys++[y]) (upd H6 D (.lst (ys++[y]))) else ∃m',m'<m/\W (i+1) m' ys H5)
def J7 (k:Nat) (caps:P') (wi:TI) (g:TG) (l:TT) (te:TE):TE:=λσ H Q=>wi σ H λJ U=>Lh J k caps g l te σ U λD Z=>Q (.ref D) Z
variable {g:TG}{l:TT}{te:TE}
def O7{J:It}{k:Nat}{Q:Addr->Hp->Prop}(n:Nat)(Pv:Addr->Nat->S'->Hp->Prop)(j:∀D,U D=none->Pv D 0 [] (upd U D (.lst [])))
 (go:∀D i ys Z,Pv D i ys Z->i<n->J.go i Z) (stop:∀D ys Z,Pv D n ys Z->J.stop n Z)
 (o:∀D i ys Z x c(R:VK)(h:Hp->Prop),U D=none->i<n->Pv D i ys Z->J.yld i Z x c->(∀y d,d D=some (.lst ys)->ys.length<sizeLine->Pv D (i+1) (ys++[y]) (upd d D (.lst (ys++[y])))->R y d)->(∀a,Pv D (i+1) ys a->h a)->g x (FQ k caps σ) c λσ4 q=>l σ4 q λb a=>if b=true then te σ4 a R else h a)
 (hd:∀D ys Z,U D=none->Pv D n ys Z->Q D Z):Lh J k caps g l te σ U Q:=by
 intro D f;refine⟨λi m ys Z=>m=n-i/\i<=n/\Pv D i ys Z,⟨n,rfl,Dp _,j D f⟩,?_⟩;rintro i m ys Z ⟨rfl,w,p⟩;by_cases e:i<n;exact .inr ⟨go D i ys Z p e,λx c y=>o D i ys Z x c _ _ f e p y (λv d r s t=>⟨r,s,n-(i+1),by lia,rfl,e,t⟩) λa u=>⟨n-(i+1),by lia,rfl,e,u⟩⟩
 . obtain rfl:i=n:=by lia
   exact .inl ⟨stop D ys Z p,hd D ys Z f p⟩
variable {tg:Expr}{N:I'}
def Uk{k:Nat}{E:D'}{Q:VK}
 {Y:Addr} {d:G'} {M:Nat->Heap->Prop} {J:It} {R:Value->Addr->Result->Shared->Prop} (hc:X.calm=true) (S:Av X.env.scope X.N scope N k caps) (I:Inv X pins σ H s)
 (T:F0 X.prog X.w X.K tg J d Y M) (st:M 0 s.heap) (r:∀b∈d,C1 X pins H b)
 (hg:∀O C s H ex,PG (EB X N scope O C s H ex) tg g) (ht:∀O C s H ex,PF (EB X N scope O C s H ex) f l) (he:∀O C s H ex,PE (EB X N scope O C s H ex) F te)
 (q:Lh J k caps g l te σ H λD ak=>Q (.ref D) ak)
 (ao:∀D C H' h m,C≠X.env.locals->(∀x c,X.env.cells.lookup x=some c->c≠C)->h.heap.Ns C m->(∀h',Heap.SameBut C h.heap h'->Inv X pins σ H' {h with heap:=h'})->H' C=none->s.heap.objs.size<=C->Q (.ref D) H'->R (.ref D) C (.ok .next) h) :
 wpAny (model X.prog X.w) X.A (newList []) (λacc s₃=>wpAny (model X.prog X.w) X.A (newFunctionEnv scope X.env.globals (FP X.env scope.names []) [] X.env.qual none .none (some X.env)) (λai s₄ =>
  codeAny (model X.prog X.w) X.A (.compStart (.ListComp F [⟨tg,j,f,0⟩] scope L) 0 (.ref Y) acc {ai with scope:=relabel scope X.env}) (R acc ai.locals) s₄) E s₃) E s:=by
 refine wpAny_newObj_type (Xj ?_);generalize p:s.heap.objs.size=D;have a1:(s.heap.push {cls:=.type "list",dict:=none,data:=.seq ([]:F').toArray}).objs.size=D+1:=(by rw[n7,p]);dsimp only;rw[a1];have aa:∀b∈d,∃o,s.heap.get? b=some o:=λb a=>let ⟨o,e,_⟩:=T.obj 0 _ st b a;⟨o,e⟩;have aq:H D=none:=I.hok.fresh (by rw[p];exact AK _);have J0:=Xk (t':=s.toks) I S r aa (D:=D) (C:=D+1) p.symm rfl rfl;have ar:∀x c,X.env.cells.lookup x=some c->c∉d:=λx c e a=>(r c a).2.2.2.2.1 x c e rfl
 have ab:∀{K:B'}{H':Hp},(∀b∈d,H' b=none)->K=[]->∀b∈d,C1 (EB X N scope (DK X scope (D+1)) (D+1) s H d) K H' b:=λ{K H'}Z hp b a=>by
  obtain⟨o,e⟩:=aa b a;have au:@LT.lt Nat _ b D:=by rw[<-p];exact Bg e
  subst hp;refine⟨Z b a,?_,λz=>?_,.inl a,λx c e=>(J0.ok.exf b a).2 x c e,λa2 hp=>absurd hp (by simp)⟩;show @Ne Nat b (D+1);lia;have z':b∈EH X.stack:=z;rcases BB.mp (I.stkSub b z') with w|w;exact(r b a).2.1 w;exact(r b a).2.2.1 w
 obtain⟨W,⟨m0,w0⟩,turn⟩:=q D aq;have af:M 0 (pushCells ((s.heap.push {cls:=.type "list",data:=.seq #[]}).push {cls:=.type "dict",data:=.dict #[]}) scope.names):=T.keep 0 _ _ st λb a o e=>pushCells_keeps _ _ b o (Ba _ (Ba _ e))
 have av:∀b∈d,(upd H D (.lst [])) b=none:=λb a=>by
  obtain⟨o,e⟩:=aa b a;have au:@LT.lt Nat _ b D:=by rw[<-p];exact Bg e
  rw[AI (show @Ne Nat b D by lia)];exact(r b a).1
 have aw:∀{H':Hp}{h:Shared}{σ':St}{K:B'},Inv (EB X N scope (DK X scope (D+1)) (D+1) s H d) K σ' H' h->Q (.ref D) H'->R (.ref D) (D+1) (.ok .next) h:=λ{H' h σ' K}J q=>by
  obtain⟨m,Z,_⟩:=id J.loc;refine ao D (D+1) H' h m (λz=>?_) (λx c e z=>?_) Z (λh' hs=>?_) J.free (by rw[p];exact Nat.le_succ _) q;have h1:@LT.lt Nat _ X.env.locals D:=by rw[<-p];exact I.lt
  have z':@Eq Nat (D+1) X.env.locals:=z;lia;obtain⟨v,y⟩:=I.cell x c e;have h1:@LT.lt Nat _ c D:=by rw[<-p];exact y.lt
  have z':@Eq Nat c (D+1):=z;lia;refine I.call' (ch:=d) J.os (J.base.but hs (by rw[p];exact Nat.le_succ _)) (J.hok.but hs J.free) J.bare λb a=>?_;exact⟨(r b a).2.2.2.1,(r b a).2.1,(r b a).2.2.2.2.1,(r b a).2.2.2.2.2⟩
 have aj:codeAny (model X.prog X.w) X.A (.compLoop (.ListComp F [⟨tg,j,f,0⟩] scope L) 0 (.ref Y) (.ref D) (compEnvC scope (DK X scope (D+1)) (D+1) X.env)) (R (.ref D) (D+1))
  {s with heap:=pushCells ((s.heap.push {cls:=.type "list",data:=.seq #[]}).push {cls:=.type "dict",data:=.dict #[]}) scope.names}:=by
  refine Xm (λn h=>∃i t H',Inv (EB X N scope (DK X scope (D+1)) (D+1) s H d) [] (FQ k caps σ) H' h/\M i h.heap/\(∀b∈d,H' b=none)/\W i n t H') ?_ m0 ⟨0,[],_,J0,af,av,w0⟩;rintro n s3 ⟨i,t,H3,I3,ag,ah,w3⟩;rcases turn i n t H3 w3 with⟨stop,qn⟩|⟨go,step⟩
  . refine AQ (T.done (EB X N scope (DK X scope (D+1)) (D+1) s H d) rfl rfl rfl hc i [] s3 _ H3 _ I3 (ab ah rfl) ag stop) λal s4⟨hr,I4⟩=>?_
    subst hr;exact aw I4 qn
  refine AQ (T.item (EB X N scope (DK X scope (D+1)) (D+1) s H d) rfl rfl rfl hc i [] s3 _ H3 _ I3 (ab ah rfl) ag go) λal s4⟨an,hr,h4⟩=>?_;subst hr;refine AQ h4 λ_ s5⟨x,H5,I5,r5,y5,ae,ax⟩=>?_;have ay:=I5.pinned (ab ax rfl) (T.obj _ _ ae)
  have again:∀{σ7:St}{A:Hp}{B:Shared}{u:Nat}{zs:S'},Inv (EB X N scope (DK X scope (D+1)) (D+1) s H d) ([]++Ni d s5.heap) σ7 A B->u<n->W (i+1) u zs A ->
   ∃m,m<n/\∃i t H',Inv (EB X N scope (DK X scope (D+1)) (D+1) s H d) [] (FQ k caps σ) H' B/\M i B.heap/\(∀b∈d,H' b=none)/\W i m t H':=λ{σ7 A B u zs}G P w7=>by
   refine⟨u,P,i+1,zs,A,Xl I S ar (by rw[p];exact Nat.le_succ _) G.unpinned,T.keep _ _ _ ae λb a o e=>(G.pin (b,o) (DI _ (DI _ (OV a e)))).1,λb a=>?_,w7⟩;obtain⟨o,e,a3⟩:=T.obj _ _ ae b a;exact(G.pin (b,o) (DI _ (DI _ (OV a e)))).2.1
  refine AQ (hg _ _ _ _ _ _ s5 _ H5 x an _ ay r5 (step x H5 y5)) λ_ s6⟨σ6,H6,I6,q6⟩=>?_;refine AQ (ht _ _ _ _ _ _ s6 σ6 H6 _ I6 q6) λb B⟨A,G,U⟩=>?_;cases b with|false=>rw[Ag Ce] at U ⊢;obtain⟨u,P,w7⟩:=U;exact again G P w7|true=>rw[Ap rfl] at U ⊢;refine AQ (he _ _ _ _ _ _ B σ6 A _ G U) λy s8⟨yv,H8,I8,r8,az,a0,u,P,w8⟩=>?_;refine AQ (T1 (X:=EB X N scope (DK X scope (D+1)) (D+1) s H d) _ s8 σ6 H8 (.ref D) [yv] (.ref D) [y] (λζ H9=>W (i+1) u (t++[yv]) H9) I8 rfl (.cons r8 .nil) ⟨t,az,a0,w8⟩) λ_ s9⟨_,H9,I9,_,w9⟩=>?_;exact again I9 P w9
 exact codeAny_compStart_list aj (T.self _ 0 _ _ _ af aj)
def Hc{k:Nat}{b:TI}(c:X.calm=true)(S:Av X.env.scope X.N scope N k caps)(d:PI X tg j b)
 (i:∀a C s H ex,PG (EB X N scope a C s H ex) tg g) (n:∀a C s H ex,PF (EB X N scope a C s H ex) f l) (o:∀a C s H ex,PE (EB X N scope a C s H ex) F te)
 (p:∀x,foldedSetIterable j X.env x=pure x:=by intro _;rfl):PE X (.ListComp F [⟨tg,j,f,0⟩] scope L) (J7 k caps b g l te):=by
 intro pins s σ H Q I h;have E:closureFor scope X.env=pure (FP X.env scope.names []):=Ue λx r G=>I.ok.has x.1 (S.free x r G);rw[eval_ListComp];refine wpAny_comprehension_free (use:=none) rfl p E S.kind S.loc (AQ (d pins s σ H _ I h) λv O h1=>AQ h1 λY P t=>?_);obtain⟨R,U,V,J,Z,e,u,T,K,w,q⟩:=t;subst e;refine Uk (Q:=Q) c S u T K w i n o q ?_;intro D C H' W m _ _ y z _ _ A;exact⟨m,y,λB M=>⟨.ref D,H',z B M,rfl,A⟩⟩
def O8{G:Pos}{k:Nat}{t:Pos}{w:TI}(J:X.N.Nodup)(aa:X.N[i]?=some x)(o:Loc X.env.scope x)
 (K:X.calm=true) (S:Av X.env.scope X.N scope N k caps) (M:PI X tg j w)
 (O:∀c C s H ex,PG (EB X N scope c C s H ex) tg g) (P:∀c C s H ex,PF (EB X N scope c C s H ex) f l) (R:∀c C s H ex,PE (EB X N scope c C s H ex) F te)
 (ab:swapsWith (.ListComp F [⟨tg,j,f,0⟩] scope L) (some (.Name x t)) G.line X.env=pure true:=by rfl)
 (W:∀x,foldedSetIterable j X.env x=pure x:=by intro _;rfl) (ae:X.fn x=true\/X.env.scope.names.lookup x=some .local:=by first|exact .inl rfl|exact .inr rfl|assumption) :
 PS X (.Assign [.Name x t] (.ListComp F [⟨tg,j,f,0⟩] scope L) G) (Iy (J7 k caps w g l te) (Go i)):=by
 intro pins s σ H D I h;have af:closureFor scope X.env=pure (FP X.env scope.names []):=Ue λx o ag=>I.ok.has x.1 (S.free x o ag);rw[exec_Assign_Name_used _ _ _ _ ab];refine Ae (wpAny_standAt (Ae ?_));show wpAny _ _ (do let _ <-comprehension (.ListComp F [⟨tg,j,f,0⟩] scope L) scope X.env _ (newList []) false (eval j X.env) (some (assign (.Name x t) X.env))) _ _ s
 refine Ae (Fw (wpAny_comprehension_free (use:=some (assign (.Name x t) X.env)) (Q:=λζ d=>SP X pins D .next d) rfl W af S.kind S.loc
  (AQ (M pins s σ H _ I h) λv s1 h1=>AQ h1 λav s2 Y=>?_)) (λζ d r=>Ay (Ay r)) λζ ζ e=>e)
 obtain⟨it,fp,tn,aq,ar,e,u,T,ah,Z,q⟩:=Y;subst e;refine Uk (Q:=λx U=>Go i x σ U D.nx) K S u T ah Z O P R q ?_;intro y C H' d m A B hn hI ai E r;have I3:=hI d.heap (.refl ..);have aj:Inv X pins σ H' d:=I3;refine wpAny_assign_Name (Tt aj J aa o (show RelV (V.ref y) (.ref y) from rfl) (λak I4⟨a,al,n⟩=>?_) ae);have an:C≠a:=(by rcases n with n|n;rw[n];exact A;exact Ne.symm (B x a n));refine⟨m,hn.sameBut al an,λh' ao=>?_⟩;refine⟨_,H',?_,r⟩
 exact I4.turned (t':=ak.toks) (λb au hb e=>(ao.2 b hb).trans e) ai A (.inr (Ea u.sz E)) B λp hp z=>by
  have:=Bg (u.pin p hp).1;rw[z] at this;exact absurd (Fj this E) (GU _)
def BG (P:Program) (w:World) (K:Aj) (mg:Str->K') (base:Heap) (x:Str) (k:Nat) (ps:I') (sp:Sp):Prop:=
 ∃f fd,Eb P w K mg base Ig k f fd ps sp/\mg x=some (.ref f)/\PySem.W.keepIn K (.ref f)=true/\Binds K fd ps []
section
variable {X:Cx} {x:Str} {k:Nat} {ps:I'} {sp:Sp} {e:Expr} {es:O'} {t:TA} {p L:Pos}
def AV(C:BG X.prog X.w X.K X.mg X.base x k ps sp)(a:PA X (e::es) t)(b:BP k X.A:=by exact BP.mono (by assumption) (by decide))(c:Gl X x:=by rfl)(j:(x==j1)=false:=by decide)
 (d:starEach (e::es) X.env=(false,eval e X.env)::starEach es X.env:=by rfl) (l:(backTo L (starEach es X.env)).any (·.1)=false:=by rfl):PE X (.Call (.Name x p) (e::es) [] L) (J2 sp [] E0 t):=by
 obtain⟨f,fd,F,g,h,i⟩:=C;exact IC F b c g h i .nil NC a j d l
end
def IP(n:String)(a:Gl X x)(b:X.mg x=none)(hv:bootBuiltins x=some (.type n))(c:x ≠ "__name__" :=by decide)(hd:(x==j1)=false:=by decide):PE X (.Name x L) (tC (.ty n)):=Iw (v:=.ty n) a b hv rfl c hd
def NE{t u:TS}{D:Ends}{σ:L2.St}(P:L2.St->Hp->Prop)(a:∀σ' H',P σ' H'->u D σ' H')(b:∀N:L2.St->Hp->Prop,(∀σ' H',P σ' H'->N σ' H')->t {D with nx:=N} σ H):KQ t u D σ H:=b (u D) a
def Ad.upd{H H':Hp}{D:Addr}{o:HO}(h:Ad H H')(a:H D=none):Ad H (upd H' D o):=λb u e=>by rw[AI (Be e a)];exact h b u e
def Ad.seqT{K:Aj}(e:Ad H H')(h:Aq K H a xs):Aq K H' a xs:=by rcases h with(h|⟨o,h⟩)|h;exact .inl (.inl (e _ _ h));exact .inl (.inr ⟨o,e _ _ h⟩);exact .inr h
def Ul{K:Aj}{k:Nat}{Q:Addr->Hp->Prop}(f:V->V)(r:xs.length<=sizeLine)(j:Ai K U a xs)
 (q:∀(i:Nat)(x:V)(Z:Hp)(D:Addr)(R:VK),xs[i]?=some x->Ad U Z->U D=none->(∀e,Ad Z e->R (f x) e)->g x (FQ k caps σ) Z λσ4 l=>te σ4 l R)
 (hd:∀(Z:Hp)(D:Addr),Ad U Z->U D=none->Z D=some (.lst (xs.map f))->Q D Z):Lh (Mr K a) k caps g IM te σ U Q:=by
 refine O7 xs.length (λD i b Z=>b=(xs.take i).map f/\Ad U Z/\Z D=some (.lst b)) (λD c=>⟨rfl,(Ad.refl _).upd c,Ab⟩) (λD i b Z p m=>⟨xs,xs[i],p.2.1.seq j,by simp[m]⟩) (λD b Z p=>⟨xs,p.2.1.seq j,AK _⟩) (λD i b Z x e R s c m p y k t=>?_) λD b Z c p=>?_;obtain⟨rfl,y⟩:=y;obtain⟨rfl,d,h⟩:=p;have n:=y xs (d.seq j);refine q i x e D _ n d c λl o=>k _ _ (o _ _ h) (by rw[An,Dx];lia) ⟨?_,(d.trans o).upd c,Ab⟩;rw[En,n,Bh];rfl;obtain⟨rfl,d,h⟩:=p;rw[Dw] at h;exact hd Z D d c h
def AS (ns:E') (k:Int):Int:=(ns[k.toNat]?).getD 0
def RI{u:TS}{D:Ends}(h:u D (σ.set i (some v)) H):KQ (Iy (tC v) (Go i)) u D σ H:=h
def MD{k:Int}(a:0<=k)(h1:k<n):G6 n k=some k.toNat:=by unfold G6;rw[Ap a,Ap h1]
def RJ(xs:S')(n:Nat):E9 xs none (some (n:Int))=xs.take n:=by unfold E9;rw[HT.sIx_none,HT.sIx_nat,List.drop_zero,Nat.sub_zero];by_cases h:n<=xs.length;rw[Nat.min_eq_left h];rw[Nat.min_eq_right (by lia),List.take_of_length_le (AK _),List.take_of_length_le (by lia)]
def A9{p:Addr}{o:HO}(h:H p=none):Ad H (upd H p o):=(Ad.refl H).upd h
def Bz{σ:L2.St}{N:L2.St->Hp->Prop}(h:N (σ.set i (some v)) H):Go i v σ H N:=h
section
variable {X:Cx}
def Gv:Nq X "list.append" TZ:=T1
def ME:Nq X "list.extend" T4:=W5
end
section
variable {X:Cx}
def IQ (neg:Bool):R2:=λx y H Q=>∃a o,y=.ref a/\EA H a x o/\Q (.bl (o.isSome != neg)) H
def Xn(b:X.A.units+1<cLine):CW X (compareOp .In) (IQ false):=by intro pins s σ H x y v u Q I c d h;obtain⟨a,o,rfl,g,q⟩:=h;cases d;refine RB b I g c λf e=>⟨.bl _,H,e,?_,q⟩;cases o<;>rfl
def Xo:V->V->V->Hp->(Hp->Prop)->Prop:=λo i v H Q=>∃a H',o=.ref a/\Gr H a i v H'/\Q H'
def Um(b:X.A.units+1<cLine):Ix X Xo:=by intro pins s σ H o i v j k u Q I c d e h;obtain⟨a,H',rfl,g,q⟩:=h;cases c;exact W8 b I g d e λl f=>⟨H',f,q⟩
end
section
variable {prog:Program} {w:World} {A:Around} {R:Result->Shared->Prop} {It:Addr} {fp r:G'} {G:Array GenState->Array GenState->Prop} {n:Nat} {Pn:Nat->Value->Prop} {Sn:Nat->Shared->Prop}
end
section
variable {prog:Program} {w:World} {A:Around} {E:D'} {s:Shared}
end
section
variable {X:Cx}
end
open PySem.SeqAt
inductive Dt where
 |non|bl (b:Bool)|int (i:Int)|str (x:Str)|tup (l:List Dt)|lst (l:List Dt)
mutual
inductive Ao (K:Aj) (H:Hp):V->Dt->Prop where
 | non:Ao K H .non .non
 | bl (b:Bool):Ao K H (.bl b) (.bl b)
 | int (i:Int):Ao K H (.int i) (.int i)
 | str (x:Str):Ao K H (.str x) (.str x)
 | tup {a:Addr} {vs:S'} {ds:List Dt} (h:Aq K H a vs) (t:Ak K H vs ds):Ao K H (.ref a) (.tup ds)
 | lst {a:Addr} {vs:S'} {ds:List Dt} (h:Ai K H a vs) (t:Ak K H vs ds):Ao K H (.ref a) (.lst ds)
inductive Ak (K:Aj) (H:Hp):S'->List Dt->Prop where
 | nil:Ak K H [] []
 | cons {v:V} {d:Dt} {vs:S'} {ds:List Dt} (h:Ao K H v d) (t:Ak K H vs ds):Ak K H (v :: vs) (d :: ds)
end
mutual
theorem Ao.same {K:Aj}{H H':Hp} (e:Ad H H') {v:V} {d:Dt} (h:Ao K H v d):Ao K H' v d:=by
 cases h with| non=>exact .non| bl b=>exact .bl b| int i=>exact .int i| str x=>exact .str x| tup h t=>exact .tup (e.seqT h) (Ak.same e t)| lst h t=>exact .lst (e.seq h) (Ak.same e t)
theorem Ak.same {K:Aj}{H H':Hp} (e:Ad H H') {vs:S'} {a:List Dt} (h:Ak K H vs a):Ak K H' vs a:=by
 cases h with| nil=>exact .nil| cons h t=>exact .cons (Ao.same e h) (Ak.same e t)
end
theorem Ak.length{K:Aj}{H:Hp}:∀{vs:S'}{a:List Dt},Ak K H vs a->vs.length=a.length
 |_,_,.nil=>rfl
 |_,_,.cons _ t=>By (·+1) t.length
theorem Ak.get{K:Aj}{H:Hp}:∀{vs:S'}{a:List Dt}{i:Nat}{v:V},Ak K H vs a->vs[i]?=some v->∃d,a[i]?=some d/\Ao K H v d
 |_,_,_,_,.nil,e=>by simp at e
 |_,_,0,_,.cons h _,e=>by simp at e;subst e;exact⟨_,rfl,h⟩
 |_,_,i+1,v,.cons _ t,e=>by obtain⟨d,h1,b⟩:=Ak.get (i:=i) (v:=v) t (by simpa using e);exact⟨d,by simpa using h1,b⟩
theorem Ak.get'{K:Aj}{H:Hp}:∀{vs:S'}{a:List Dt}{i:Nat}{d:Dt},Ak K H vs a->a[i]?=some d->∃v,vs[i]?=some v/\Ao K H v d
 |_,_,_,_,.nil,e=>by simp at e
 |_,_,0,_,.cons h _,e=>by simp at e;subst e;exact⟨_,rfl,h⟩
 |_,_,i+1,v,.cons _ t,e=>by obtain⟨d,h1,b⟩:=Ak.get' (i:=i) (d:=v) t (by simpa using e);exact⟨d,by simpa using h1,b⟩
theorem Ak.strs{K:Aj}{H:Hp}:∀(xs:I'),Ak K H (xs.map V.str) (xs.map Dt.str)
 |[]=>.nil
 |x::xs=>.cons (.str x) (Ak.strs xs)
section
variable {X:Cx} {pins:B'} {σ:St} {H:Hp} {s:Shared}
def Inv.not_both(I:Inv X pins σ H s){ys:S'}(h:Ai X.K H a xs)(h':Aq X.K H a ys):False:=by obtain⟨_,_,⟨o,n,e,c,_⟩,_⟩:=I.list h;obtain⟨_,_,⟨f,b,d,_⟩,_⟩:=I.tuple h';rw[e] at b;cases b;rw[c] at d;exact absurd d (by decide)
mutual
theorem Ao.inj (I:Inv X pins σ H s) {v:V} {d e:Dt} (h:Ao X.K H v d) (h':Ao X.K H v e):d=e:=by
 cases h with
 | non=>cases h';rfl
 | bl _=>cases h';rfl
 | int _=>cases h';rfl
 | str _=>cases h';rfl
 | tup h t=>cases h' with
   | tup h' a=>have e:=I.tuple_inj h h';subst e;rw[Ak.inj I t a]
   | lst h' _=>exact(I.not_both h' h).elim
 | lst h t=>cases h' with
   | lst h' a=>have e:=I.list_inj h h';subst e;rw[Ak.inj I t a]
   | tup h' _=>exact(I.not_both h h').elim
theorem Ak.inj (I:Inv X pins σ H s) {vs:S'} {a es:List Dt} (h:Ak X.K H vs a) (h':Ak X.K H vs es):a=es:=by
 cases h with
 | nil=>cases h';rfl
 | cons h t=>cases h' with
   | cons h' b=>rw[Ao.inj I h h',Ak.inj I t b]
end
end
def Dt.kd:Dt->Nat
 |.non=>0|.bl _=>1|.int _=>2|.str _=>3|.tup _=>4|.lst _=>5
def GP (a b:Nat):Bool:=a != b && !(a==1 && b==2) && !(a==2 && b==1)
mutual
inductive Dz:Nat->Dt->Dt->Prop where
 | non {n:Nat}:Dz n .non .non
 | bl {n:Nat} (a b:Bool):Dz n (.bl a) (.bl b)
 | int {n:Nat} (a b:Int):Dz n (.int a) (.int b)
 | str {n:Nat} (a b:Str):Dz n (.str a) (.str b)
 | tup {n:Nat} {ds es:List Dt} (t:Bo n ds es):Dz (n+1) (.tup ds) (.tup es)
 | lst {n:Nat} {ds es:List Dt} (t:Bo n ds es):Dz (n+1) (.lst ds) (.lst es)
 | apart {n:Nat} {d e:Dt} (h:GP d.kd e.kd=true):Dz (n+1) d e
inductive Bo:Nat->List Dt->List Dt->Prop where
 | nil {n:Nat} (es:List Dt):Bo n [] es
 | nil' {n:Nat} (ds:List Dt):Bo n ds []
 | cons {n:Nat} {d e:Dt} {ds es:List Dt} (h:Dz n d e) (t:Bo n ds es):Bo n (d :: ds) (e :: es)
end
theorem Bo.of{n:Nat}:∀{a es:List Dt},(∀d∈a,∀e∈es,Dz n d e)->Bo n a es
 |[],es,_=>.nil es
 |d::a,[],_=>.nil' _
 |d::a,e::es,h=>.cons (h d (by simp) e (by simp)) (Bo.of λx b y c=>h x (by simp[b]) y (by simp[c]))
open Classical in
noncomputable def dec (p:Prop):Bool:=decide p
variable {p:Prop}
def Fm(h:p):dec p=true:=@A5 p (Classical.propDecidable p) h
def FR(h:¬p):dec p=false:=@DS p (Classical.propDecidable p) h
def Fa:dec p=true↔p:=⟨λh=>@Bd p (Classical.propDecidable p) h,Fm⟩
def MF{q:Prop}(h:p↔q):dec p=dec q:=by rw[propext h]
def RK{α:Type} [BEq α] [LawfulBEq α]{a b:α}(h:p↔a=b):(a==b)=dec p:=by by_cases e:a=b;subst e;rw[Fm (h.mpr rfl)];exact beq_self_eq_true _;rw[FR λq=>e (h.mp q)];exact beq_false_of_ne e
variable {ds es:List Dt}
def Xp(b:ds.length=es.length)(h:∀i,i<ds.length->ds[i]?=es[i]?):ds=es:=n9 λi=>by by_cases a:i<ds.length;exact h i a;rw[GH (by lia),GH (by lia)]
section
variable {X:Cx} {pins:B'} {σ:St} {H:Hp} {s:Shared}
def Hd(A:Around):A.in1.units=A.units+1:=rfl
def Uo(I:Inv X pins σ H s){vs c:S'}{a b:F'}(f:Aw vs a)(g:Aw c b)(J:Ak X.K H vs ds)(o:Ak X.K H c es)
 (r:∀(i:Nat)(d e:Dt)(v u:V)(x y:Value),ds[i]?=some d->es[i]?=some e->RelV v x->RelV u y->Ao X.K H v d->Ao X.K H u e->EqAt A s x y (dec (d=e))) :
 ∀j(h1:j<a.toArray.size)(h:j<b.toArray.size),EqAt A s a.toArray[j] b.toArray[j] (dec (ds[j]?=es[j]?)):=by
 intro j h1 h;have D:=f.length;have E:=g.length;have B:j<a.length:=(by simpa using h1);have C:j<b.length:=(by simpa using h);obtain⟨x,l,t⟩:=f.get (i:=j) (x:=vs[j]'(by lia)) (AM (by lia));obtain⟨y,m,w⟩:=g.get (i:=j) (x:=c[j]'(by lia)) (AM (by lia));obtain⟨d,hd,k⟩:=J.get (i:=j) (v:=vs[j]'(by lia)) (AM (by lia));obtain⟨e,n,te⟩:=o.get (i:=j) (v:=c[j]'(by lia)) (AM (by lia));have ex:a.toArray[j]=x:=(by rw[AM B] at l;simpa using l);have z:b.toArray[j]=y:=(by rw[AM C] at m;simpa using m);rw[ex,z,hd,n];have:=r j d e _ _ x y hd n t w k te;rw[MF (p:=some d=some e) (q:=d=e) (by simp)];exact this
def Up(a:n=ds.length)(b:ds.length=es.length):(List.range n).all (λj=>dec (ds[j]?=es[j]?))=dec (ds=es):=by subst a;by_cases h:ds=es;subst h;rw[Fm rfl,List.all_eq_true];exact λi ζ=>Fm rfl;rw[FR h,Bool.eq_false_iff];intro q;rw[List.all_eq_true] at q;exact h (Xp b λi c=>Fa.mp (q i (List.mem_range.mpr c)))
variable {d e:Dt}{u:V}{y:Value}
def Xq(I:Inv X pins σ H s){x:Value}(h:GP d.kd e.kd=true)(k:Ao X.K H v d)(te:Ao X.K H u e)(j:RelV v x)(f:RelV u y)(c:A.units<cLine):EqAt A s x y false/\RcAt A s x y false/\RcNeAt A s x y true:=by
 cases k with
 |non=>
  cases j;cases te with|non=>exact absurd h (by simp[GP,Dt.kd])|bl b=>cases f;exact⟨EqAt.none_bool _,RcAt.none_bool _,RcNeAt.none_bool _⟩|int b=>obtain⟨i,rfl⟩:=f;exact⟨EqAt.none_int _ _,RcAt.none_int _ _,RcNeAt.none_int _ _⟩|str b=>obtain⟨i,rfl⟩:=f;exact⟨EqAt.none_str _ _,RcAt.none_str _ _,RcNeAt.none_str _ _⟩|tup g i=>cases f;obtain⟨_,_,J,_⟩:=I.tuple g;exact⟨EqAt.none_tuple J c,RcAt.none_tuple J c,RcNeAt.none_tuple J c⟩|lst g i=>cases f;obtain⟨_,_,J,_⟩:=I.list g;have J:=J.isList;exact⟨EqAt.none_list J c,RcAt.none_list J c,RcNeAt.none_list J c⟩
 |bl a=>
  cases j;cases te with|non=>cases f;exact⟨EqAt.bool_none _,RcAt.bool_none _,RcNeAt.bool_none _⟩|bl b=>exact absurd h (by simp[GP,Dt.kd])|int b=>exact absurd h (by simp[GP,Dt.kd])|str b=>obtain⟨i,rfl⟩:=f;exact⟨EqAt.bool_str _ _ _,RcAt.bool_str _ _ _,RcNeAt.bool_str _ _ _⟩|tup g i=>cases f;obtain⟨_,_,J,_⟩:=I.tuple g;exact⟨EqAt.bool_tuple _ J c,RcAt.bool_tuple _ J c,RcNeAt.bool_tuple _ J c⟩|lst g i=>cases f;obtain⟨_,_,J,_⟩:=I.list g;have J:=J.isList;exact⟨EqAt.bool_list _ J c,RcAt.bool_list _ J c,RcNeAt.bool_list _ J c⟩
 |int a=>
  obtain⟨t,rfl⟩:=j;cases te with|non=>cases f;exact⟨EqAt.int_none _ _,RcAt.int_none _ _,RcNeAt.int_none _ _⟩|bl b=>exact absurd h (by simp[GP,Dt.kd])|int b=>exact absurd h (by simp[GP,Dt.kd])|str b=>obtain⟨i,rfl⟩:=f;exact⟨EqAt.int_str _ _ _ _,RcAt.int_str _ _ _ _,RcNeAt.int_str _ _ _ _⟩|tup g i=>cases f;obtain⟨_,_,J,_⟩:=I.tuple g;exact⟨EqAt.int_tuple _ _ J c,RcAt.int_tuple _ _ J c,RcNeAt.int_tuple _ _ J c⟩|lst g i=>cases f;obtain⟨_,_,J,_⟩:=I.list g;have J:=J.isList;exact⟨EqAt.int_list _ _ J c,RcAt.int_list _ _ J c,RcNeAt.int_list _ _ J c⟩
 |str a=>
  obtain⟨t,rfl⟩:=j;cases te with|non=>cases f;exact⟨EqAt.str_none _ _,RcAt.str_none _ _,RcNeAt.str_none _ _⟩|bl b=>cases f;exact⟨EqAt.str_bool _ _ _,RcAt.str_bool _ _ _,RcNeAt.str_bool _ _ _⟩|int b=>obtain⟨i,rfl⟩:=f;exact⟨EqAt.str_int _ _ _ _,RcAt.str_int _ _ _ _,RcNeAt.str_int _ _ _ _⟩|str b=>exact absurd h (by simp[GP,Dt.kd])|tup g i=>cases f;obtain⟨_,_,J,_⟩:=I.tuple g;exact⟨EqAt.str_tuple _ _ J c,RcAt.str_tuple _ _ J c,RcNeAt.str_tuple _ _ J c⟩|lst g i=>cases f;obtain⟨_,_,J,_⟩:=I.list g;have J:=J.isList;exact⟨EqAt.str_list _ _ J c,RcAt.str_list _ _ J c,RcNeAt.str_list _ _ J c⟩
 |tup h1 l=>
  cases j;obtain⟨_,_,p,_⟩:=I.tuple h1;cases te with|non=>cases f;exact⟨EqAt.tuple_none p c,RcAt.tuple_none p c,RcNeAt.tuple_none p c⟩|bl b=>cases f;exact⟨EqAt.tuple_bool _ p c,RcAt.tuple_bool _ p c,RcNeAt.tuple_bool _ p c⟩|int b=>obtain⟨i,rfl⟩:=f;exact⟨EqAt.tuple_int _ _ p c,RcAt.tuple_int _ _ p c,RcNeAt.tuple_int _ _ p c⟩|str b=>obtain⟨i,rfl⟩:=f;exact⟨EqAt.tuple_str _ _ p c,RcAt.tuple_str _ _ p c,RcNeAt.tuple_str _ _ p c⟩|tup g i=>exact absurd h (by simp[GP,Dt.kd])|lst g i=>cases f;obtain⟨_,_,J,_⟩:=I.list g;have J:=J.isList;exact⟨EqAt.tuple_list p J c,RcAt.tuple_list p J c,RcNeAt.tuple_list p J c⟩
 |lst h1 l=>
  cases j;obtain⟨_,_,p,_⟩:=I.list h1;have p:=p.isList;cases te with|non=>cases f;exact⟨EqAt.list_none p c,RcAt.list_none p c,RcNeAt.list_none p c⟩|bl b=>cases f;exact⟨EqAt.list_bool _ p c,RcAt.list_bool _ p c,RcNeAt.list_bool _ p c⟩|int b=>obtain⟨i,rfl⟩:=f;exact⟨EqAt.list_int _ _ p c,RcAt.list_int _ _ p c,RcNeAt.list_int _ _ p c⟩|str b=>obtain⟨i,rfl⟩:=f;exact⟨EqAt.list_str _ _ p c,RcAt.list_str _ _ p c,RcNeAt.list_str _ _ p c⟩|tup g i=>cases f;obtain⟨_,_,J,_⟩:=I.tuple g;exact⟨EqAt.list_tuple p J c,RcAt.list_tuple p J c,RcNeAt.list_tuple p J c⟩|lst g i=>exact absurd h (by simp[GP,Dt.kd])
def Uq(I:Inv X pins σ H s){x:Value}(k:Ao X.K H v d)(te:Ao X.K H u e)(b:RelV v x)(i:RelV u y)(h:RcAt A s x y (dec (d=e))):EqAt A s x y (dec (d=e)):=by
 by_cases g:x=y;subst g;have j:=b.inj i;subst j;rw[Fm (Ao.inj I k te)];exact EqAt.same _;intro f w E Q c;unfold eqBool;refine Fl ?_;refine wpAny_ite_split (λl=>absurd (eq_of_beq l) g) (λζ=>?_);cases k with|non=>cases b;exact Ae (h f w E _ (FN c))|bl a=>cases b;exact Ae (h f w E _ (FN c))|int a=>obtain⟨t,rfl⟩:=b;exact Ae (h f w E _ (FN c))|str a=>obtain⟨t,rfl⟩:=b;exact Ae (h f w E _ (FN c))|tup _ _=>cases b;exact Ae (h f w E _ (FN c))|lst _ _=>cases b;exact Ae (h f w E _ (FN c))
def NF(h:GP d.kd e.kd=true):¬d=e:=λz=>by subst z;simp[GP] at h
set_option tactic.hygienic true in
mutual
theorem RL (I:Inv X pins σ H s) {n:Nat} {d e:Dt} {v u:V} {x y:Value} {A:Around} (c:Dz n d e) (k:Ao X.K H v d) (te:Ao X.K H u e) (g:RelV v x) (i:RelV u y) (N:A.units+n<cLine):RcAt A s x y (dec (d=e))/\RcNeAt A s x y (!dec (d=e)):=by
 cases c with
 | non=>cases k;cases te;cases g;cases i;rw[Fm rfl];exact⟨RcAt.none_none,RcNeAt.none_none⟩
 | bl a b=>cases k;cases te;cases g;cases i;rw[<-RK (a:=a) (b:=b) (by simp)];exact⟨RcAt.bool_bool a b,RcNeAt.bool_bool a b⟩
 | int a b=>cases k;cases te;obtain⟨t,rfl⟩:=g;obtain⟨f,rfl⟩:=i;rw[<-RK (a:=a) (b:=b) (by simp)];exact⟨RcAt.int_int a t b f,RcNeAt.int_int a t b f⟩
 | str a b=>cases k;cases te;obtain⟨t,rfl⟩:=g;obtain⟨f,rfl⟩:=i;rw[<-RK (a:=a) (b:=b) (by simp)];exact⟨RcAt.str_str a t b f,RcNeAt.str_str a t b f⟩
 | @tup n ds es c=>
  cases k;cases te;rename_i a E h t b F C f;cases g;cases i;obtain⟨l,r,p,_⟩:=I.tuple h;obtain⟨m,o,R,_⟩:=I.tuple C;have G:=r.length;have J:=o.length;have K:=t.length;have L:=f.length;have w:=Uo (A:=A.in1) I r o t f (Li I c (by rw[Hd];lia))
  have e:dec (Dt.tup ds=Dt.tup es)=((List.range (min l.toArray.size m.toArray.size)).all (fun j=>dec (ds[j]?=es[j]?)) && l.toArray.size == m.toArray.size):=by
   rw[MF (p:=Dt.tup ds=Dt.tup es) (q:=ds=es) (by simp)];simp only[Cq];by_cases B:ds.length=es.length;rw[show(l.length == m.length)=true from beq_iff_eq.mpr (by lia),Bool.and_true,Up (by lia) B];rw[show(l.length == m.length)=false from beq_false_of_ne (by lia),Bool.and_false,FR fun z=>B (by rw[z])]
  rw[e];exact⟨RcAt.tuples (A:=A) p R (by lia) w,RcNeAt.tuples (A:=A) p R (by lia) w⟩
 | @lst n ds es c=>
  cases k;cases te;rename_i a E h t b F C f;cases g;cases i;obtain⟨l,r,p,_⟩:=I.list h;obtain⟨m,o,R,_⟩:=I.list C;have G:=r.length;have J:=o.length;have K:=t.length;have L:=f.length;by_cases B:ds.length=es.length;have w:=Uo (A:=A.in1) I r o t f (Li I c (by rw[Hd];lia));rw[MF (p:=Dt.lst ds=Dt.lst es) (q:=ds=es) (by simp),<-Up (n:=l.toArray.size) (by simp only[Cq];lia) B];exact⟨RcAt.lists (A:=A) p.isList R.isList (by simp only[Cq];lia) (by lia) w,RcNeAt.lists (A:=A) p.isList R.isList (by simp only[Cq];lia) (by lia) w⟩;rw[FR (show ¬Dt.lst ds=Dt.lst es from fun z=>B (by cases z;rfl))];have D:(l.toArray.size != m.toArray.size)=true:=by simp only[Cq];rw[bne_iff_ne];lia
  exact⟨RcAt.lists_lengths p.isList R.isList D (by lia),RcNeAt.lists_lengths p.isList R.isList D (by lia)⟩
 | apart h=>obtain⟨_,h1,M⟩:=Xq (A:=A) I h k te g i (by lia);rw[FR (NF h)];exact⟨h1,M⟩
theorem Li (I:Inv X pins σ H s) {n:Nat} {ds es:List Dt} {A:Around} (c:Bo n ds es) (f:A.units+n<cLine)
 (i:Nat) (d e:Dt) (v u:V) (x y:Value) (h:ds[i]?=some d) (h':es[i]?=some e) (a:RelV v x) (b:RelV u y) (k:Ao X.K H v d) (te:Ao X.K H u e):EqAt A s x y (dec (d=e)):=by
 cases c with
 | nil=>simp at h
 | nil'=>simp at h'
 | cons c t=>cases i with
   | zero=>simp at h h';subst h;subst h';have g:=RL (A:=A) I c k te a b f;exact Uq I k te a b g.1
   | succ i=>exact Li I t f i d e v u x y (by simpa using h) (by simpa using h') a b k te
end
def Ur(I:Inv X pins σ H s){x:Value}(c:Dz n d e)(k:Ao X.K H v d)(te:Ao X.K H u e)(a:RelV v x)(b:RelV u y)(f:A.units+n<cLine):EqAt A s x y (dec (d=e)):=
 Uq I k te a b (RL I c k te a b f).1
end
section
variable {X:Cx}
def RM (K:Aj):R2:=λx y H Q=>∃n d e,Dz n d e/\n<=60/\Ao K H x d/\Ao K H y e/\Q (.bl (dec (d=e))) H
def Lj(f:X.A.units+64<cLine):CW X (compareOp .Eq) (RM X.K):=by intro pins s σ H x y v u Q I a b h;obtain⟨n,d,e,c,g,k,te,q⟩:=h;exact(RL (A:=X.A) I c k te a b (by lia)).1 _ _ _ _ ⟨.bl _,H,I,rfl,q⟩
def RN (K:Aj):R2:=λx y H Q=>∃n d ds a vs,(∀e∈ds,Dz n e d)/\n<=60/\Ao K H x d/\y=.ref a/\Ai K H a vs/\Ak K H vs ds/\Q (.bl (dec (d∈ds))) H
def IR (K:Aj):R2:=λx y H Q=>∃n d ds a vs,(∀e∈ds,Dz n e d)/\n<=60/\Ao K H x d/\y=.ref a/\Ai K H a vs/\Ak K H vs ds/\Q (.bl (!dec (d∈ds))) H
def Us(I:Inv X pins σ H s){d:Dt}{vs:S'}{b:F'}{x:Value}(r:Aw vs b)(t:Ak X.K H vs ds)(C:∀e∈ds,Dz n e d)(k:Ao X.K H v d)(D:RelV v x)(E:A.units+n<cLine) :
 (∀y,y∈b.toArray->EqAt A s y x (dec (∃u,RelV u y/\Ao X.K H u d)))/\b.toArray.any (λy=>dec (∃u,RelV u y/\Ao X.K H u d))=dec (d∈ds):=by
 have L:=r.length;have lt:=t.length
 have one:∀y,y∈b->∃e∈ds,∃u,RelV u y/\Ao X.K H u e:=λy a=>by
  obtain⟨i,g,e⟩:=OJ.mp a;obtain⟨M,B,j⟩:=r.get (i:=i) (x:=vs[i]'(by lia)) (AM (by lia));obtain⟨F,c,te⟩:=t.get (i:=i) (v:=vs[i]'(by lia)) (AM (by lia));rw[AM g,e] at B;cases B;exact⟨F,Bq c,_,j,te⟩
 refine⟨λy a=>?_,?_⟩;obtain⟨e,c,u,f,te⟩:=one y (by simpa using a);have:=Ur (A:=A) I (C e c) te k f D E
 rw[MF (p:=∃u,RelV u y/\Ao X.K H u d) (q:=e=d) ⟨λ⟨G,m,o⟩=>by
  have l:=f.inj m;subst l;exact Ao.inj I te o,λz=>⟨u,f,by rw[<-z];exact te⟩⟩]
 exact this;by_cases h:d∈ds;rw[Fm h,Array.any_eq_true];obtain⟨i,g,e⟩:=OJ.mp h;obtain⟨u,K,te⟩:=t.get' (i:=i) (d:=d) (by rw[AM g,e]);obtain⟨y,a,j⟩:=r.get K;have w:i<b.length:=(Bi.mp a).1;refine⟨i,by simpa using w,?_⟩;have:b.toArray[i]'(by simpa using w)=y:=(by rw[AM w] at a;simpa using a);rw[this];exact Fm ⟨u,j,te⟩;rw[FR h,Bool.eq_false_iff];intro q;obtain⟨i,g,q⟩:=Array.any_eq_true.mp q;obtain⟨u,f,te⟩:=Fa.mp q;obtain⟨e,c,G,m,o⟩:=one (b.toArray[i]) (by simp);have l:=f.inj m;subst l;have J:=Ao.inj I te o;subst J;exact h c
def Ll(i:X.A.units+64<cLine):CW X (compareOp .In) (RN X.K):=by intro pins s σ H x y v u Q I b c h;obtain⟨n,d,ds,a,j,e,l,k,rfl,f,t,q⟩:=h;cases c;obtain⟨m,r,p,_⟩:=I.list f;obtain⟨h1,g⟩:=Us (A:=X.A.in1) I r t e k b (by rw[Hd];lia);exact in_listAt _ p.isList h1 (by rw[g];exact⟨.bl _,H,I,rfl,q⟩)
def Xr(i:X.A.units+64<cLine):CW X (compareOp .NotIn) (IR X.K):=by intro pins s σ H x y v u Q I b c h;obtain⟨n,d,ds,a,j,e,l,k,rfl,f,t,q⟩:=h;cases c;obtain⟨m,r,p,_⟩:=I.list f;obtain⟨h1,g⟩:=Us (A:=X.A.in1) I r t e k b (by rw[Hd];lia);exact notIn_listAt _ p.isList h1 (by rw[g];exact⟨.bl _,H,I,rfl,q⟩)
end
end L2
namespace Ord
variable {α:Type} [DecidableEq α]
def nodup_sub_length{l m:List α}(h:l.Nodup)(a:∀x∈l,x∈m):l.length<=m.length:=by
 induction l generalizing m with
 |nil=>simp
 |cons x r f=>
  have b:=a x (by simp);have c:=(Fh.mp h)
  have:r.length<=(m.erase x).length:=f c.2 (λy d=>by
   have g:=a y (by simp[d]);have ne:y≠x:=λe=>c.1 (e▸d);exact(List.mem_erase_of_ne ne).mpr g)
  rw[List.length_erase_of_mem b] at this;have i:0<m.length:=List.length_pos_of_mem b;simp;lia
end Ord
namespace War
end War
namespace Ord
variable {α:Type} [DecidableEq α]
end Ord
namespace L2
open PySem PySem.Spec PyProof.Rows Ord
abbrev Ut (p:Str×Str):Dt:=.tup [.str p.1,.str p.2]
def Fn:([]:S').length+1<=sizeLine:=by decide
def AR:([]:S').length+1+1<=sizeLine:=by decide
theorem Ak.of_get{K:Aj}{H:Hp}:∀{vs:S'}{a:List Dt},vs.length=a.length->(∀(n:Nat)v d,vs[n]?=some v->a[n]?=some d->Ao K H v d)->Ak K H vs a
 |[],[],_,_=>.nil
 |v::vs,d::a,b,h=>.cons (h 0 v d rfl rfl) (Ak.of_get (by simpa using b) λn x y c e=>h (n+1) x y (by simpa using c) (by simpa using e))
structure DA (H:Hp) (ts:G') (ps:A'):Prop where
 len:ts.length=ps.length
 at_:∀(n:Nat)t p,ts[n]?=some t->ps[n]?=some p->H t=some (.tup [.str p.1,.str p.2])
variable {H:Hp}
def DA.nil:DA H [] []:=⟨rfl,λn t p h=>by simp at h⟩
variable {ts:G'}{ps:A'}
def DA.same{H':Hp}(e:Ad H H')(h:DA H ts ps):DA H' ts ps:=⟨h.len,λn t p a b=>e _ _ (h.at_ n t p a b)⟩
def DA.dts{K:Aj}(h:DA H ts ps):Ak K H (ts.map V.ref) (ps.map Ut):=by refine Ak.of_get (by simpa using h.len) λn v d a b=>?_;rw[Bf] at a b;obtain⟨t,c,rfl⟩:=E5.mp a;obtain⟨p,e,rfl⟩:=E5.mp b;exact .tup (Aq.of (h.at_ n t p c e)) (.cons (.str _) (.cons (.str _) .nil))
def DA.snoc{t:Addr}{p:Str×Str}(h:DA H ts ps)(e:H t=some (.tup [.str p.1,.str p.2])):DA H (ts++[t]) (ps++[p]):=by
 refine⟨by rw[AY,AY,h.len];rfl,λn d R a b=>?_⟩;by_cases c:n<ts.length;rw[Ez c] at a;rw[Ez (by rw[<-h.len];exact c)] at b;exact h.at_ n d R a b;have f:n=ts.length:=(by have:=(Bi.mp a).1;rw[AY,FM] at this;lia);subst f;rw[Ep (AK _)] at a;rw[Ep (by rw[h.len];exact AK _)] at b;simp at a;simp[h.len] at b;subst a;subst b;exact e
variable {a:Addr}
def MG{K:Aj}{xs:S'}{k:Nat}{e:P'}{g:TG}{te:TE}{σ:St}{U:Hp}{Q:Addr->Hp->Prop}(Pv:Addr->Nat->S'->Hp->Prop)
 (f:∀D,U D=none->Pv D 0 [] (upd U D (.lst []))) (b:∀D i ys Z,Pv D i ys Z->Ai K Z a xs)
 (h:∀D i x ys Z(R:VK),U D=none->xs[i]?=some x->Pv D i ys Z->(∀y c,c D=some (.lst ys)->ys.length<sizeLine->Pv D (i+1) (ys++[y]) (upd c D (.lst (ys++[y])))->R y c)->g x (FQ k e σ) Z λσ4 j=>te σ4 j R)
 (hd:∀D ys Z,U D=none->Pv D xs.length ys Z->Q D Z):Lh (Mr K a) k e g IM te σ U Q:=O7 xs.length Pv f (λD i ys Z p d=>⟨xs,xs[i],b D i ys Z p,by simp[d]⟩) (λD ys Z p=>⟨xs,b D _ ys Z p,AK _⟩) (λD i ys Z x m R n l d p y k o=>by obtain⟨rfl,y⟩:=y;exact h D i x ys _ R l (y xs (b D i ys _ p)) p k) hd
def AE.ex{P:Program}{w:World}{h:Heap}{o:HO}(x:AE P w H h a o):∃u,h.get? a=some u:=by
 cases o with|lst b=>obtain⟨_,_,_,_,e⟩:=x;exact⟨_,e⟩|tup b=>obtain⟨_,_,_,u,e,_⟩:=x;exact⟨u,e⟩|dK c=>obtain⟨_,_,_,_,u,_,_,e,_⟩:=x;exact⟨u,e⟩|dT c=>obtain⟨_,_,_,_,u,_,_,e,_⟩:=x;exact⟨u,e⟩|set S n=>obtain⟨u,_,_,_,e,_⟩:=x;exact⟨u,e⟩|ins C d fs=>obtain⟨_,_,_,e,_⟩:=x;exact⟨_,e⟩|own y=>exact x|xd fs=>obtain⟨_,⟨u,_,_,e,_⟩,_⟩:=x;exact⟨u,e⟩|rng lo g=>obtain⟨_,_,_,e⟩:=x;exact⟨_,e⟩|frz i u=>obtain⟨e,_⟩:=x;exact⟨_,e⟩|tbl ps=>exact⟨_,(show h.get? a=some _ from x)⟩|met f y=>exact⟨_,(show h.get? a=some _ from x)⟩|ext φ=>exact x.2.1
def Inv.freshN{X:Cx}{pins:B'}{σ:L2.St}{s:Shared}(I:Inv X pins σ H s)(d:∀b u,s.heap.get? b=some u->b≠a):H a=none:=by
 cases e:H a with|none=>rfl|some o=>obtain⟨u,c⟩:=(I.hok a o e).ex;exact absurd rfl (d a u c)
def Inv.laidN{X:Cx}{pins:B'}{σ:L2.St}{s:Shared}{h':Heap}{o:HO}{t':Nat}(I:Inv X pins σ H s)(k:∀b u,s.heap.get? b=some u->h'.get? b=some u)(h:∀b u,s.heap.get? b=some u->b≠a)(i:AE X.prog X.w (upd H a o) h' a o) :
 Inv X pins σ (upd H a o) {s with heap:=h',toks:=t'}:=by
 have d:=I.freshN h;refine I.un ⟨λb u q ζ ζ ζ=>k b u q,λb u q ζ ζ ζ=>⟨u.slots,k b u q⟩,λb u q n ζ=>by rw[AI (h b u q)];exact n,λb u q ζ=>⟨u,k b u q⟩,λb f q=>by rw[AI (Be q d)];exact q,λb u f q=>by rw[AI (Be q d)];exact q,λb ps q=>⟨#[],by rw[AI (Be q d),q];simp⟩⟩ λb u e=>?_;by_cases g:b=a;subst g;rw[Ab] at e;cases e;exact i;rw[AI g] at e;exact(I.hok b u e).stay (λc v ζ q=>k c v q) (λc q=>by rw[AI (Be q d)];exact q) λc f q=>by rw[AI (Be q d)];exact q
section
variable {prog:Program} {w:World} {A:Around} {E:D'} {s:Shared}
end
section
variable {X:Cx}
end
end L2
namespace HT
open PySem PyProof.Rows
section
open PySem.SeqAt
open PySem.AutoSeq1 (wpAny_loadPart')
open PySem.MeetsSeq PySem.MeetsSeq2 PySem.MeetsSeq3
end
section
variable {prog:Program} {w:World} {A:Around} {E:D'} {s:Shared}
end
end HT
namespace L2
open PySem PySem.Spec PyProof.Rows
section
variable {X:Cx}
end
end L2
namespace L2
end L2
namespace KasM
open PySem PySem.W PyProof.Rows
set_option autoImplicit false
def Tw {α:Type} (lt:Nat->Nat->Bool) (n:Nat):KasT α->(α->Prop)->Prop
 |.ret a,Q=>Q a
 |.ask i j k,Q=>i<n/\j<n/\Tw lt n (k (lt i j)) Q
theorem MH{α β:Type}{lt:Nat->Nat->Bool}{n:Nat}{f:α->KasT β}{Q:β->Prop}:∀(t:KasT α),Tw lt n t (λa=>Tw lt n (f a) Q)->Tw lt n (t.bind f) Q
 |.ret _,h=>h
 |.ask _ _ k,⟨b,c,d⟩=>⟨b,c,MH (k _) d⟩
theorem Tw_mono{α:Type}{lt:Nat->Nat->Bool}{n:Nat}{Q b:α->Prop}(c:∀a,Q a->b a):∀(t:KasT α),Tw lt n t Q->Tw lt n t b
 |.ret a,h=>c a h
 |.ask _ _ k,⟨d,e,f⟩=>⟨d,e,Tw_mono c (k _) f⟩
theorem Tw_wp{α:Type}{lt:Nat->Nat->Bool}{n:Nat}{c:Nat->Nat->(Bool->Shared->Prop)->Shared->Prop}{s:Shared}{Q:α->Shared->Prop}(b:∀i j C,i<n->j<n->C (lt i j) s->c i j C s) :
 ∀(t:KasT α),Tw lt n t (λa=>Q a s)->t.kasWp c Q s
 |.ret _,h=>h
 |.ask _ _ k,⟨d,e,f⟩=>b _ _ _ d e (Tw_wp b (k _) f)
section
variable {O:KeyOrd} {key:Nat->O.α} {n:Nat}
def K (key:Nat->O.α) (p:R') (i:Nat):O.α:=key (p.getD i 0)
def Asc (key:Nat->O.α) (p:R') (k:Nat):Prop:=∀i,i+1<k->O.kle (K key p i) (K key p (i+1))
def NG (key:Nat->O.α) (p:R') (k:Nat):Prop:=∀i,i+1<k->O.kle (K key p (i+1)) (K key p i)
def Pm (n:Nat) (p:R'):Prop:=p.Perm (List.range n).toArray
def Pm.size{p:R'}(h:Pm n p):p.size=n:=by have:=h.size_eq;simpa using this
variable {p:R'}
def Pm.lt(h:Pm n p)(b:0<n)(i:Nat):p.getD i 0<n:=by by_cases a:i<p.size;have e:p.getD i 0=p[i]:=(by simp[Array.getD,a]);rw[e];have:p[i]∈p:=Array.getElem_mem a;have c:=h.mem_iff.mp this;simpa using c;have e:p.getD i 0=0:=(by simp[Array.getD,a]);rw[e];exact b
variable {i j:Nat}
def Xs(a:j<=p.size)(k:Nat):(kas_rev p i j).getD k 0=if i<=k/\k<j then p.getD (i+j-1-k) 0 else p.getD k 0:=by unfold kas_rev;simp only[n5];rw[getElem?_mirror_all a];split<;>rfl
def Xu{k l:Nat}(a:k<p.size)(b:l<=k)(t:Nat):(bubble p k (k-l)).getD t 0=if t=l then p.getD k 0 else if l<t/\t<=k then p.getD (t-1) 0 else p.getD t 0:=by simp only[n5];rw[getElem?_bubble a _ (by lia)];rw[show k-(k-l)=l by lia];split;rfl;split<;>rfl
def Pm.rev(h:Pm n p)(i j:Nat):Pm n (kas_rev p i j):=(mirror_perm _ _ _ _).trans h
def Pm.bub(h:Pm n p)(i j:Nat):Pm n (bubble p i j):=(bubble_perm _ _ _).trans h
def Uu(a:j<=p.size)(k:Nat):K key (kas_rev p i j) k=if i<=k/\k<j then K key p (i+j-1-k) else K key p k:=by unfold K;rw[Xs a];split<;>rfl
def RO(b:j<=p.size)(a:∀k,i<=k->k<j->K key p k=K key p (j-1))(k:Nat):K key (kas_rev p i j) k=K key p k:=by rw[Uu b];split;rw[a _ (by lia) (by lia),a k (by lia) (by lia)];rfl
def Xv{k l:Nat}(a:k<p.size)(b:l<=k)(t:Nat):K key (bubble p k (k-l)) t=if t=l then K key p k else if l<t/\t<=k then K key p (t-1) else K key p t:=by unfold K;rw[Xu a b];split;rfl;split<;>rfl
theorem Asc.le{p:R'}{k:Nat}(h:Asc key p k){i:Nat}:∀(d:Nat),i+d<k->O.kle (K key p i) (K key p (i+d))
 |0,_=>KeyOrd.kle_refl _
 |d+1,hd=>KeyOrd.kle_trans (h.le d (by lia)) (h (i+d) (by lia))
def Asc.le'{k:Nat}(h:Asc key p k)(b:i<=j)(a:j<k):O.kle (K key p i) (K key p j):=by
 have:=h.le (i:=i) (j-i) (by lia)
 rwa [show i+(j-i)=j by lia] at this
abbrev lt (O:KeyOrd) (key:Nat->O.α) (i j:Nat):Bool:=O.blt (key i) (key j)
theorem RP{p:R'}(b:Pm n p)(c:0<n):∀(f a:Nat),1<=a->Tw (lt O key) n (kas_asc p f a) λm=>a<=m/\m<=a+f/\(∀i,a-1<=i->i+1<m->O.kle (K key p i) (K key p (i+1)))/\(m<a+f->O.klt (K key p m) (K key p (m-1)))
 |0,a,_=>⟨AK _,AK _,λi d g=>by lia,λh=>by lia⟩
 | f + 1,a,q=>by
   refine⟨b.lt c _,b.lt c _,?_⟩;cases j:lt O key (p.getD a 0) (p.getD (a-1) 0) with|true=>simp only[if_true];exact⟨AK _,by lia,λi d g=>by lia,λζ=>j⟩|false=>simp only[Fk,if_false];refine Tw_mono ?_ _ (RP b c f (a+1) (by lia));rintro m ⟨d,g,k,l⟩;refine⟨by lia,by lia,λi r o=>?_,λh=>l (by lia)⟩;by_cases e:i=a-1;subst e;rw[show a-1+1=a by lia];exact j;exact k i (by lia) o
theorem O9(c:0<n):∀(f:Nat)(p:R')(a q:Nat),Pm n p->a+f<=n->NG key p a->q+1<=a->(∀k,a-(q+1)<=k->k<a->K key p k=K key p (a-1)) ->
 Tw (lt O key) n (kas_desc f p a q) λr=>Pm n r.1/\a<=r.2.1/\r.2.1<=a+f/\NG key r.1 r.2.1/\r.2.2+1<=r.2.1/\(∀k,r.2.1-(r.2.2+1)<=k->k<r.2.1->K key r.1 k=K key r.1 (r.2.1-1))
 |0,p,a,q,b,_,hd,o,d=>⟨b,AK _,AK _,hd,o,d⟩
 | f + 1,p,a,q,b,E,hd,o,d=>by
   have hz:=b.size;refine⟨b.lt c _,b.lt c _,?_⟩
   cases u:lt O key (p.getD a 0) (p.getD (a-1) 0) with
   |true=>
    have t:O.klt (K key p a) (K key p (a-1)):=u
    have z:NG key p (a+1):=λi s=>by
     by_cases e:i+1=a;rw[e];have:i=a-1:=by lia
     rw[this];exact KeyOrd.kle_of_klt t;exact hd i (by lia)
    simp only[if_true];by_cases A:q > 0;rw[Ap A];have Y:=RO (key:=key) (p:=p) (i:=a-(q+1)) (j:=a) (by lia) d;refine Tw_mono ?_ _ (O9 c f _ (a+1) 0 (b.rev _ _) (by lia) (λi s=>by rw[Y,Y];exact z i s) (by lia) (λk v w=>by rw[show k=a+1-1 by lia]));rintro r ⟨g,x,y,h,l,m⟩;exact⟨g,by lia,by lia,h,l,m⟩;rw[Ag A];refine Tw_mono ?_ _ (O9 c f _ (a+1) 0 b (by lia) z (by lia) (λk v w=>by rw[show k=a+1-1 by lia]));rintro r ⟨g,x,y,h,l,m⟩;exact⟨g,by lia,by lia,h,l,m⟩
   |false=>
    have t:O.kle (K key p (a-1)) (K key p a):=u;simp only[Fk,if_false];refine⟨b.lt c _,b.lt c _,?_⟩
    cases D:lt O key (p.getD (a-1) 0) (p.getD a 0) with
    |true=>simp only[if_true];exact⟨b,AK _,Nat.le_add_right _ _,hd,o,d⟩
    |false=>
     have B:O.kle (K key p a) (K key p (a-1)):=D;have C:K key p a=K key p (a-1):=KeyOrd.kle_antisymm B t;simp only[Fk,if_false];refine Tw_mono ?_ _ (O9 c f _ (a+1) (q+1) b (by lia) (λi s=>?_) (by lia) (λk v w=>?_));rintro r ⟨g,x,y,h,l,m⟩;exact⟨g,by lia,by lia,h,l,m⟩;by_cases e:i+1=a;rw[e];have:i=a-1:=by lia
     rw[this];exact B;exact hd i (by lia);rw[show a+1-1=a by lia];by_cases e:k=a;rw[e];rw[d k (by lia) (by lia),C]
abbrev RQ (key:Nat->O.α) (n:Nat) (r:Nat×Array Nat):Prop:=Pm n r.2/\1<=r.1/\r.1<=n/\Asc key r.2 r.1
def Uv(c:0<n){a:Nat}(b:Pm n p)(d:1<=a)(k:a<=n)(hd:NG key p a):Tw (lt O key) n (kas_tail3 a n p) (RQ key n):=by
 unfold kas_tail3;have l:=b.size;have Y:=Uu (key:=key) (p:=p) (i:=0) (j:=a) (by lia);refine MH _ (Tw_mono ?_ _ (RP (O:=O) (key:=key) (b.rev 0 a) c (n-a) a d));rintro m ⟨o,q,f,_⟩;refine⟨b.rev _ _,by show 1<=m;lia,by show m<=n;lia,λi g=>?_⟩;have h:i+1<m:=g;by_cases e:a-1<=i;exact f i e h;show O.kle (K key (kas_rev p 0 a) i) (K key (kas_rev p 0 a) (i+1));rw[Y,Y,Ap (by lia),Ap (by lia)];have:=hd (0+a-1-(i+1)) (by lia)
 rwa [show 0+a-1-(i+1)+1=0+a-1-i by lia] at this
def Uw(c:0<n){a:Nat}(f:Pm n p)(g:1<=a)(s:a+1<=n)(hd:NG key p (a+1)):Tw (lt O key) n (kas_descPart a n p) (RQ key n):=by
 unfold kas_descPart;refine MH _ (Tw_mono ?_ _ (O9 (O:=O) (key:=key) c (n-(a+1)) p (a+1) 0 f (by lia) hd (by lia) (λk g t=>by rw[show k=a+1-1 by lia])));rintro⟨R,m,q⟩ ⟨b,h,l,d,o,e⟩;dsimp only at b h l d o e ⊢;have u:=b.size;split;have Y:=RO (key:=key) (p:=R) (i:=m-(q+1)) (j:=m) (by lia) e;exact Uv c (b.rev _ _) (by lia) (by lia) λi r=>by rw[Y,Y];exact d i r
 exact Uv c b (by lia) (by lia) d
def Xw(b:0<n)(a:Pm n p):Tw (lt O key) n (kas_count n p) (RQ key n):=by
 unfold kas_count;have w:=a.size;refine MH _ (Tw_mono ?_ _ (RP (O:=O) (key:=key) a b (n-1) 1 (AK _)));rintro m ⟨c,x,r,s⟩;have d:Asc key p m:=λi f=>r i (by lia) f;by_cases g:(m==n)=true;rw[Ap g];exact⟨a,c,by show m<=n;lia,d⟩;rw[Ag g];have y:m<n:=(by have:m≠n:=λq=>g (by rw[q];exact beq_self_eq_true _);lia);have l:=s (by lia);by_cases o:m > 1;rw[Ap o];refine⟨a.lt b _,a.lt b _,?_⟩
 cases t:lt O key (p.getD 0 0) (p.getD (m-1) 0) with
 |true=>simp only[if_true];exact⟨a,c,by show m<=n;lia,d⟩
 |false=>
  have v:O.kle (K key p (m-1)) (K key p 0):=t;simp only[Fk,if_false]
  have h:∀k,0<=k->k<m->K key p k=K key p (m-1):=λk ζ u =>
   KeyOrd.kle_antisymm (d.le' (by lia) (by lia)) (KeyOrd.kle_trans v (d.le' (by lia) u))
  have Y:=RO (key:=key) (p:=p) (i:=0) (j:=m) (by lia) h;refine Uw b (a.rev _ _) c (by lia) λi f=>?_;rw[Y,Y];by_cases e:i+1=m;rw[e,show i=m-1 by lia];exact KeyOrd.kle_of_klt l;rw[h i (by lia) (by lia),h (i+1) (by lia) (by lia)];exact KeyOrd.kle_refl _
 rw[Ag o];refine Uw b a c (by lia) λi f=>?_;have:m=1:=(by lia);subst this;obtain rfl:i=0:=by lia
 exact KeyOrd.kle_of_klt l
theorem RS(c:0<n){p:R'}{k:Nat}(d:Pm n p)(g:Asc key p k):∀(f l r:Nat),r-l<=f->l<=r->r<=k->(∀i,i<l->O.kle (K key p i) (K key p k))->(∀i,r<=i->i<k->O.klt (K key p k) (K key p i)) ->
 Tw (lt O key) n (kas_place p k f l r) λm=>m<=k/\(∀i,i<m->O.kle (K key p i) (K key p k))/\(∀i,m<=i->i<k->O.klt (K key p k) (K key p i))
 |0,l,r,t,u,q,h,j=>⟨by lia,h,λi a b=>j i (by lia) b⟩
 | f + 1,l,r,t,u,q,h,j=>by
   unfold kas_place;by_cases e:l ≥ r;rw[Ap e];exact⟨by lia,h,λi a b=>j i (by lia) b⟩;rw[Ag e];refine⟨d.lt c _,d.lt c _,?_⟩;cases s:lt O key (p.getD k 0) (p.getD ((l+r)/2) 0) with|true=>have o:O.klt (K key p k) (K key p ((l+r)/2)):=s;simp only[if_true];exact RS c d g f l ((l+r)/2) (by lia) (by lia) (by lia) h λi a b=>KeyOrd.klt_of_klt_of_kle o (g.le' a b)|false=>have o:O.kle (K key p ((l+r)/2)) (K key p k):=s;simp only[Fk,if_false];exact RS c d g f ((l+r)/2+1) r (by lia) (by lia) q (λi a=>KeyOrd.kle_trans (g.le' (by lia) (by lia)) o) j
theorem He (h0:0<n):∀ (f:Nat) (p:R') (k:Nat),Pm n p->k+f=n->Asc key p k->Tw (lt O key) n (kas_bin f p k) fun R=>Pm n R/\Asc key R n
 | 0, p, k, hp, hk, ha => ⟨hp, by have : k = n := by lia
                                  rw[<-this];exact ha⟩
 |f+1,p,k,hp,hk,ha=>by
   have hz:=hp.size;unfold kas_bin;refine MH _ (Tw_mono ?_ _ (RS (O:=O) (key:=key) h0 hp ha k 0 k (by lia) (by lia) (AK _) (λi h=>by lia) λi a b=>by lia));rintro l ⟨b1,b2,b3⟩;have Y:=Xv (key:=key) (p:=p) (k:=k) (l:=l) (by lia) b1;refine He h0 f _ (k+1) (hp.bub _ _) (by lia) λi hi=>?_;rw[Y,Y];by_cases e1:i=l;rw[Ap e1,Ag (by lia)];by_cases e2:i+1<=k;rw[Ap (by lia)];exact KeyOrd.kle_of_klt (b3 (i+1-1) (by lia) (by lia));lia;rw[Ag e1];by_cases e2:i+1=l;rw[Ap e2,Ag (by lia)];exact b2 i (by lia);rw[Ag e2];by_cases e3:l<i;rw[Ap (by lia),Ap (by lia)];have:=ha (i-1) (by lia)
   rwa [show i-1+1=i+1-1 by lia] at this
   rw[Ag (by lia),Ag (by lia)];exact ha i (by lia)
def sort_ok(h0:0<n):Tw (lt O key) n (kas_sort n) λp=>Pm n p/\Asc key p n:=by
 unfold kas_sort;refine MH _ (Tw_mono ?_ _ (Xw (O:=O) (key:=key) h0 (Array.Perm.refl _)));rintro⟨m,p⟩ ⟨b1,b2,b3,b4⟩;dsimp only at b1 b2 b3 b4 ⊢;split;rw[show max m 1=m by lia];exact He h0 _ _ _ b1 (by lia) b4
 exact ⟨b1, by have : m = n := by lia
               rw[<-this];exact b4⟩
end
end KasM
namespace L2
open PySem PySem.Spec PyProof.Rows
section
variable {prog:Program} {w:World} {A:Around} {E:D'} {s:Shared}
def Xx{O:KeyOrd}{key:Nat->O.α}{κ:SortKind}{a:Addr}{vs:F'}{n:Nat}{P:PySem.Fin->Shared->Prop}(g:s.heap.get? a=some (seqObj "list" vs.toArray n))(L:vs.length<64)
 (U:2<=vs.length->∀(h':Heap),(∀b o,b≠a->s.heap.get? b=some o->h'.get? b=some o)->∀(Q:SortKind->Shared->Prop),Q κ {s with heap:=h'}->wpAny (model prog w) A (keyKind' vs.toArray) Q (λζ ζ=>False) {s with heap:=h'})
 (N:∀(h':Heap),(∀b o,b≠a->s.heap.get? b=some o->h'.get? b=some o)->∀(i j:Nat)(C:Bool->Shared->Prop),i<vs.length->j<vs.length->C (O.blt (key i) (key j)) {s with heap:=h'}->PySem.W.kas_ask prog w A κ vs i j C {s with heap:=h'})
 (h:∀f:P',f.Perm (List.range vs.length)->(∀i,i+1<f.length->O.kle (key (f.getD i 0)) (key (f.getD (i+1) 0)))->P (.done (.ret .none)) {s with heap:=sortedHeap s.heap a vs (f.map λi=>vs.getD i Value.none).toArray}) :
 wpAny (model prog w) A (Builtin.«list.sort» ⟨[.ref a],[]⟩) P E s:=by
 rw[list_sort_plain];have y:a<s.heap.objs.size:=Bg g;have W:vs.toArray.size=vs.length:=(by simp);refine Ae (listItems_at g rfl ?_);refine Ae (listUpdate_at g rfl ?_ (by rw[Cq,sizeLine_eq];lia) (Dp _));obtain⟨t,B⟩:∃t,(s.heap.update a (Obj.mapSeq λζ=>#[])).get? a=some (seqObj "list" #[] t):=⟨_,get?_update_seq g (λζ=>#[])⟩;refine Ae (seqEpoch_at B rfl ?_);refine Ae (wpAny_newTuple ?_ (by show vs.length<=_;rw[sizeLine_eq];lia));refine Ae (wpAny_newList ?_ (Dp _));refine Fl ?_;have m:(((s.heap.update a (Obj.mapSeq λζ=>#[])).push (seqObj "tuple" vs.toArray 0)).push (seqObj "list" #[] 0)).get? a=some (seqObj "list" #[] t):=(by rw[Heap.get?_push_ne _ _ _ (by rw[size_push',Heap.size_update];exact Ch (Nat.lt_succ_of_lt y)),Heap.get?_push_ne _ _ _ (by rw[Heap.size_update];exact Ch y)];exact B)
 have keep:∀b o,b≠a->s.heap.get? b=some o->(((s.heap.update a (Obj.mapSeq λζ=>#[])).push (seqObj "tuple" vs.toArray 0)).push (seqObj "list" #[] 0)).get? b=some o:=λb o F q=>by
  refine Ba _ (Ba _ ?_);rw[Heap.get?_update_ne _ _ _ _ F];exact q
 show wpAny (model prog w) A _ P E {s with heap:=((s.heap.update a (Obj.mapSeq λζ=>#[])).push (seqObj "tuple" vs.toArray 0)).push (seqObj "list" #[] 0)};dsimp only;by_cases l:vs.toArray.size<2;rw[Ap l,Ap l];refine Ae (Ay ?_);rw[StateT.run_pure];refine Ae (Ay ?_);dsimp only;refine Ae (seqEpoch_at m rfl ?_);refine Ae (listUpdate_at m rfl ?_ (Dp _) (by rw[Array.size_map];show(pairsOf vs).size<=_;rw[pairsOf_size,sizeLine_eq];lia));simp only[bne_self_eq_false,Fk,if_false];have:=h (List.range vs.length) (List.Perm.refl _) (λi u=>by rw[m5] at u;lia);have e:((List.range vs.length).map λi=>vs.getD i Value.none).toArray=(arrOf (SortSt.mk' general' (vs.toArray.zip vs.toArray) #[] 7 none)).map (·.2):=(by apply Array.toList_inj.mp;show(List.range vs.length).map (λi=>vs.getD i Value.none)=((vs.toArray.zip vs.toArray).map (·.2)).toList;apply n9;intro k;by_cases z:k<vs.length;simp[z,Dv];simp[z]);rw[e] at this;exact Ay this;rw[Ag l,Ag l];have D:2<=vs.length:=(by lia);refine Ae (Fw (U D _ keep (λκ' c=>κ'=κ/\c=_) ⟨rfl,rfl⟩) ?_ λζ ζ x=>x.elim);rintro κ' c ⟨rfl,rfl⟩
 refine Ae (Fw (PySem.W.kat_run (Q:=λr c=>∃p:R',arrOf r=p.map (PySem.W.kas_item (vs.toArray.zip vs.toArray))/\failedOf r=none/\KasM.Pm vs.length p/\KasM.Asc key p vs.length/\c={s with heap:=((s.heap.update a (Obj.mapSeq λζ=>#[])).push (seqObj "tuple" vs.toArray 0)).push (seqObj "list" #[] 0)})
  (G:=λp c=>KasM.Pm vs.length p/\KasM.Asc key p vs.length/\c={s with heap:=((s.heap.update a (Obj.mapSeq λζ=>#[])).push (seqObj "tuple" vs.toArray 0)).push (seqObj "list" #[] 0)})
  rfl D L (λR r c V H I v=>⟨R,H,I,v.1,v.2.1,v.2.2⟩)
  (KasM.Tw_wp (lt:=KasM.lt O key) (n:=vs.length) (N _ keep) _ (KasM.Tw_mono (λp d=>⟨d.1,d.2,rfl⟩) _ (KasM.sort_ok (O:=O) (key:=key) (by lia))))) ?_ λζ ζ e=>e)
 rintro⟨⟨⟩,r⟩ c ⟨p,M,J,d,S,rfl⟩;dsimp only;have T:=PySem.W.kat_snds (ks:=vs) (vs:=vs) rfl M;rw[T];refine Ae (seqEpoch_at m rfl ?_);refine Ae (listUpdate_at m rfl ?_ (Dp _) (by rw[Cq,An,Array.length_toList,d.size,sizeLine_eq];lia));rw[J];simp only[bne_self_eq_false,Fk,if_false];refine Ay (h p.toList (by have:=Array.perm_iff_toList_perm.mp d;simpa using this) λi u=>?_);have K:=d.size;have:=S i (by simpa [K] using u);simpa [KasM.K,n5,Dv] using this
def Xy{O:KeyOrd}{key:Nat->O.α}{κ:SortKind}{l:Addr}{vs:F'}{Q:D'}(g:s.heap.IsList l vs.toArray)(v:vs.length<64)
 (y:2<=vs.length->∀(h':Heap),(∀b o,s.heap.get? b=some o->h'.get? b=some o)->∀(Q:SortKind->Shared->Prop),Q κ {s with heap:=h'}->wpAny (model prog w) A.in1.in1 (keyKind' vs.toArray) Q (λζ ζ=>False) {s with heap:=h'})
 (x:∀(h':Heap),(∀b o,s.heap.get? b=some o->h'.get? b=some o)->∀(i j:Nat)(C:Bool->Shared->Prop),i<vs.length->j<vs.length->C (O.blt (key i) (key j)) {s with heap:=h'}->PySem.W.kas_ask prog w A.in1.in1 κ vs i j C {s with heap:=h'})
 (h:∀(D:Addr)(h':Heap)(n:Nat)(a:P'),(∀b o,s.heap.get? b=some o->h'.get? b=some o)->(∀b o,s.heap.get? b=some o->b≠D)->a.Perm (List.range vs.length)->(∀i,i+1<a.length->O.kle (key (a.getD i 0)) (key (a.getD (i+1) 0))) ->
  h'.get? D=some (seqObj "list" (a.map λi=>vs.getD i Value.none).toArray n)->Q (.ref D) {s with heap:=h'}) :
 wpAny (model prog w) A (call (.builtin "sorted") [.ref l]) Q E s:=by
 refine Calls.call_function_entry kind_sorted plain_sorted entry_sorted (args_sorted1 _) ?_;unfold Builtin.«sorted»;refine Ae (m:=checkCount "sorted" 1 1 _) (Ay ?_);refine Ae (collect_list g ?_ (by rw[sizeLine_eq];lia));refine Ae (wpAny_newList ?_ (by rw[sizeLine_eq];lia));have d:((s.heap.push (seqObj "list" #[] 0)).update s.heap.objs.size (Obj.mapSeq (·++vs.toArray))).objs.size=s.heap.objs.size+1:=(by rw[Heap.size_update,size_push']);have e:(((s.heap.push (seqObj "list" #[] 0)).update s.heap.objs.size (Obj.mapSeq (·++vs.toArray))).push (seqObj "list" vs.toArray 0)).get? (s.heap.objs.size+1)=some (seqObj "list" vs.toArray 0):=(by rw[<-d];exact Cb _ rfl)
 have keep:∀b o,s.heap.get? b=some o->(((s.heap.push (seqObj "list" #[] 0)).update s.heap.objs.size (Obj.mapSeq (·++vs.toArray))).push (seqObj "list" vs.toArray 0)).get? b=some o:=λb o q=>by
  have f:b<s.heap.objs.size:=Bg q;rw[Heap.get?_push_ne _ _ _ (by rw[d];exact Ch (Nat.lt_succ_of_lt f)),Heap.get?_update_ne _ _ _ _ (Ch f),Heap.get?_push_ne _ _ _ (Ch f)];exact q
 have c:∀b o,s.heap.get? b=some o->b≠s.heap.objs.size+1:=λb o q=>Ch (Nat.lt_succ_of_lt (Bg q));show wpAny _ _ _ _ _ {s with heap:=((s.heap.push (seqObj "list" #[] 0)).update s.heap.objs.size (Obj.mapSeq (·++vs.toArray))).push (seqObj "list" vs.toArray 0)};rw[d];refine Ae (Fl (wpAny_call_entry slot_list_sort ⟨_,e,rfl⟩ entry_list_sort ?body (args_list_sort _)))
 case body =>
  refine Xx (s:={s with heap:=((s.heap.push (seqObj "list" #[] 0)).update s.heap.objs.size (Obj.mapSeq (·++vs.toArray))).push (seqObj "list" vs.toArray 0)}) (key:=key) (κ:=κ) e v
   (λp h' k=>y p h' λb o q=>k b o (c b o q) (keep b o q)) (λh' k=>x h' λb o q=>k b o (c b o q) (keep b o q)) λa r t=>?_
  obtain⟨n,u⟩:=sortedHeap_at (vs:=vs) (out:=(a.map λi=>vs.getD i Value.none).toArray) e;refine⟨_,rfl,Ay ⟨_,rfl,h (s.heap.objs.size+1) _ n a (λb o q=>?_) c r t u⟩⟩;show(sortedHeap (((s.heap.push (seqObj "list" #[] 0)).update s.heap.objs.size (Obj.mapSeq (·++vs.toArray))).push (seqObj "list" vs.toArray 0)) (s.heap.objs.size+1) vs _).get? b=some o;rw[sortedHeap_old (c b o q) (Bg (keep b o q))];exact keep b o q
end
@[reducible] def Ec (O P:KeyOrd):KeyOrd where
 α:=O.α×P.α
 blt x y:=O.blt x.1 y.1 || (!O.blt y.1 x.1 && P.blt x.2 y.2)
 irrefl x:=by simp[O.irrefl,P.irrefl]
 trans x y z h1 h2:=by simp only[Bool.or_eq_true,Bool.and_eq_true,Bool.not_eq_true'] at h1 h2 ⊢;rcases h1 with h1|⟨h1,k1⟩<;>rcases h2 with h2|⟨h2,k2⟩;exact .inl (O.trans _ _ _ h1 h2);exact .inl (KeyOrd.klt_of_klt_of_kle h1 h2);exact .inl (KeyOrd.klt_of_kle_of_klt h1 h2);exact .inr ⟨KeyOrd.kle_trans (O:=O) h1 h2,P.trans _ _ _ k1 k2⟩
 negTrans x y z h:=by
  simp only[Bool.or_eq_true,Bool.and_eq_true,Bool.not_eq_true'] at h ⊢;rcases h with h|⟨h,k⟩;rcases O.negTrans _ y.1 _ h with h|h;exact .inl (.inl h);exact .inr (.inl h)
  cases e1:O.blt x.1 y.1 with
  |true=>exact .inl (.inl rfl)
  |false=>
   cases e2:O.blt y.1 z.1 with
   |true=>exact .inr (.inl rfl)
   |false=>have a1:O.kle y.1 x.1:=e1;have a2:O.kle z.1 y.1:=e2;have a3:O.kle x.1 z.1:=h;have b1:O.blt y.1 x.1=false:=KeyOrd.kle_trans (O:=O) a3 a2;have b2:O.blt z.1 y.1=false:=KeyOrd.kle_trans (O:=O) a1 a3;rcases P.negTrans _ y.2 _ k with k|k;exact .inl (.inr ⟨b1,k⟩);exact .inr (.inr ⟨b2,k⟩)
 total x y h1 h2:=by simp only[Bool.or_eq_false_iff,Bool.and_eq_false_iff,Bool.not_eq_false'] at h1 h2;have e1:x.1=y.1:=O.total _ _ h1.1 h2.1;have e2:x.2=y.2:=P.total _ _ (by rcases h1.2 with z|z;exact absurd (h2.1.symm.trans z) (by simp);exact z) (by rcases h2.2 with z|z;exact absurd (h1.1.symm.trans z) (by simp);exact z);exact Prod.ext e1 e2
@[reducible] def Hf:KeyOrd where
 α:=Str
 blt a b:=decide (a.cps.toList<b.cps.toList)
 irrefl a:=by simpa using List.lt_irrefl a.cps.toList
 trans a b c h1 h2:=by simp only[decide_eq_true_eq] at *;exact List.lt_trans h1 h2
 negTrans a b c h:=by
  simp only[decide_eq_true_eq] at *;by_cases hab:a.cps.toList<b.cps.toList;exact .inl hab;exact .inr (List.lt_of_le_of_lt (List.not_lt.mp hab) h)
 total a b h1 h2:=by simp only[decide_eq_false_iff_not] at *;exact ext_toList (List.le_antisymm (List.not_lt.mp h2) (List.not_lt.mp h1))
@[reducible] def NH:KeyOrd where
 α:=Int
 blt a b:=decide (a<b)
 irrefl a:=by simp
 trans a b c h1 h2:=by simp only[decide_eq_true_eq] at *;lia
 negTrans a b c h:=by simp only[decide_eq_true_eq] at *;lia
 total a b h1 h2:=by simp only[decide_eq_false_iff_not] at *;lia
structure RU where
 O:KeyOrd
 val:O.α->V
 dflt:O.α
 T:Value
 tT:(T==T)=true
 tN:(T != Value.type "tuple")=true
 look:∀(M:Model)(h:Heap)(a:O.α)(u:Value),RelV (val a) u->PySem.W.Looks M h (typeOf u) T
 eqB:∀(prog:Program)(w:World)(A:Around)(E:D')(s:Shared)(a b:O.α)(u v:Value)(Q:Bool->Shared->Prop),RelV (val a) u->RelV (val b) v->(∀e:Bool,(e=true↔a=b)->Q e s)->wpAny (model prog w) A (eqBool u v) Q E s
 ltB:∀(prog:Program)(w:World)(A:Around)(E:D')(s:Shared)(a b:O.α)(u v:Value)(Q:Bool->Shared->Prop),RelV (val a) u->RelV (val b) v->Q (O.blt a b) s->wpAny (model prog w) A (oneLt' true u v) Q E s
 ltC:∀(prog:Program)(w:World)(A:Around)(E:D')(s:Shared)(a b:O.α)(u v:Value)(Q:Bool->Shared->Prop),RelV (val a) u->RelV (val b) v->Q (O.blt a b) s->wpAny (model prog w) A (oneLt' false u v) Q E s
@[reducible] def Lm:RU where
 O:=Hf
 val:=V.str
 dflt:=default
 T:=.type "str"
 tT:=by decide
 tN:=by decide
 look M h a u r:=by obtain⟨t,rfl⟩:=r;exact PySem.W.Looks.of_pure rfl
 eqB prog w A E s a b u v Q r r' h:=by obtain⟨t,rfl⟩:=r;obtain⟨t',rfl⟩:=r';exact eqBool_str (h _ (by simp))
 ltB prog w A E s a b u v Q r r' h:=by obtain⟨t,rfl⟩:=r;obtain⟨t',rfl⟩:=r';exact oneLt_str h
 ltC prog w A E s a b u v Q r r' h:=by obtain⟨t,rfl⟩:=r;obtain⟨t',rfl⟩:=r';exact PySem.W.kat_one _ _ (PySem.P.lt_str h)
@[reducible] def Ln:RU where
 O:=NH
 val:=V.int
 dflt:=0
 T:=.type "int"
 tT:=by decide
 tN:=by decide
 look M h a u r:=by obtain⟨t,rfl⟩:=r;exact PySem.W.Looks.of_pure rfl
 eqB prog w A E s a b u v Q r r' h:=by obtain⟨t,rfl⟩:=r;obtain⟨t',rfl⟩:=r';exact wpAny_eqBool_int (h _ (by simp))
 ltB prog w A E s a b u v Q r r' h:=by obtain⟨t,rfl⟩:=r;obtain⟨t',rfl⟩:=r';exact oneLt_int h
 ltC prog w A E s a b u v Q r r' h:=by obtain⟨t,rfl⟩:=r;obtain⟨t',rfl⟩:=r';exact PySem.W.kat_one _ _ (PySem.P.lt_int h)
section
variable {prog:Program} {w:World} {A:Around} {E:D'} {s:Shared}
end
theorem Ux{α:Type}{R:α->α->Prop}(f:∀a b c,R a b->R b c->R a c):∀(l:List α),(∀i a b,l[i]?=some a->l[i+1]?=some b->R a b)->l.Pairwise R
 |[],_=>.nil
 |[x],_=>by simp
 |x::y::r,h=>by have g:=Ux f (y::r) λi a b k m=>h (i+1) a b (by simpa using k) (by simpa using m);have j:R x y:=h 0 x y rfl rfl;refine List.pairwise_cons.mpr ⟨λz d=>?_,g⟩;rcases BB.mp d with e|d;rw[e];exact j;exact f _ _ _ j ((List.pairwise_cons.mp g).1 z d)
section
variable {X:Cx}
abbrev Row (c d:RU):Type:=V×(Ec c.O d.O).α
def Xz{α β:Type}{R:α->β->Prop}{xs:List α}{ys:List β}(h:Paired R xs ys):∀(i:Nat)(b:α)(c:β),i<xs.length->R (xs.getD i b) (ys.getD i c):=by
 induction h with
 |nil=>intro i b c h;simp at h
 |cons a r d=>
  intro i b c h;cases i with|zero=>exact a|succ i=>simpa using d i b c (by simpa using h)
theorem Uy{α β γ:Type}{R:α->β->Prop}{f:γ->α}{g:γ->β}:∀(l:List γ),(∀x∈l,R (f x) (g x))->Paired R (l.map f) (l.map g)
 |[],_=>.nil
 |x::l,h=>.cons (h x BS) (Uy l λy a=>h y (Du _ a))
end
open Ord
abbrev Cz (p:Str×Int):Dt:=.tup [.str p.1,.int p.2]
abbrev DU:Type:=List (Str×Int)×List Str
abbrev J8 (s:DU):Dt:=.tup [.lst (s.1.map Cz),.lst (s.2.map Dt.str)]
def Ed (K:Aj) (H:Hp) (a:Addr) (gs:J'):Prop:=∃vs,Ai K H a vs/\Ak K H vs (gs.map Cz)
def Hg (K:Aj) (H:Hp) (a:Addr) (ss:List DU):Prop:=∃vs,Ai K H a vs/\Ak K H vs (ss.map J8)
def Ed.same{K:Aj}{H H':Hp}{a:Addr}{gs:J'}(e:Ad H H')(h:Ed K H a gs):Ed K H' a gs:=by obtain⟨b,c,d⟩:=h;exact⟨b,e.seq c,d.same e⟩
theorem Uz{K:Aj}{H:Hp}:∀{vs:S'}{xs:I'},Ak K H vs (xs.map Dt.str)->vs=xs.map V.str
 |_,[],.nil=>rfl
 |_,_::_,.cons h t=>by cases h;rw[Uz t];rfl
variable {H:Hp}{v:V}{p:Str×Int}
def Hh{K:Aj}(h:Ao K H v (Cz p)):∃t,v=.ref t/\Aq K H t [.str p.1,.int p.2]:=by
 cases h with
 | tup h t=>
  cases t with
  |cons a t=>
   cases t with|cons b t=>cases t;cases a;cases b;exact⟨_,rfl,h⟩
variable {vs:S'}{gs:J'}{i:Nat}
def Ak.goes_get{K:Aj}(h:Ak K H vs (gs.map Cz))(hv:vs[i]?=some v):∃p t,gs[i]?=some p/\v=.ref t/\Aq K H t [.str p.1,.int p.2]:=by
 obtain⟨d,hd,a⟩:=h.get hv;rw[Bf] at hd;cases e:gs[i]? with|none=>rw[e] at hd;cases hd|some p=>rw[e] at hd;cases hd;obtain⟨t,b,c⟩:=Hh a;exact⟨p,t,rfl,b,c⟩
def J9{K:Aj}{s:DU}(h:Ao K H v (J8 s)):∃t g e,v=.ref t/\Aq K H t [.ref g,.ref e]/\Ed K H g s.1/\Ai K H e (s.2.map V.str):=by
 cases h with
 | tup h t=>
  cases t with
  |cons b t=>
   cases t with
   |cons c t=>
    cases t
    cases b with
    |lst d f=>
     cases c with|lst a i=>rw[Uz i] at a;exact⟨_,_,_,rfl,h,⟨_,d,f⟩,a⟩
variable {α:Type}
def Ak.len_map{K:Aj}{f:α->Dt}{xs:List α}(h:Ak K H vs (xs.map f)):vs.length=xs.length:=by
 have:=h.length
 rwa [An] at this
section
variable {X:Cx}
end
abbrev Ka (K:Aj) (H:Hp) (z:Row Lm Ln):Prop:=∃t,z.1=.ref t/\Aq K H t [V.str z.2.1,V.int z.2.2]
theorem UA{K:Aj}{H:Hp}:∀{ts:G'}{gs:J'},ts.length=gs.length->(∀(n:Nat)(a:Addr)(p:Str×Int),ts[n]?=some a->gs[n]?=some p->H a=some (.tup [.str p.1,.int p.2])) ->
 ∃zs:List (Row Lm Ln),zs.map (·.1)=ts.map V.ref/\zs.map (·.2)=gs/\∀z∈zs,Ka K H z
 |[],[],_,_=>⟨[],rfl,rfl,λz hz=>by cases hz⟩
 |[],_::_,h,_=>by simp at h
 |_::_,[],h,_=>by simp at h
 |a::ts,p::gs,h,k=>by obtain⟨zs,b,c,d⟩:=UA (K:=K) (H:=H) (ts:=ts) (gs:=gs) (by simpa using h) λn a p b c=>k (n+1) a p (by simpa using b) (by simpa using c);refine⟨(V.ref a,p)::zs,by rw[Do,b];rfl,by rw[Do,c],λz hz=>?_⟩;rcases BB.mp hz with e|hz;rw[e];exact⟨a,rfl,Aq.of (k 0 a p rfl rfl)⟩;exact d z hz
theorem UB{K:Aj}{H:Hp}:∀(zs:List (Row Lm Ln)),(∀z∈zs,Ka K H z)->Ak K H (zs.map (·.1)) ((zs.map (·.2)).map Cz)
 |[],_=>.nil
 |z::zs,h=>by obtain⟨t,e,a⟩:=h z BS;refine .cons ?_ (UB zs λy b=>h y (Du _ b));show Ao K H z.1 (Cz z.2);rw[e];exact .tup a (.cons (.str _) (.cons (.int _) .nil))
structure Bc (K:Aj) (F:Addr->Prop) (H:Hp) (D:Addr) (us:G') (rs:List DU):Prop where
 len:us.length=rs.length
 at_:∀(i:Nat)(u:Addr)(r:DU),us[i]?=some u->rs[i]?=some r->∃G E xs,H u=some (.tup [.ref G,.ref E])/\Ed K H G r.1/\H G=some (.lst xs)/\H E=some (.lst (r.2.map V.str))/\G≠D/\E≠D/\F G/\F E
variable {F:Addr->Prop}{D:Addr}
def Bc.nil{K:Aj}:Bc K F H D [] []:=⟨rfl,λi u r h=>by simp at h⟩
def Bc.same{K:Aj}{F:Addr->Prop}{H H':Hp}{D:Addr}{a:G'}{b:List DU}(e:Ad H H')(h:Bc K F H D a b):Bc K F H' D a b:=by refine⟨h.len,λi u r c d=>?_⟩;obtain⟨G,E,f,g,j,k,l,m,n,o⟩:=h.at_ i u r c d;exact⟨G,E,f,e _ _ g,j.same e,e _ _ k,e _ _ l,m,n,o⟩
variable {u G E:Addr}{xs:S'}{us:G'}{rs:List DU}
def Bc.snoc{K:Aj}{r:DU}(h:Bc K F H D us rs)(d:H u=some (.tup [.ref G,.ref E]))(f:Ed K H G r.1)(g:H G=some (.lst xs))(j:H E=some (.lst (r.2.map V.str)))(k:G≠D)(l:E≠D)(m:F G)(n:F E):Bc K F H D (us++[u]) (rs++[r]):=by refine⟨by rw[AY,AY,h.len];rfl,λi v q a b=>?_⟩;rcases o5 i us.length with c|p;rw[Ez c] at a;rw[Ez (by rw[<-h.len];exact c)] at b;exact h.at_ i v q a b;have o:i<(us++[u]).length:=(Bi.mp a).1;rw[AY,FM] at o;have e:i=us.length:=(by lia);subst e;rw[Ep (AK _),Nat.sub_self] at a;rw[Ep (by rw[h.len];exact AK _),h.len,Nat.sub_self] at b;cases a;cases b;exact⟨G,E,xs,d,f,g,j,k,l,m,n⟩
def Fo:([]:S').length+1+1+1<=sizeLine:=by decide
theorem Bc.dts{K:Aj}{F:Addr->Prop}{H:Hp}{D:Addr}:∀{us:G'}{rs:List DU},Bc K F H D us rs->Ak K H (us.map V.ref) (rs.map J8)
 |[],[],_=>.nil
 |[],_::_,h=>by have:=h.len;simp at this
 |_::_,[],h=>by have:=h.len;simp at this
 |u::us,r::rs,h=>by obtain⟨G,E,xs,a,⟨g,b,f⟩,j,c,_⟩:=h.at_ 0 u r rfl rfl;refine .cons (.tup (Aq.of a) (.cons (.lst b f) (.cons (.lst (Ai.of c) (Ak.strs _)) .nil))) ?_;exact Bc.dts (D:=D) ⟨by simpa using h.len,λi v q d e=>h.at_ (i+1) v q (by simpa using d) (by simpa using e)⟩
variable {a:Addr}
def Bc.stts{K:Aj}(e:H a=some (.lst (us.map V.ref)))(h:Bc K F H a us rs):Hg K H a rs:=⟨_,Ai.of e,h.dts⟩
variable {O:KeyOrd}
def RV{l m:List O.α}(h:l.Perm m)(c:l.Pairwise O.kle)(d:m.Pairwise O.kle):l=m:=
 h.eq_of_pairwise (λa b ζ ζ x y=>KeyOrd.kle_antisymm x y) c d
def Hi(p q:Str×Int):Dz 2 (Cz p) (Cz q):=.tup (.cons (.str _ _) (.cons (.int _ _) (.nil _)))
structure GT (H:Hp) (ts:G') (gs:J'):Prop where
 len:ts.length=gs.length
 at_:∀(n:Nat)(t:Addr)(p:Str×Int),ts[n]?=some t->gs[n]?=some p->H t=some (.tup [.str p.1,.int p.2])
def GT.nil:GT H [] []:=⟨rfl,λn t p h=>by simp at h⟩
variable {H':Hp}{ts:G'}
def GT.same(e:Ad H H')(h:GT H ts gs):GT H' ts gs:=⟨h.len,λn t p a b=>e _ _ (h.at_ n t p a b)⟩
variable {o:HO}
def GT.updL(b:H a=some (.lst xs))(h:GT H ts gs):GT (upd H a o) ts gs:=⟨h.len,λn t p c d=>by
 have:=h.at_ n t p c d;rw[AI λz=>by rw[z,b] at this;cases this];exact this⟩
def GT.snoc{t:Addr}(h:GT H ts gs)(e:H t=some (.tup [.str p.1,.int p.2])):GT H (ts++[t]) (gs++[p]):=by refine⟨by rw[AY,AY,h.len];rfl,λn v q a b=>?_⟩;rcases o5 n ts.length with c|g;rw[Ez c] at a;rw[Ez (by rw[<-h.len];exact c)] at b;exact h.at_ n v q a b;have f:n<(ts++[t]).length:=(Bi.mp a).1;rw[AY,FM] at f;have d:n=ts.length:=(by lia);subst d;rw[Ep (AK _),Nat.sub_self] at a;rw[Ep (by rw[h.len];exact AK _),h.len,Nat.sub_self] at b;cases a;cases b;exact e
def GT.dts{K:Aj}(h:GT H ts gs):Ak K H (ts.map V.ref) (gs.map Cz):=by obtain⟨a,b,c,d⟩:=UA (K:=K) h.len h.at_;rw[<-b,<-c];exact UB a d
variable {te:TE}{σ:St}{n:Nat}
def NI{k:Nat}{c:P'}{g:TG}{U:Hp}{Q:Addr->Hp->Prop}{lo:Int}(Pv:Addr->Nat->S'->Hp->Prop)
 (d:∀D,U D=none->Pv D 0 [] (upd U D (.lst [])))
 (e:∀(D:Addr)(i:Nat)(ys:S')(Z:Hp)(R:VK),U D=none->i<n->Pv D i ys Z->(∀y a,a D=some (.lst ys)->ys.length<sizeLine->Pv D (i+1) (ys++[y]) (upd a D (.lst (ys++[y])))->R y a)->g (.int (lo+i)) (FQ k c σ) Z λσ4 f=>te σ4 f R)
 (hd:∀D ys Z,U D=none->Pv D n ys Z->Q D Z):Lh (Nf lo n) k c g IM te σ U Q:=O7 n Pv d (λD i ys Z p b=>b) (λD ys Z p=>AK _) (λD i ys Z x j R l h b p y k m=>by obtain⟨rfl,rfl⟩:=y;exact e D i ys _ R h b p k) hd
structure Keeps (M:Addr->Prop) (H H':Hp):Prop where
 at_:∀x o,H x=some o->¬M x->H' x=some o
 ls:∀x o,M x->H x=some o->∃xs,o=HO.lst xs
section
variable {K:Aj} {M:Addr->Prop} {H H':Hp}
def Keeps.refl(h:∀x o,M x->H x=some o->∃xs,o=HO.lst xs):Keeps M H H:=⟨λζ ζ e ζ=>e,h⟩
def Keeps.set(k:Keeps M H H')(a:M D):Keeps M H (upd H' D o):=⟨λx u e n=>by
 have b:x≠D:=λz=>n (by rw[z];exact a);rw[AI b];exact k.at_ x u e n,k.ls⟩
def Keeps.one(a:H D=some (.lst xs)):Keeps (·=D) H (upd H D o):=
 ⟨λx u e n=>by rw[AI n];exact e,λx u m e=>by rw[m,a] at e;exact⟨xs,(BU e).symm⟩⟩
def Keeps.same{Z:Hp}(k:Keeps M H H')(s:Ad H' Z):Keeps M H Z:=⟨λx o e n=>s _ _ (k.at_ x o e n),k.ls⟩
def Keeps.noT(k:Keeps M H H')(h:H a=some (.tup xs)):¬M a:=λm=>by obtain⟨_,e⟩:=k.ls _ _ m h;cases e
def Keeps.tup(k:Keeps M H H'){a:Addr}{xs:S'}(h:H a=some (.tup xs)):H' a=some (.tup xs):=k.at_ _ _ h (k.noT h)
end
def UC{K:Aj}{k:Nat}{j:P'}{g:TG}{l:TT}{U:Hp}{Q:Addr->Hp->Prop}(Pv:Addr->Nat->S'->Hp->Prop)
 (m:∀D,U D=none->Pv D 0 [] (upd U D (.lst []))) (e:∀D i ys Z,Pv D i ys Z->Ai K Z a xs)
 (n:∀D i x ys Z(R:VK)(d:Hp->Prop),U D=none->xs[i]?=some x->Pv D i ys Z->(∀y f,f D=some (.lst ys)->ys.length<sizeLine->Pv D (i+1) (ys++[y]) (upd f D (.lst (ys++[y])))->R y f)->(∀c,Pv D (i+1) ys c->d c)->g x (FQ k j σ) Z λσ4 o=>l σ4 o λb c=>if b=true then te σ4 c R else d c)
 (hd:∀D ys Z,U D=none->Pv D xs.length ys Z->Q D Z):Lh (Mr K a) k j g l te σ U Q:=O7 xs.length Pv m (λD i ys Z p h=>⟨xs,xs[i],e D i ys Z p,by simp[h]⟩) (λD ys Z p=>⟨xs,e D _ ys Z p,AK _⟩) (λD i ys Z x s R d q h p y k r=>by obtain⟨rfl,y⟩:=y;exact n D i x ys _ R d q (y xs (e D i ys _ p)) p k r) hd
structure F1 (K:Aj) (F:Addr->Prop) (H:Hp) (t:Addr) (rs:List DU) (n:Int) (ord:A'):Prop where
 ex:∃(a o:Addr)(us:G')(ts:G'),H t=some (.tup [.ref a,.int n,.ref o])/\F a/\F o/\a≠o/\H a=some (.lst (us.map V.ref))/\Bc K F H a us rs/\H o=some (.lst (ts.map V.ref))/\DA H ts ord
def F1.same{K:Aj}{F:Addr->Prop}{H H':Hp}{t:Addr}{rs:List DU}{n:Int}{ord:A'}(s:Ad H H')(h:F1 K F H t rs n ord):F1 K F H' t rs n ord:=by obtain⟨a,o,us,ts,b,c,d,e,f,g,i,j⟩:=h.ex;exact⟨a,o,us,ts,s _ _ b,c,d,e,s _ _ f,g.same s,s _ _ i,j.same s⟩
section
variable {X:Cx}
end
abbrev Bb:C'->Dt
 |none=>.non
 |some p=>Cz p
def Ih (K:Aj) (H:Hp) (a:Addr) (as:List (C')):Prop:=∃vs,Ai K H a vs/\Ak K H vs (as.map Bb)
abbrev Qu:Type:=Int×Int×List Str
abbrev V':=List Qu
abbrev UD (q:Qu):Dt:=.tup [.int q.1,.int q.2.1,.tup (q.2.2.map Dt.str)]
section
variable {K:Aj} {H H':Hp} {a:Addr}
def Ih.same{b:List (C')}(e:Ad H H')(h:Ih K H a b):Ih K H' a b:=by obtain⟨vs,c,d⟩:=h;exact⟨vs,e.seq c,d.same e⟩
def Lo{o:C'}(h:Ao K H v (Bb o)):(o=none/\v=.non)\/∃p t,o=some p/\v=.ref t/\Aq K H t [.str p.1,.int p.2]:=by
 cases o with|none=>cases h;exact .inl ⟨rfl,rfl⟩|some p=>obtain⟨t,e,a⟩:=Hh h;exact .inr ⟨p,t,rfl,e,a⟩
def Ih.get{b:List (C')}(h:Ih K H a b){k:Nat}(g:k<b.length):∃vs v,Ai K H a vs/\vs[k]?=some v/\((b[k]?=some none/\v=.non)\/∃p t,b[k]?=some (some p)/\v=.ref t/\Aq K H t [.str p.1,.int p.2]):=by obtain⟨vs,j,l⟩:=h;have c:=AM g;obtain⟨v,m,hd⟩:=l.get' (i:=k) (d:=Bb b[k]) (by rw[Bf,c];rfl);refine⟨vs,v,j,m,?_⟩;rcases Lo hd with⟨e,f⟩|⟨p,t,e,f,n⟩;exact .inl ⟨by rw[c,e],f⟩;exact .inr ⟨p,t,by rw[c,e],f,n⟩
def Ed.get(h:Ed K H a gs){k:Nat}(b:gs[k]?=some p):∃vs t,Ai K H a vs/\vs[k]?=some (.ref t)/\Aq K H t [.str p.1,.int p.2]:=by obtain⟨vs,c,e⟩:=h;obtain⟨v,f,hd⟩:=e.get' (i:=k) (d:=Cz p) (by rw[Bf,b];rfl);obtain⟨t,rfl,g⟩:=Hh hd;exact⟨vs,t,c,f,g⟩
end
structure QT (H:Hp) (ts:G') (qs:V'):Prop where
 len:ts.length=qs.length
 at_:∀(n:Nat)(t:Addr)(q:Qu),ts[n]?=some t->qs[n]?=some q->∃u,H t=some (.tup [.int q.1,.int q.2.1,.ref u])/\H u=some (.tup (q.2.2.map V.str))
def QT.nil:QT H [] []:=⟨rfl,λn t p h=>by simp at h⟩
variable {qs:V'}
def QT.same(e:Ad H H')(h:QT H ts qs):QT H' ts qs:=⟨h.len,λn t p a b=>by
 obtain⟨u,c,d⟩:=h.at_ n t p a b;exact⟨u,e _ _ c,e _ _ d⟩⟩
variable {M:Addr->Prop}
def QT.keeps(k:Keeps M H H')(h:QT H ts qs):QT H' ts qs:=⟨h.len,λn t p a b=>by
 obtain⟨u,c,d⟩:=h.at_ n t p a b;exact⟨u,k.tup c,k.tup d⟩⟩
def GT.keeps(k:Keeps M H H')(h:GT H ts gs):GT H' ts gs:=⟨h.len,λn t p a b=>k.tup (h.at_ n t p a b)⟩
def QT.snoc{t:Addr}{q:Qu}(h:QT H ts qs)(e:H t=some (.tup [.int q.1,.int q.2.1,.ref u]))(d:H u=some (.tup (q.2.2.map V.str))):QT H (ts++[t]) (qs++[q]):=by refine⟨by rw[AY,AY,h.len];rfl,λn v f a b=>?_⟩;rcases o5 n ts.length with c|j;rw[Ez c] at a;rw[Ez (by rw[<-h.len];exact c)] at b;exact h.at_ n v f a b;have i:n<(ts++[t]).length:=(Bi.mp a).1;rw[AY,FM] at i;have g:n=ts.length:=(by lia);subst g;rw[Ep (AK _),Nat.sub_self] at a;rw[Ep (by rw[h.len];exact AK _),h.len,Nat.sub_self] at b;cases a;cases b;exact⟨u,e,d⟩
def QT.dts{K:Aj}(h:QT H ts qs):Ak K H (ts.map V.ref) (qs.map UD):=by refine Ak.of_get (by simpa using h.len) λn v d a b=>?_;rw[Bf] at a b;obtain⟨t,c,rfl⟩:=E5.mp a;obtain⟨q,e,rfl⟩:=E5.mp b;obtain⟨u,f,g⟩:=h.at_ n t q c e;exact .tup (Aq.of f) (.cons (.int _) (.cons (.int _) (.cons (.tup (Aq.of g) (Ak.strs _)) .nil)))
def DV (ths:J') (as:List (C')) (q:Int):Str×Int:=match as[q.toNat]? with
 |some (some p)=>if p.1=f' then(match ths[p.2.toNat]? with
   |some k=>if k.1=i8 then("to",k.2) else("no",0)
   |none=>("no",0)) else("no",0)
 |some none=>("open",q)
 |none=>("no",0)
def Fp (ths:J') (as:List (C')) (p:Str×Int):Str×Int:=
 if p.1=i8 then("to",p.2) else if p.1=i9 then DV ths as p.2 else("no",0)
structure Ga (ths:J') (as:List (C')):Prop where
 q:∀p∈ths,p.1=i9->0<=p.2/\p.2<as.length
 t:∀p,some p∈as->p.1=f'->0<=p.2/\p.2<ths.length
variable {ths:J'}{as:List (C')}
def XA(h:as[n]?=some none):DV ths as (n:Int)=(i7,(n:Int)):=by unfold DV;rw[BF,h]
def XB(h:as[n]?=some (some p))(a:p.1≠f'):DV ths as (n:Int)=(i4,0):=by unfold DV;rw[BF,h];exact Ag a
variable {m:Nat}
def XC{k:Str×Int}(h:as[n]?=some (some p))(a:p.1=f')(b:p.2=(m:Int))(c:ths[m]?=some k)(d:k.1=i8):DV ths as (n:Int)=(i3,k.2):=by
 unfold DV;rw[BF,h];show(if p.1=f' then _ else _)=_;rw[Ap a,b,BF,c];exact Ap d
def XD{k:Str×Int}(h:as[n]?=some (some p))(a:p.1=f')(b:p.2=(m:Int))(c:ths[m]?=some k)(d:k.1≠i8):DV ths as (n:Int)=(i4,0):=by
 unfold DV;rw[BF,h];show(if p.1=f' then _ else _)=_;rw[Ap a,b,BF,c];exact Ag d
variable {x:Str}
def IS{X:Cx}{L:Pos}{e:Expr}{op:Operator}{a:R2}{t:Pos}(b:X.N.Nodup)(c:X.N[i]?=some x)(d:Loc X.env.scope x)(f:PE X e te)(g:CW X (inplaceOp op) a)(h:X.fn x=true\/X.env.scope.names.lookup x=some .local:=by first|exact .inl rfl|exact .inr rfl|assumption) :
 PS X (.AugAssign (.Name x t) op e L) (Nd i te a):=KW b c d f g h
abbrev CF:Type:=Str×Str×Int
abbrev Lp (p:CF):S':=[.str p.1,.str p.2.1,.int p.2.2]
abbrev CA:Type:=Str×Str×Str×Int
abbrev CB (p:CA):S':=[.str p.1,.str p.2.1,.str p.2.2.1,.int p.2.2.2]
abbrev NJ (p:CF):Dt:=.tup [.str p.1,.str p.2.1,.int p.2.2]
abbrev NK (p:CA):Dt:=.tup [.str p.1,.str p.2.1,.str p.2.2.1,.int p.2.2.2]
section
variable {α:Type} {f:α->S'} {H H':Hp} {ts:G'} {rs:List α}
structure RT (f:α->S') (H:Hp) (ts:G') (rs:List α):Prop where
 len:ts.length=rs.length
 at_:∀(n:Nat)(t:Addr)(r:α),ts[n]?=some t->rs[n]?=some r->H t=some (.tup (f r))
def RT.nil:RT f H [] []:=⟨rfl,λn t p h=>by simp at h⟩
def RT.same(e:Ad H H')(h:RT f H ts rs):RT f H' ts rs:=⟨h.len,λn t p a b=>e _ _ (h.at_ n t p a b)⟩
def RT.keeps(k:Keeps M H H')(h:RT f H ts rs):RT f H' ts rs:=⟨h.len,λn t p a b=>k.tup (h.at_ n t p a b)⟩
def RT.snoc{t:Addr}{r:α}(h:RT f H ts rs)(e:H t=some (.tup (f r))):RT f H (ts++[t]) (rs++[r]):=by refine⟨by rw[AY,AY,h.len];rfl,λn v q a b=>?_⟩;rcases o5 n ts.length with c|i;rw[Ez c] at a;rw[Ez (by rw[<-h.len];exact c)] at b;exact h.at_ n v q a b;have g:n<(ts++[t]).length:=(Bi.mp a).1;rw[AY,FM] at g;have d:n=ts.length:=(by lia);subst d;rw[Ep (AK _),Nat.sub_self] at a;rw[Ep (by rw[h.len];exact AK _),h.len,Nat.sub_self] at b;cases a;cases b;exact e
def RT.dts{K:Aj}{g:α->Dt}(c:∀(r:α)(t:Addr),H t=some (.tup (f r))->Ao K H (.ref t) (g r))(h:RT f H ts rs):Ak K H (ts.map V.ref) (rs.map g):=by refine Ak.of_get (by simpa using h.len) λn v d a b=>?_;rw[Bf] at a b;obtain⟨t,e,rfl⟩:=E5.mp a;obtain⟨q,i,rfl⟩:=E5.mp b;exact c q t (h.at_ n t q e i)
end
def Lq{K:Aj}(r:CF)(t:Addr)(h:H t=some (.tup (Lp r))):Ao K H (.ref t) (NJ r):=.tup (Aq.of h) (.cons (.str _) (.cons (.str _) (.cons (.int _) .nil)))
def Lr{K:Aj}(r:CA)(t:Addr)(h:H t=some (.tup (CB r))):Ao K H (.ref t) (NK r):=.tup (Aq.of h) (.cons (.str _) (.cons (.str _) (.cons (.str _) (.cons (.int _) .nil))))
abbrev BC:Type:=List CF×List CA
abbrev Hj (s:BC):Dt:=.tup [.lst (s.1.map NJ),.lst (s.2.map NK)]
structure GQ (H:Hp) (u G E:Addr) (s:BC):Prop where
 u:H u=some (.tup [.ref G,.ref E])
 g:∃ts:G',H G=some (.lst (ts.map V.ref))/\RT Lp H ts s.1
 e:∃ts:G',H E=some (.lst (ts.map V.ref))/\RT CB H ts s.2
def GQ.same{H H':Hp}{u G E:Addr}{s:BC}(e:Ad H H')(h:GQ H u G E s):GQ H' u G E s:=by obtain⟨a,⟨ts,b,c⟩,⟨us,d,f⟩⟩:=h;exact⟨e _ _ a,⟨ts,e _ _ b,c.same e⟩,⟨us,e _ _ d,f.same e⟩⟩
def GQ.keeps{M:Addr->Prop}{H H':Hp}{u G E:Addr}{s:BC}(k:Keeps M H H')(b:¬M G)(c:¬M E)(h:GQ H u G E s):GQ H' u G E s:=by obtain⟨a,⟨ts,d,e⟩,⟨us,f,g⟩⟩:=h;exact⟨k.tup a,⟨ts,k.at_ _ _ d b,e.keeps k⟩,⟨us,k.at_ _ _ f c,g.keeps k⟩⟩
variable {s:BC}
def GQ.dt{K:Aj}(h:GQ H u G E s):Ao K H (.ref u) (Hj s):=by obtain⟨a,⟨ts,b,c⟩,⟨us,d,e⟩⟩:=h;exact .tup (Aq.of a) (.cons (.lst (Ai.of b) (c.dts Lq)) (.cons (.lst (Ai.of d) (e.dts Lr)) .nil))
structure C4 (H:Hp) (D:Addr) (us Gs Es:G') (ss:List BC):Prop where
 top:H D=some (.lst (us.map V.ref))
 lu:us.length=ss.length
 lg:Gs.length=ss.length
 le:Es.length=ss.length
 at_:∀(i:Nat)(u G E:Addr)(s:BC),us[i]?=some u->Gs[i]?=some G->Es[i]?=some E->ss[i]?=some s->GQ H u G E s
def C4.same{H H':Hp}{D:Addr}{us a b:G'}{ss:List BC}(e:Ad H H')(h:C4 H D us a b ss):C4 H' D us a b ss:=
 ⟨e _ _ h.top,h.lu,h.lg,h.le,λi u G E s c d f g=>(h.at_ i u G E s c d f g).same e⟩
variable {Gs Es:G'}{ss:List BC}
def C4.get(h:C4 H D us Gs Es ss)(a:i<ss.length) :
 ∃u G E,us[i]?=some u/\Gs[i]?=some G/\Es[i]?=some E/\ss[i]?=some ss[i]/\GQ H u G E ss[i]:=by
 have b:us[i]?=some (us[i]'(by rw[h.lu];exact a)):=AM _;have c:Gs[i]?=some (Gs[i]'(by rw[h.lg];exact a)):=AM _;have d:Es[i]?=some (Es[i]'(by rw[h.le];exact a)):=AM _;exact⟨_,_,_,b,c,d,AM a,h.at_ i _ _ _ _ b c d (AM a)⟩
def C4.keeps{M:Addr->Prop}{H H':Hp}{D:Addr}{us Gs Es:G'}{ss:List BC}(k:Keeps M H H')(d:¬M D)(a:∀x∈Gs++Es,¬M x)(h:C4 H D us Gs Es ss):C4 H' D us Gs Es ss:=
 ⟨k.at_ _ _ h.top d,h.lu,h.lg,h.le,λi u G E s e b c f=>(h.at_ i u G E s e b c f).keeps k (a _ (GG _ (Bq b))) (a _ (DI _ (Bq c)))⟩
def C4.dts{K:Aj}(h:C4 H D us Gs Es ss):Ak K H (us.map V.ref) (ss.map Hj):=by refine Ak.of_get (by simpa using h.lu) λn v d a b=>?_;rw[Bf] at a b;obtain⟨u,g,rfl⟩:=E5.mp a;obtain⟨s,c,rfl⟩:=E5.mp b;have i:n<ss.length:=(Bi.mp c).1;obtain⟨k,G,E,e,l,m,f,j⟩:=h.get i;rw[g] at e;cases e;rw[c] at f;rw[BU f];exact j.dt
def C4.alive(h:C4 H D us Gs Es ss):∀x∈Gs++Es,∃xs,H x=some (.lst xs):=λx a=>by
 rcases BI.mp a with a|a;obtain⟨j,b⟩:=List.getElem?_of_mem a;have f:j<ss.length:=by rw[<-h.lg];exact(Bi.mp b).1
 obtain⟨g,i,k,l,c,d,m,⟨_,⟨n,e,_⟩,_⟩⟩:=h.get f;rw[b] at c;cases c;exact⟨_,e⟩;obtain⟨j,b⟩:=List.getElem?_of_mem a;have f:j<ss.length:=by rw[<-h.le];exact(Bi.mp b).1
 obtain⟨g,i,k,l,c,d,m,⟨_,_,⟨n,e,_⟩⟩⟩:=h.get f;rw[b] at d;cases d;exact⟨_,e⟩
def C4.nil(h:H D=some (.lst [])):C4 H D [] [] [] []:=⟨h,rfl,rfl,rfl,λi u G E s a=>by simp at a⟩
def C4.snoc(h:C4 H D us Gs Es ss)(g:GQ H u G E s)(j:G≠D)(l:E≠D)(f:∀x∈Gs++Es,x≠D) :
 C4 (upd H D (.lst (us.map V.ref++[.ref u]))) D (us++[u]) (Gs++[G]) (Es++[E]) (ss++[s]):=by
 have k:Keeps (·=D) H (upd H D (.lst (us.map V.ref++[.ref u]))):=Keeps.one h.top;refine⟨by rw[Ab,Bh];rfl,by simp[h.lu],by simp[h.lg],by simp[h.le],λi m n o p d a b c=>?_⟩;rcases o5 i ss.length with e|t;rw[Ez (by rw[h.lu];exact e)] at d;rw[Ez (by rw[h.lg];exact e)] at a;rw[Ez (by rw[h.le];exact e)] at b;rw[Ez e] at c;exact(h.at_ i m n o p d a b c).keeps k (f _ (GG _ (Bq a))) (f _ (DI _ (Bq b)));have r:i<(ss++[s]).length:=(Bi.mp c).1;rw[AY,FM] at r;have q:i=ss.length:=(by lia);subst q;rw[Ep (by rw[h.lu];exact AK _),h.lu,Nat.sub_self] at d;rw[Ep (by rw[h.lg];exact AK _),h.lg,Nat.sub_self] at a;rw[Ep (by rw[h.le];exact AK _),h.le,Nat.sub_self] at b;rw[Ep (AK _),Nat.sub_self] at c;cases d;cases a;cases b;cases c;exact g.keeps k j l
def XE(a:(D::(Gs++Es)).Nodup)(b:G∉D::(Gs++Es))(c:E∉D::(Gs++Es))(d:G≠E):(D::((Gs++[G])++(Es++[E]))).Nodup:=by
 have p:(D::((Gs++[G])++(Es++[E]))).Perm (G::E::(D::(Gs++Es))):=by
  have e:(D::((Gs++[G])++(Es++[E]))).Perm (E::(D::((Gs++[G])++Es))):=(by have:(D::((Gs++[G])++(Es++[E])))=(D::((Gs++[G])++Es))++[E]:=(by simp);rw[this];exact List.perm_append_singleton _ _);have J:(D::((Gs++[G])++Es)).Perm (G::(D::(Gs++Es))):=(by have:(D::((Gs++[G])++Es))=(D::Gs)++G::Es:=(by simp);rw[this];exact List.perm_middle);exact(e.trans (J.cons E)).trans (List.Perm.swap _ _ _)
 rw[p.nodup_iff,Fh,Fh];refine⟨λz=>?_,c,a⟩;rcases BB.mp z with z|z;exact d z;exact b z
def EC (ths:J') (as:List (C')) (p:CF):Str×Int:=
 if p.2.1=i3 then("to",p.2.2) else match as[p.2.2.toNat]? with
 |some (some w)=>if w.1=f' then(match ths[w.2.toNat]? with
   |some k=>Fp ths as k
   |none=>("no",0)) else("no",0)
 |some none=>("open",p.2.2)
 |none=>("no",0)
def XF{p:CF}(h:p.2.1=i3):EC ths as p=(i3,p.2.2):=Ap h
def XG{p:CF}(h:p.2.1≠i3)(a:p.2.2=(n:Int))(b:as[n]?=some none):EC ths as p=(i7,p.2.2):=by unfold EC;rw[Ag h,a,BF,b]
def XH{p:CF}{w:Str×Int}(h:p.2.1≠i3)(a:p.2.2=(n:Int))(b:as[n]?=some (some w))(c:w.1≠f'):EC ths as p=(i4,0):=by unfold EC;rw[Ag h,a,BF,b];exact Ag c
def XI{p:CF}{w k:Str×Int}(h:p.2.1≠i3)(a:p.2.2=(n:Int))(b:as[n]?=some (some w))(c:w.1=f')(d:w.2=(m:Int))(e:ths[m]?=some k):EC ths as p=Fp ths as k:=by
 unfold EC;rw[Ag h,a,BF,b];show(if w.1=f' then _ else _)=_;rw[Ap c,d,BF,e]
section
variable {X:Cx}
end
def Hk (s q:Int) (p:Str×Int):Prop:=(p.1=j3/\p.2=0)\/(p.1=i8/\0<=p.2/\p.2<s)\/(p.1=i9/\0<=p.2/\p.2<q)
def RW (s q:Int) (p:CF):Prop:=(p.2.1=i3/\0<=p.2.2/\p.2.2<s)\/(p.2.1=i6/\0<=p.2.2/\p.2.2<q)
def Ls (t q:Int) (p:CA):Prop:=(p.2.2.1=f'/\0<=p.2.2.2/\p.2.2.2<t)\/(p.2.2.1=i6/\0<=p.2.2.2/\p.2.2.2<q)
structure ED (H:Hp) (S T R:Addr) (us Gs Es ts qt:G') (ss:List BC) (gs:J') (qs:V'):Prop where
 sc:C4 H S us Gs Es ss
 et:H T=some (.lst (ts.map V.ref))
 tg:GT H ts gs
 er:H R=some (.lst (qt.map V.ref))
 tq:QT H qt qs
def ED.same{H H':Hp}{S T R:Addr}{us Gs Es ts a:G'}{ss:List BC}{gs:J'}{qs:V'}(e:Ad H H')(h:ED H S T R us Gs Es ts a ss gs qs):ED H' S T R us Gs Es ts a ss gs qs:=
 ⟨h.sc.same e,e _ _ h.et,h.tg.same e,e _ _ h.er,h.tq.same e⟩
abbrev Hl (ss:List BC) (gs:J') (qs:V'):Dt:=.tup [.lst (ss.map Hj),.lst (gs.map Cz),.lst (qs.map UD)]
def ED.dt{K:Aj}{a S T R:Addr}{b:G'}(h:ED H S T R us Gs Es ts b ss gs qs)(e:H a=some (.tup [.ref S,.ref T,.ref R])):Ao K H (.ref a) (Hl ss gs qs):=
 .tup (Aq.of e) (.cons (.lst (Ai.of h.sc.top) h.sc.dts) (.cons (.lst (Ai.of h.et) h.tg.dts) (.cons (.lst (Ai.of h.er) h.tq.dts) .nil)))
def IT(s r:BC):Dz 4 (Hj s) (Hj r):=by refine .tup (.cons (.lst (Bo.of λd hd e a=>?_)) (.cons (.lst (Bo.of λd hd e a=>?_)) (.nil _)));obtain⟨p,_,rfl⟩:=AN.mp hd;obtain⟨q,_,rfl⟩:=AN.mp a;exact .tup (.cons (.str _ _) (.cons (.str _ _) (.cons (.int _ _) (.nil _))));obtain⟨p,_,rfl⟩:=AN.mp hd;obtain⟨q,_,rfl⟩:=AN.mp a;exact .tup (.cons (.str _ _) (.cons (.str _ _) (.cons (.str _ _) (.cons (.int _ _) (.nil _)))))
def IU(ss b:List BC)(gs c:J')(qs f:V'):Dz 6 (Hl ss gs qs) (Hl b c f):=by refine .tup (.cons (.lst (Bo.of λd hd e a=>?_)) (.cons (.lst (Bo.of λd hd e a=>?_)) (.cons (.lst (Bo.of λd hd e a=>?_)) (.nil _))));obtain⟨p,_,rfl⟩:=AN.mp hd;obtain⟨q,_,rfl⟩:=AN.mp a;exact IT p q;obtain⟨p,_,rfl⟩:=AN.mp hd;obtain⟨q,_,rfl⟩:=AN.mp a;exact .tup (.cons (.str _ _) (.cons (.int _ _) (.nil _)));obtain⟨p,_,rfl⟩:=AN.mp hd;obtain⟨q,_,rfl⟩:=AN.mp a;refine .tup (.cons (.int _ _) (.cons (.int _ _) (.cons (.tup (Bo.of λd hd e a=>?_)) (.nil _))));obtain⟨p,_,rfl⟩:=AN.mp hd;obtain⟨q,_,rfl⟩:=AN.mp a;exact .str _ _
abbrev IV (K:Aj):S'->Hp->VK->Prop:=λxs H Q=>∃p ys,xs=[V.ref p]/\(Ai K H p ys\/Aq K H p ys)/\∀l,H l=none->Q (V.ref l) (upd H l (HO.lst ys))
open PySem.SeqAt
open PySem.AutoSeq1 (wpAny_loadPart')
open PySem.MeetsSeq PySem.MeetsSeq2 PySem.MeetsSeq3
def BY (A:Around) (s:Shared) (x y:Value) (b:Bool):Prop:=
 ∀(prog:Program)(w:World)(E:D')(Q:D'),Q (.bool b) s->wpAny (model prog w) A (richCompare .Lt x y) Q E s
inductive BE (A:Around) (s:Shared):F'->F'->Bool->Prop where
 |nil:BE A s [] [] false
 |lt (w:Value) (ws:F'):BE A s [] (w::ws) true
 |gt (v:Value) (vs:F'):BE A s (v::vs) [] false
 |eq {v w:Value} {vs ws:F'} {b:Bool} (h:EqAt A s v w true) (t:BE A s vs ws b):BE A s (v::vs) (w::ws) b
 |ne {v w:Value} {vs ws:F'} {b:Bool} (h:EqAt A s v w false) (l:BY A s v w b):BE A s (v::vs) (w::ws) b
def XJ(l b:Addr)(f e:M')(n E:Nat)(F M:Option Addr)(G N:Array (K'))(c:Bool) :
 Meets (Builtin.«tuple.__lt__» ⟨[.ref l,.ref b],[]⟩)
  (λA R s=>s.heap.get? l=some {cls:=.type "tuple",dict:=F,data:=.seq f n,slots:=G}/\s.heap.get? b=some {cls:=.type "tuple",dict:=M,data:=.seq e E,slots:=N} /\
   BE A.in1 s f.toList e.toList c/\R (.ok (.ret (.bool c))) s):=
 .of_wp λv w A R s h=>by
  obtain⟨z,g,d,B,C⟩:=s;obtain⟨H,I,i,h⟩:=h;have P:=AutoSeq1.sub_tuple_tuple
  wp_walk using wpAny_loadPart' H,wpAny_loadPart' I,wpAny_forIn_list _ (λj b o=>b.1=none/\o=⟨z,g,d,B,C⟩/\∃(vs k:F'),j=vs.zip k /\
   BE A.in1 ⟨z,g,d,B,C⟩ vs k c/\vs.length+e.size=k.length+f.size) _
  case turn =>
   rintro⟨y,x⟩ j b o ⟨r,rfl,vs,k,a,t,m⟩
   cases t with
   |nil=>rw[List.zip_nil_left] at a;cases a
   |lt=>rw[List.zip_nil_left] at a;cases a
   |gt=>rw[List.zip_nil_right] at a;cases a
   |eq p J=>
    rw[List.zip_cons_cons] at a;injection a with u D;injection u with q i;subst q i;simp only[CV] at m;refine Ae (p v w _ _ ?_)
    wp_walk
    exact⟨rfl,rfl,_,_,D,J,by lia⟩
   |ne p K=>
    rw[List.zip_cons_cons] at a;injection a with u D;injection u with q i;subst q i;refine Ae (p v w _ _ ?_);have O:=K v w
    wp_walk using O
    exact⟨_,rfl,by simpa using h⟩
  case fin =>
   rintro⟨Q,S⟩ o ⟨r,rfl,vs,k,a,t,m⟩;simp only at r;subst r
   have L:c=decide (f.size<e.size):=by
    cases t with|nil=>simp only[GI] at m;exact(DS (by lia)).symm|lt=>simp only[GI,CV] at m;exact(A5 (by lia)).symm|gt=>simp only[GI,CV] at m;exact(DS (by lia)).symm|eq=>rw[List.zip_cons_cons] at a;cases a|ne=>rw[List.zip_cons_cons] at a;cases a
   rw[L] at h
   wp_walk
   exact⟨_,rfl,by simpa [Builtin.Tuple.tupleCompareSizes] using h⟩
  case h =>
   exact⟨rfl,rfl,f.toList,e.toList,rfl,i,by simp[Nat.add_comm]⟩
def XM(l b:Addr)(f e:M')(n C:Nat)(D O:Option Addr)(E P:Array (K'))(c:Bool)(k:Nat) :
 ∀i:Nat,f.size-i=k->i<=f.size->i<=e.size->Meets (Builtin.«list.__eq__.loop» ⟨[.ref l,.ref b,rawInt i,rawInt 0],[]⟩)
  (λA R s=>s.heap.get? l=some {cls:=.type "list",dict:=D,data:=.seq f n,slots:=E}/\s.heap.get? b=some {cls:=.type "list",dict:=O,data:=.seq e C,slots:=P} /\
   BE A.in1 s (f.toList.drop i) (e.toList.drop i) c/\R (.ok (.ret (.bool c))) s):=by
 induction k with
 |zero=>
  intro i F G Q q w A R s h;obtain⟨H,g,d,I,J⟩:=s;obtain⟨j,m,a,h⟩:=h;have u:f.toList.drop i=[]:=by simp;lia
  rw[u] at a
  have v:c=decide (f.size<e.size):=by
   generalize o:e.toList.drop i=r at a;have x:=By List.length o;simp only[Qr,Array.length_toList] at x;cases a with|nil=>simp only[GI] at x;exact(DS (by lia)).symm|lt=>simp only[CV] at x;exact(A5 (by lia)).symm
  wp_walk using wpAny_loadPart' j,wpAny_loadPart' m
  have p:f[((i:Nat):Int).toNat]?=none:=by simp;lia
  rw[p]
  wp_walk using wpAny_loadPart' j,wpAny_loadPart' m
  show R (.ok (.ret (.bool (decide (f.size<e.size))))) _;rw[<-v];exact h
 |succ k K=>
  intro i F G Q q w A R s h;obtain⟨H,g,d,I,J⟩:=s;obtain⟨j,m,a,h⟩:=h;have z:i<f.size:=(by lia);have p:f[((i:Nat):Int).toNat]?=some f[i]:=(by simp[z]);have u:f.toList.drop i=f[i]::f.toList.drop (i+1):=(by simp[Ml,z]);rw[u] at a
  wp_walk using wpAny_loadPart' j,wpAny_loadPart' m
  by_cases B:i<e.size;have t:e[((i:Nat):Int).toNat]?=some e[i]:=(by simp[B]);have o:e.toList.drop i=e[i]::e.toList.drop (i+1):=(by simp[Ml,B]);have L:((i:Int)+1)=((i+1:Nat):Int):=by push_cast;rfl
  rw[o] at a;rw[p,t]
  cases a with
  |eq y M=>
   refine Ae (y q w _ _ ?_)
   wp_walk
   rw[L]
   exact⟨plainId_quiet plain_eq_loop _,codeAny_builtin entry_eq_loop (by
    rw[o6 plain_eq_loop _];exact K (i+1) (by lia) (by lia) (by lia) q w A R _ ⟨j,m,M,h⟩)⟩
  |ne y N=>
   refine Ae (y q w _ _ ?_);have S:=N q w
   wp_walk using wpAny_loadPart' j,wpAny_loadPart' m
   rw[p,t]
   wp_walk using S
   exact h
  have t:e[((i:Nat):Int).toNat]?=none:=by simp;lia
  have o:e.toList.drop i=[]:=by simp;lia
  rw[o] at a;have v:c=decide (f.size<e.size):=(by cases a;exact(DS (by lia)).symm);rw[p,t]
  wp_walk using wpAny_loadPart' j,wpAny_loadPart' m
  show R (.ok (.ret (.bool (decide (f.size<e.size))))) _;rw[<-v];exact h
def UE(l b:Addr)(f e:M')(n a:Nat)(i o:Option Addr)(j p:Array (K'))(c:Bool) :
 Meets (Builtin.«list.__lt__» ⟨[.ref l,.ref b],[]⟩)
  (λA R s=>s.heap.get? l=some {cls:=.type "list",dict:=i,data:=.seq f n,slots:=j}/\s.heap.get? b=some {cls:=.type "list",dict:=o,data:=.seq e a,slots:=p} /\
   BE A.in1 s f.toList e.toList c/\R (.ok (.ret (.bool c))) s):=by
 intro r w A R s h;obtain⟨t,g,d,u,v⟩:=s;obtain⟨k,m,q,h⟩:=h;have x:=AutoSeq1.sub_list_list
 wp_walk using wpAny_loadPart' k,wpAny_loadPart' m
 exact⟨plainId_quiet plain_eq_loop _,codeAny_builtin entry_eq_loop (by
  rw[o6 plain_eq_loop _];exact XM l b f e n a i o j p c _ 0 rfl (Dp _) (Dp _) r w A R _ ⟨k,m,by simpa using q,h⟩)⟩
section
variable {A:Around} {s:Shared}
variable {l b:Addr}{f e:M'}{c:Bool}
def BY.tuples(k:IsTup s.heap l f)(m:IsTup s.heap b e)(o:BE A.in1 s f.toList e.toList c)(p:A.units<cLine):BY A s (.ref l) (.ref b) c:=λz w E Q h=>by
 obtain⟨⟨y,q,B,r⟩,a,d,n,hd⟩:=id k;obtain⟨⟨C,u,data2,v⟩,g,i,t,j⟩:=id m;simp only at d hd i j;subst d hd i j
 exact richCompare_meets_room (op:=.Lt) ⟨_,a,rfl⟩ ⟨_,g,rfl⟩ PySem.F.slot_tuple_lt PySem.F.entry_tuple_lt (PySem.F.args_tuple_lt_2 _ _) (XJ l b f e n t q u r v c)
  ⟨a,g,o,show Value.bool c≠Value.notImplemented/\Q (.bool c) s from⟨(λx=>nomatch x),h⟩⟩ p
def BY.lists(k:s.heap.IsList l f)(m:s.heap.IsList b e)(o:BE A.in1 s f.toList e.toList c)(p:A.units<cLine):BY A s (.ref l) (.ref b) c:=λz w E Q h=>by
 obtain⟨⟨y,q,B,r⟩,a,d,n,hd⟩:=id k;obtain⟨⟨C,u,data2,v⟩,g,i,t,j⟩:=id m;simp only at d hd i j;subst d hd i j
 exact richCompare_meets_room (op:=.Lt) ⟨_,a,rfl⟩ ⟨_,g,rfl⟩ PySem.F.slot_list_lt PySem.F.entry_list_lt (PySem.F.args_list_lt_2 _ _) (UE l b f e n t q u r v c)
  ⟨a,g,o,show Value.bool c≠Value.notImplemented/\Q (.bool c) s from⟨(λx=>nomatch x),h⟩⟩ p
def UF{prog:Program}{w:World}{E:D'}{Q:Bool->Shared->Prop}(j:s.heap.IsList l f)(k:s.heap.IsList b e)(m:BE A.in1 s f.toList e.toList c)(o:A.units<cLine)(h:Q c s) :
 wpAny (model prog w) A (oneLt' true (.ref l) (.ref b)) Q E s:=by
 obtain⟨⟨x,p,y,q⟩,a,d,n,hd⟩:=id j;obtain⟨⟨z,t,data2,u⟩,v,g,r,i⟩:=id k;simp only at d hd g i;subst d hd g i;rw[oneLt'_eq];simp only[if_true];refine Ae (wpAny_cRoomFor o ?_);refine Ae (wpAny_callSpecialIfBound?_slot (T:= "list") ⟨_,a,rfl⟩ PySem.F.slot_list_lt (call_meets PySem.F.slot_list_lt ⟨_,a,rfl⟩ PySem.F.entry_list_lt (PySem.F.args_list_lt_2 _ _) (UE l b f e n r p t q u c) ⟨a,v,m,?_⟩));exact FN h
end
def EE (O:KeyOrd):List O.α->List O.α->Bool
 |[],[]=>false
 |[],_::_=>true
 |_::_,[]=>false
 |x::xs,y::ys=>O.blt x y || (!O.blt y x && EE O xs ys)
def Kb(O:KeyOrd)(x y:O.α)(xs ys:List O.α):EE O (x::xs) (y::ys)=(O.blt x y || (!O.blt y x && EE O xs ys)):=rfl
theorem UG(O:KeyOrd):∀xs,EE O xs xs=false
 |[]=>rfl
 |x::xs=>by rw[Kb,O.irrefl,UG O xs];rfl
theorem UH(O:KeyOrd):∀xs ys zs,EE O xs ys=true->EE O ys zs=true->EE O xs zs=true
 |[],[],_,h,_=>by cases h
 |[],_::_,[],_,k=>by cases k
 |[],_::_,_::_,_,_=>rfl
 |_::_,[],_,h,_=>by cases h
 |_::_,_::_,[],_,k=>by cases k
 |x::xs,y::ys,z::zs,a,b=>by
   rw[Kb] at *;simp only[Bool.or_eq_true,Bool.and_eq_true,Bool.not_eq_true'] at a b ⊢;rcases a with a|⟨a,c⟩<;>rcases b with b|⟨b,d⟩;exact .inl (O.trans _ _ _ a b);exact .inl (KeyOrd.klt_of_klt_of_kle a b);exact .inl (KeyOrd.klt_of_kle_of_klt a b);exact .inr ⟨KeyOrd.kle_trans (O:=O) a b,UH O xs ys zs c d⟩
theorem UI(O:KeyOrd):∀xs ys zs,EE O xs zs=true->EE O xs ys=true\/EE O ys zs=true
 |[],[],[],h=>by cases h
 |[],[],_::_,_=>.inr rfl
 |[],_::_,_,_=>.inl rfl
 |_::_,_,[],h=>by cases h
 |_::_,[],_::_,_=>.inr rfl
 | x :: xs,y :: ys,z :: zs,h=>by
   rw[Kb] at *;rw[Kb];simp only[Bool.or_eq_true,Bool.and_eq_true,Bool.not_eq_true'] at h ⊢;rcases h with h|⟨h,k⟩;rcases O.negTrans _ y _ h with h|h;exact .inl (.inl h);exact .inr (.inl h)
   cases b:O.blt x y with
   |true=>exact .inl (.inl rfl)
   |false=>
    cases c:O.blt y z with
    |true=>exact .inr (.inl rfl)
    |false=>have d:O.kle y x:=b;have e:O.kle z y:=c;have a:O.kle x z:=h;have f:O.blt y x=false:=KeyOrd.kle_trans (O:=O) a e;have g:O.blt z y=false:=KeyOrd.kle_trans (O:=O) d a;rcases UI O xs ys zs k with k|k;exact .inl (.inr ⟨f,k⟩);exact .inr (.inr ⟨g,k⟩)
theorem UJ(O:KeyOrd):∀xs ys,EE O xs ys=false->EE O ys xs=false->xs=ys
 |[],[],_,_=>rfl
 |[],_::_,h,_=>by cases h
 |_::_,[],_,k=>by cases k
 |x::xs,y::ys,a,b=>by rw[Kb] at a b;simp only[Bool.or_eq_false_iff,Bool.and_eq_false_iff,Bool.not_eq_false'] at a b;have c:x=y:=O.total _ _ a.1 b.1;have d:xs=ys:=UJ O xs ys (by rcases a.2 with z|z;exact absurd (b.1.symm.trans z) (by simp);exact z) (by rcases b.2 with z|z;exact absurd (a.1.symm.trans z) (by simp);exact z);rw[c,d]
@[reducible] def NL (O:KeyOrd):KeyOrd where
 α:=List O.α
 blt:=EE O
 irrefl:=UG O
 trans:=UH O
 negTrans:=UI O
 total:=UJ O
def MI{P:KeyOrd}(x y:(Ec O P).α)(e:x.1=y.1):(Ec O P).blt x y=P.blt x.2 y.2:=by show(O.blt x.1 y.1 || (!O.blt y.1 x.1 && P.blt x.2 y.2))=_;rw[e,O.irrefl];rfl
def MJ{P:KeyOrd}(x y:(Ec O P).α)(e:x.1≠y.1):(Ec O P).blt x y=O.blt x.1 y.1:=by
 show(O.blt x.1 y.1 || (!O.blt y.1 x.1 && P.blt x.2 y.2))=_
 cases a:O.blt x.1 y.1 with
 |true=>rfl
 |false=>
  cases b:O.blt y.1 x.1 with|true=>rfl|false=>exact absurd (O.total _ _ a b) e
def XN(x:O.α)(xs ys:List O.α):EE O (x::xs) (x::ys)=EE O xs ys:=by rw[Kb,O.irrefl];rfl
def XO{x y:O.α}(xs ys:List O.α)(e:x≠y):EE O (x::xs) (y::ys)=O.blt x y:=by
 rw[Kb]
 cases a:O.blt x y with
 |true=>rfl
 |false=>
  cases b:O.blt y x with|true=>rfl|false=>exact absurd (O.total _ _ a b) e
mutual
theorem Dz.mono {n m:Nat}{d e:Dt} (c:Dz n d e) (h:n<=m):Dz m d e:=by
 cases c with
 | non=>exact .non
 | bl a b=>exact .bl a b
 | int a b=>exact .int a b
 | str a b=>exact .str a b
 | tup t=>cases m with
   | zero=>exact absurd h (Nat.not_succ_le_zero _)
   | succ m=>exact .tup (Bo.mono t (Nat.le_of_succ_le_succ h))
 | lst t=>cases m with
   | zero=>exact absurd h (Nat.not_succ_le_zero _)
   | succ m=>exact .lst (Bo.mono t (Nat.le_of_succ_le_succ h))
 | apart a=>cases m with
   | zero=>exact absurd h (Nat.not_succ_le_zero _)
   | succ m=>exact .apart a
theorem Bo.mono {n m:Nat}{a es:List Dt} (c:Bo n a es) (h:n<=m):Bo m a es:=by
 cases c with| nil=>exact .nil _| nil'=>exact .nil' _| cons c t=>exact .cons (Dz.mono c h) (Bo.mono t h)
end
structure Enc where
 O:KeyOrd
 D:O.α->Dt
 dflt:O.α
 dep:Nat
 cmp:∀a b,Dz dep (D a) (D b)
 inj:∀a b,D a=D b->a=b
 lt:∀{X:Cx}{pins:B'}{σ:St}{H:Hp}{s:Shared},Inv X pins σ H s->∀{a b:O.α}{v u:V}{x y:Value}{A:Around},Ao X.K H v (D a)->Ao X.K H u (D b)->RelV v x->RelV u y->A.units+dep<cLine->BY A s x y (O.blt a b)
section
variable {X:Cx} {pins:B'} {σ:St} {H:Hp} {s:Shared}
def Enc.eq(c:Enc)(I:Inv X pins σ H s){a b:c.O.α}{u:V}{x y:Value}{A:Around}(hv:Ao X.K H v (c.D a))(d:Ao X.K H u (c.D b))(e:RelV v x)(f:RelV u y)(g:A.units+c.dep<cLine):EqAt A s x y (dec (a=b)):=by
 have:=Ur (A:=A) I (c.cmp a b) hv d e f g
 rwa [MF (p:=c.D a=c.D b) (q:=a=b) ⟨c.inj a b,λz=>by rw[z]⟩] at this
def Enc.lex(c:Enc)(I:Inv X pins σ H s){a b:c.O.α}{u:V}{x y:Value}{A:Around}{vs ws:F'}{e f:Bool}(hv:Ao X.K H v (c.D a))(h:Ao X.K H u (c.D b))(i:RelV v x)(j:RelV u y)(k:A.units+c.dep<cLine)(l:a=b->BE A s vs ws e/\f=e)(m:a≠b->f=c.O.blt a b):BE A s (x::vs) (y::ws) f:=by have d:=c.eq (A:=A) I hv h i j k;by_cases g:a=b;rw[Fm g] at d;obtain⟨t,rfl⟩:=l g;exact .eq d t;rw[FR g] at d;rw[m g];exact .ne d (c.lt I hv h i j k)
end
@[reducible] def FA:Enc where
 O:=NH
 D:=Dt.int
 dflt:=(0:Int)
 dep:=0
 cmp a b:=.int a b
 inj a b h:=Dt.int.inj h
 lt {X pins σ H s} I {a b v u x y A} hv hu rx ry _:=by cases hv;cases hu;obtain⟨t,rfl⟩:=rx;obtain⟨t',rfl⟩:=ry;exact λprog w E Q h=>(PySem.P.lt_int h:wpAny (model prog w) _ (compareOp .Lt _ _) Q E _)
@[reducible] def RX:Enc where
 O:=Hf
 D:=Dt.str
 dflt:=(default:Str)
 dep:=0
 cmp a b:=.str a b
 inj a b h:=Dt.str.inj h
 lt {X pins σ H s} I {a b v u x y A} hv hu rx ry _:=by cases hv;cases hu;obtain⟨t,rfl⟩:=rx;obtain⟨t',rfl⟩:=ry;exact λprog w E Q h=>(PySem.P.lt_str h:wpAny (model prog w) _ (compareOp .Lt _ _) Q E _)
section
variable {X:Cx} {pins:B'} {σ:St} {H:Hp} {s:Shared}
def Enc.lexL(c:Enc)(I:Inv X pins σ H s){A:Around}(j:A.units+c.dep<cLine):∀{as bs:List c.O.α}{vs us:S'}{xs ys:F'},Ak X.K H vs (as.map c.D)->Ak X.K H us (bs.map c.D)->Aw vs xs->Aw us ys->BE A s xs ys (EE c.O as bs):=by
 intro as
 induction as with
 |nil=>
  intro bs vs us xs ys g d i f;cases g;cases i;cases bs with|nil=>cases d;cases f;exact .nil|cons b bs=>cases d;cases f;exact .lt _ _
 |cons a as k=>
  intro bs vs us xs ys g d i f
  cases g with
  |cons h t=>cases i with
    |cons r q=>cases bs with
      |nil=>cases d;cases f;exact .gt _ _
      |cons b bs=>cases d with
        |cons l m=>cases f with
          |cons n o=>exact c.lex I h l r n j (λe=>⟨k t m q o,by subst e;exact XN a as bs⟩) (λe=>XO as bs e)
end
theorem UK(c:Enc):∀{a b:List c.O.α},a.map c.D=b.map c.D->a=b
 |[],[],_=>rfl
 |[],_::_,h=>by cases h
 |_::_,[],h=>by cases h
 |x::a,y::b,h=>by rw[Do,Do] at h;injection h with d e;rw[c.inj x y d,UK c e]
@[reducible] def Ee (c:Enc):Enc where
 O:=NL c.O
 D l:=Dt.lst (l.map c.D)
 dflt:=([]:List c.O.α)
 dep:=c.dep+1
 cmp a b:=.lst (Bo.of λd hd e he=>by
  obtain⟨x,_,rfl⟩:=AN.mp hd;obtain⟨y,_,rfl⟩:=AN.mp he;exact c.cmp x y)
 inj a b h:=UK c (Dt.lst.inj h)
 lt {X pins σ H s} I {a b v u x y A} hv hu rx ry hA:=by
  cases hv with
  |lst h t=>
   cases hu with|lst h' t'=>cases rx;cases ry;obtain⟨its,r,p,_⟩:=I.list h;obtain⟨its',r',R,_⟩:=I.list h';exact BY.lists p.isList R.isList (c.lexL (A:=A.in1) I (by rw[Hd];lia) t t' r r') (by lia)
def Lu{K:Aj}{d e:Dt}(h:Ak K H vs [d,e]):∃a b,vs=[a,b]/\Ao K H a d/\Ao K H b e:=by
 cases h with
 |cons c t=>cases t with
   |cons f t=>cases t;exact⟨_,_,rfl,c,f⟩
def NM{K:Aj}{d e f:Dt}(h:Ak K H vs [d,e,f]):∃a b c,vs=[a,b,c]/\Ao K H a d/\Ao K H b e/\Ao K H c f:=by
 cases h with|cons g t=>obtain⟨a,b,rfl,i,j⟩:=Lu t;exact⟨_,_,_,rfl,g,i,j⟩
def Hm{x y z:V}{us:F'}(r:Aw [x,y,z] us):∃u w v,us=[u,w,v]/\RelV x u/\RelV y w/\RelV z v:=by
 cases r with|cons c d=>obtain⟨a,b,rfl,e,f⟩:=K3 d;exact⟨_,_,_,rfl,c,e,f⟩
@[reducible] def Lv (c d:Enc):Enc where
 O:=Ec c.O d.O
 D p:=Dt.tup [c.D p.1,d.D p.2]
 dflt:=(c.dflt,d.dflt)
 dep:=max c.dep d.dep+1
 cmp a b:=.tup (.cons ((c.cmp a.1 b.1).mono (Nat.le_max_left _ _)) (.cons ((d.cmp a.2 b.2).mono (Nat.le_max_right _ _)) (.nil _)))
 inj a b h:=by injection h with h;injection h with h1 h2;injection h2 with h2 _;exact Prod.ext (c.inj _ _ h1) (d.inj _ _ h2)
 lt {X pins σ H s} I {a b v u x y A} hv hu rx ry hA:=by
  have m1:=Nat.le_max_left c.dep d.dep;have m2:=Nat.le_max_right c.dep d.dep
  cases hv with
  |tup h t=>
   cases hu with|tup h' t'=>cases rx;cases ry;obtain⟨its,r,p,_⟩:=I.tuple h;obtain⟨its',r',R,_⟩:=I.tuple h';obtain⟨v1,v2,rfl,t1,t2⟩:=Lu t;obtain⟨u1,u2,rfl,s1,s2⟩:=Lu t';obtain⟨x1,x2,rfl,r1,r2⟩:=K3 r;obtain⟨y1,y2,rfl,q1,q2⟩:=K3 r';refine BY.tuples p R (c.lex (A:=A.in1) I t1 s1 r1 q1 (by rw[Hd];lia) (λe=>⟨d.lex (A:=A.in1) I t2 s2 r2 q2 (by rw[Hd];lia) (λe'=>⟨.nil,?_⟩) λe'=>rfl,MI a b e⟩) λe=>MJ a b e) (by lia);rw[e',d.O.irrefl]
@[reducible] def Kc (c d e:Enc):Enc where
 O:=Ec c.O (Ec d.O e.O)
 D p:=Dt.tup [c.D p.1,d.D p.2.1,e.D p.2.2]
 dflt:=(c.dflt,d.dflt,e.dflt)
 dep:=max c.dep (max d.dep e.dep)+1
 cmp a b:=.tup (.cons ((c.cmp a.1 b.1).mono (Nat.le_max_left _ _)) (.cons ((d.cmp a.2.1 b.2.1).mono (by lia)) (.cons ((e.cmp a.2.2 b.2.2).mono (by lia)) (.nil _))))
 inj a b h:=by injection h with h;injection h with h1 h2;injection h2 with h2 h3;injection h3 with h3 _;exact Prod.ext (c.inj _ _ h1) (Prod.ext (d.inj _ _ h2) (e.inj _ _ h3))
 lt {X pins σ H s} I {a b v u x y A} hv hu rx ry hA:=by
  have m1:=Nat.le_max_left c.dep (max d.dep e.dep);have m2:=Nat.le_max_right c.dep (max d.dep e.dep);have m3:=Nat.le_max_left d.dep e.dep;have m4:=Nat.le_max_right d.dep e.dep
  cases hv with
  |tup h t=>
   cases hu with|tup h' t'=>cases rx;cases ry;obtain⟨its,r,p,_⟩:=I.tuple h;obtain⟨its',r',R,_⟩:=I.tuple h';obtain⟨v1,v2,v3,rfl,t1,t2,t3⟩:=NM t;obtain⟨u1,u2,u3,rfl,s1,s2,s3⟩:=NM t';obtain⟨x1,x2,x3,rfl,r1,r2,r3⟩:=Hm r;obtain⟨y1,y2,y3,rfl,q1,q2,q3⟩:=Hm r';refine BY.tuples p R (c.lex (A:=A.in1) I t1 s1 r1 q1 (by rw[Hd];lia) (λg=>⟨d.lex (A:=A.in1) I t2 s2 r2 q2 (by rw[Hd];lia) (λg'=>⟨e.lex (A:=A.in1) I t3 s3 r3 q3 (by rw[Hd];lia) (λg''=>⟨.nil,?_⟩) λζ=>rfl,MI a.2 b.2 g'⟩) λg'=>MJ a.2 b.2 g',MI a b g⟩) λg=>MJ a b g) (by lia);rw[g'',e.O.irrefl]
section
variable {X:Cx}
abbrev DB (c:Enc):Type:=V×c.O.α
def Pa (X:Cx) (c:Enc):S'->Hp->VK->Prop:=λvs H Q=>∃(l:Addr)(zs:List (DB c)),vs=[.ref l]/\Ai X.K H l (zs.map (·.1))/\zs.length<64 /\
 (∀z∈zs,Ao X.K H z.1 (c.D z.2))/\∀(D:Addr)(zs':List (DB c)),zs'.Perm zs->(zs'.map (·.2)).Pairwise c.O.kle->H D=none->Q (.ref D) (upd H D (.lst (zs'.map (·.1))))
theorem RY(c:Enc)(κ:SortKind)
 (aj:∀(pins:B')(σ:St)(H:Hp)(s:Shared)(zs:List (DB c))(g:F')(Q:SortKind->Shared->Prop),Inv X pins σ H s->Aw (zs.map (·.1)) g->(∀z∈zs,Ao X.K H z.1 (c.D z.2))->2<=g.length->Q κ s->wpAny (model X.prog X.w) X.A.in1.in1 (keyKind' g.toArray) Q (λζ ζ=>False) s)
 (ai:∀(pins:B')(σ:St)(H:Hp)(s:Shared)(z m:DB c)(x y:Value)(C:Bool->Shared->Prop),Inv X pins σ H s->Ao X.K H z.1 (c.D z.2)->Ao X.K H m.1 (c.D m.2)->RelV z.1 x->RelV m.1 y->C (c.O.blt z.2 m.2) s->wpAny (model X.prog X.w) X.A.in1.in1 (keyLt' κ x y) C (λζ ζ=>False) s) :
 Br X (.builtin "sorted") (Pa X c):=by
 intro pins s σ H vs us Q I r h;obtain⟨l,zs,rfl,L,an,v,q⟩:=h;obtain⟨u,rfl,M⟩:=F9 r;obtain rfl:u=Value.ref l:=M;obtain⟨g,p,N,_⟩:=I.list L;have J:zs.length=g.length:=by have:=p.length;rwa [An] at this
 let b:DB c:=(V.non,c.dflt)
 have t:∀i,i<zs.length->RelV (zs.getD i b).1 (g.getD i Value.none)/\Ao X.K H (zs.getD i b).1 (c.D (zs.getD i b).2):=λi d=>by
  have:=Xz p i V.non Value.none (by rw[An];exact d);have e:(zs.map (·.1)).getD i V.non=(zs.getD i b).1:=(by rw[Dv,Bf,Dv,AM d];rfl);rw[e] at this;refine⟨this,v _ ?_⟩;rw[Dv,AM d];exact Eo d
 refine Xy (O:=c.O) (key:=λi=>(zs.getD i b).2) (κ:=κ) (vs:=g) N.isList (by lia) (λo w k P R=>?_) (λw k i j C d hj S=>?_) λD w n f Y A G ae T=>?_;exact aj pins σ H _ zs g P (I.kept (t':=s.toks) k) p v o R;obtain⟨U,W⟩:=t i (by lia);obtain⟨Z,b2⟩:=t j (by lia);unfold PySem.W.kas_ask;exact ai pins σ H _ _ _ _ _ C (I.kept (t':=s.toks) k) W b2 U Z S
 have af:∀i∈f,i<zs.length:=λi d=>by
  have:=G.mem_iff.mp d;rw[J];simpa using this
 have ak:(List.range zs.length).map (λi=>zs.getD i b)=zs:=(by apply n9;intro k;by_cases B:k<zs.length;simp[B,Dv];simp[B])
 have K:(f.map λi=>zs.getD i b).Perm zs:=by
  have:=G.map (λi=>zs.getD i b)
  rwa [<-J,ak] at this
 have hv:Aw ((f.map λi=>zs.getD i b).map (·.1)) (f.map λi=>g.getD i Value.none):=(by rw[D1];exact Uy f λi d=>(t i (af i d)).1)
 have ag:((f.map λi=>zs.getD i b).map (·.2)).Pairwise c.O.kle:=by
  refine Ux (λζ ζ ζ=>KeyOrd.kle_trans) _ λi a al E o=>?_;rw[D1,Bf,E5] at E o;obtain⟨x,e1,rfl⟩:=E;obtain⟨y,F,rfl⟩:=o;obtain⟨ah,_⟩:=Bi.mp F;have:=ae i ah;have aa:f.getD i 0=x:=by rw[Dv,e1];rfl
  have ab:f.getD (i+1) 0=y:=by rw[Dv,F];rfl
  rw[aa,ab] at this;exact this
 exact⟨.ref D,upd H D (.lst ((f.map λi=>zs.getD i b).map (·.1))),I.laidN (t':=s.toks) Y A ⟨by rw[An,K.length_eq];exact CT (BX (by lia)),_,n,hv,T⟩,rfl,q D _ K ag (I.freshN A)⟩
def R1{pins:B'}{s:Shared}{M:Model}(I:Inv X pins σ H s){a:List Dt}{x:Value}(h:Ao X.K H v (.lst a))(r:RelV v x):PySem.W.Looks M s.heap (typeOf x) (.type "list"):=by
 cases h with|lst h t=>cases r;obtain⟨d,_,p,_⟩:=I.list h;obtain⟨o,b,c,_⟩:=p.isList;rw[<-c];exact(PySem.W.Looks.ld b).andThen .now
def XQ(c:Enc)(G:X.A.units+64<cLine)(hd:c.dep<=50):Br X (.builtin "sorted") (Pa X (Ee c)):=by
 refine RY (Ee c) oneType' (λF σ H s f D Q I b g j k=>?_) λF σ H s z l x y C I h a r m n=>?_;refine PySem.W.kas_kind (T:=.type "list") j (λv o=>?_) (by decide) (by decide) k;obtain⟨i,d⟩:=List.getElem?_of_mem o;have J:=(Bi.mp d).1;have q:=b.length;rw[An] at q;obtain⟨x,e,w⟩:=b.get (i:=i) (x:=(f[i]'(by lia)).1) (by rw[Bf,AM (by lia)];rfl);rw[d] at e;cases e;exact R1 I (g _ (Eo (by lia))) w;rw[keyLt'_oneType];obtain⟨v,as⟩:=z;obtain⟨u,bs⟩:=l
 cases h with
 |lst h t=>
  cases a with|lst a A=>cases r;cases m;obtain⟨D,B,p,_⟩:=I.list h;obtain⟨K,E,R,_⟩:=I.list a;exact UF p.isList R.isList (c.lexL I (by show _+1+1+1+_<_;lia) t A B E) (by show _+1+1<_;lia) n
theorem R3(c:Enc){pins:B'}{σ:St}{H:Hp}{s:Shared}(I:Inv X pins σ H s){g:c.O.α->List Dt}:∀{zs:List (V×c.O.α)}{f:F'}{k:c.O.α->List Dt},Aw (zs.map (·.1)) f->(∀z∈zs,∃b,k z.2=Dt.lst b::g z.2/\Ao X.K H z.1 (.tup (k z.2))) ->
 ∃fs,PySem.W.KatTups s.heap f fs/\fs.length=zs.length/\∀v∈fs,∃(u:V)(b:List Dt),Ao X.K H u (.lst b)/\RelV u v
 |[],_,_,.nil,_=>⟨[],.nil,rfl,λζ x=>by cases x⟩
 | z :: zs,_,k,.cons r i,h=>by
   obtain⟨fs,j,l,m⟩:=R3 c I (zs:=zs) i λy p=>h y (Du _ p);obtain⟨b,e,hd⟩:=h z BS;rw[e] at hd;obtain⟨v,a⟩:=z;dsimp only at r hd
   cases hd with
   | tup q t=>
    cases r;obtain⟨f,A,⟨o,B,C,n,D⟩,_⟩:=I.tuple q
    cases t with
    |cons E G=>
     cases A with
     |cons F J=>refine⟨_::fs,.cons B C D rfl j,by simp[l],λw d=>?_⟩;rcases BB.mp d with e|d;exact⟨_,b,E,e▸F⟩;exact m w d
def R6{A:Around}{s:Shared}{prog:Program}{w:World}{E:D'}{x y:Value}{b:Bool}{Q:Bool->Shared->Prop}(h:BY A s x y b)(q:Q b s):wpAny (model prog w) A (oneLt' false x y) Q E s:=
 PySem.W.kat_one _ _ (h prog w E _ q)
def Ho(c:Enc){pins:B'}{s:Shared}(I:Inv X pins σ H s){A:Around}{as bs:List c.O.α}{u:V}{x y:Value}{prog:Program}{w:World}{E:D'}{Q:Bool->Shared->Prop}(h:Ao X.K H v ((Ee c).D as))(h':Ao X.K H u ((Ee c).D bs))(r:RelV v x)(a:RelV u y)(f:A.units+(c.dep+1)<cLine)(q:Q (EE c.O as bs) s):wpAny (model prog w) A (oneLt' true x y) Q E s:=by
 cases h with
 |lst h t=>
  cases h' with|lst h' b=>cases r;cases a;obtain⟨g,d,p,_⟩:=I.list h;obtain⟨i,e,R,_⟩:=I.list h';exact UF p.isList R.isList (c.lexL I (by rw[Hd];lia) t b d e) (by lia) q
def XR (c d:Enc) (hu:X.A.units + 64 < cLine) (h1:c.dep<=50) (h2:d.dep<=50):Br X (.builtin "sorted") (Pa X (Lv (Ee c) d)):=by
 refine RY (Lv (Ee c) d) (tuples' true) (λah σ H s zs Z ai I o M hl N=>?_) λah σ H s z O x aj C I h w r y a=>?_;obtain⟨fs,P,k2,Q⟩:=R3 (Lv (Ee c) d) I (k:=λp=>[(Ee c).D p.1,d.D p.2]) (g:=λp=>[d.D p.2]) o λz aa=>⟨_,rfl,M z aa⟩;have ab:=o.length;rw[An] at ab;refine PySem.W.kat_kind (T:=.type "list") P (by lia) (λv R=>?_) (by decide) N;obtain⟨u,ds,S,U⟩:=Q v R;exact R1 I S U;obtain⟨v,p⟩:=z;obtain⟨u,q⟩:=O;dsimp only at h w r y;change C ((Lv (Ee c) d).O.blt p q) s at a;have j:X.A.in1.in1.units=X.A.units+1+1:=rfl
 cases h with
 | tup V t=>
  cases w with
  | tup ae b=>
   cases r;cases y;obtain⟨Z,e,⟨ox,af,_,n,W⟩,_⟩:=I.tuple V;obtain⟨ak,f,⟨oy,ag,_,m,Y⟩,_⟩:=I.tuple ae
   cases t with
   | cons B t=>cases t with
     | cons D t=>cases t; cases b with
       | cons E b=>cases b with
         | cons F b=>cases b; cases e with
           |cons G e=>cases e with
             |cons J e=>cases e; cases f with
               |cons K f=>cases f with
                 |cons L f=>
                  cases f;refine PySem.W.kat_lt af W ag Y (PySem.W.kat_cons ((Ee c).eq (A:=X.A.in1.in1) I B E G K (by rw[j];show _+(c.dep+1)<_;lia) _ _ _ _ ?_));by_cases i:p.1=q.1;rw[Fm i];rw[show(Lv (Ee c) d).O.blt p q=d.O.blt p.2 q.2 from MI p q i] at a;refine PySem.W.kat_yes (PySem.W.kat_cons (d.eq (A:=X.A.in1.in1) I D F J L (by rw[j];lia) _ _ _ _ ?_));by_cases l:p.2=q.2;rw[Fm l];refine PySem.W.kat_yes (PySem.W.kat_nil ?_);rw[l,d.O.irrefl] at a;exact a;rw[FR l];exact PySem.W.kat_no (R6 (d.lt I D F J L (by rw[j];lia)) a);rw[FR i];rw[show(Lv (Ee c) d).O.blt p q=EE c.O p.1 q.1 from MJ p q i] at a;exact PySem.W.kat_no (Ho c I B E G K (by rw[j];lia) a)
def XS (c d e:Enc) (hu:X.A.units + 64 < cLine) (h1:c.dep<=50) (h2:d.dep<=50) (h3:e.dep<=50):Br X (.builtin "sorted") (Pa X (Kc (Ee c) d e)):=by
 refine RY (Kc (Ee c) d e) (tuples' true) (λai σ H s zs aa aj I y S hl U=>?_) λai σ H s z V x ak C I h B r D a=>?_;obtain⟨fs,W,k2,Y⟩:=R3 (Kc (Ee c) d e) I (k:=λp=>[(Ee c).D p.1,d.D p.2.1,e.D p.2.2]) (g:=λp=>[d.D p.2.1,e.D p.2.2]) y λz ab=>⟨_,rfl,S z ab⟩;have ae:=y.length;rw[An] at ae;refine PySem.W.kat_kind (T:=.type "list") W (by lia) (λv Z=>?_) (by decide) U;obtain⟨u,ds,a1,a2⟩:=Y v Z;exact R1 I a1 a2;obtain⟨v,p⟩:=z;obtain⟨u,q⟩:=V;dsimp only at h B r D;change C ((Kc (Ee c) d e).O.blt p q) s at a;have j:X.A.in1.in1.units=X.A.units+1+1:=rfl
 cases h with
 | tup hs t=>
  cases B with
  | tup af b=>
   cases r;cases D;obtain⟨aa,f,⟨ox,ag,_,n,dx⟩,_⟩:=I.tuple hs;obtain⟨al,i,⟨oy,ah,_,m,dy⟩,_⟩:=I.tuple af
   cases t with
   | cons E t=>cases t with
     | cons F t=>cases t with
       | cons G t=>cases t; cases b with
         | cons J b=>cases b with
           | cons K b=>cases b with
             | cons L b=>cases b; cases f with
               | cons M f=>cases f with
                 | cons N f=>cases f with
                   |cons O f=>cases f; cases i with
                     |cons P i=>cases i with
                       |cons Q i=>cases i with
                         |cons R i=>
                          cases i;refine PySem.W.kat_lt ag dx ah dy (PySem.W.kat_cons ((Ee c).eq (A:=X.A.in1.in1) I E J M P (by rw[j];show _+(c.dep+1)<_;lia) _ _ _ _ ?_));by_cases l:p.1=q.1;rw[Fm l];rw[show(Kc (Ee c) d e).O.blt p q=(Ec d.O e.O).blt p.2 q.2 from MI p q l] at a;refine PySem.W.kat_yes (PySem.W.kat_cons (d.eq (A:=X.A.in1.in1) I F K N Q (by rw[j];lia) _ _ _ _ ?_));by_cases o:p.2.1=q.2.1;rw[Fm o];rw[show(Ec d.O e.O).blt p.2 q.2=e.O.blt p.2.2 q.2.2 from MI p.2 q.2 o] at a;refine PySem.W.kat_yes (PySem.W.kat_cons (e.eq (A:=X.A.in1.in1) I G L O R (by rw[j];lia) _ _ _ _ ?_));by_cases w:p.2.2=q.2.2;rw[Fm w];refine PySem.W.kat_yes (PySem.W.kat_nil ?_);rw[w,e.O.irrefl] at a;exact a;rw[FR w];exact PySem.W.kat_no (R6 (e.lt I G L O R (by rw[j];lia)) a);rw[FR o];rw[show(Ec d.O e.O).blt p.2 q.2=d.O.blt p.2.1 q.2.1 from MJ p.2 q.2 o] at a;exact PySem.W.kat_no (R6 (d.lt I F K N Q (by rw[j];lia)) a);rw[FR l];rw[show(Kc (Ee c) d e).O.blt p q=EE c.O p.1 q.1 from MJ p q l] at a;exact PySem.W.kat_no (Ho c I E J M P (by rw[j];lia) a)
end
def EK:J'->Str->L'
 |[],_=>none
 |(y,n)::r,x=>if y=x then some n else EK r x
def DW:L'->V
 |some n=>.int n
 |none=>.non
theorem Hq:∀{gs:J'}{i:Nat}{p:Str×Int}{x:Str},gs[i]?=some p->p.1=x->(∀q∈gs.take i,q.1≠x)->EK gs x=some p.2
 |[],_,_,_,h,_,_=>by simp at h
 |q::r,0,p,x,h,e,_=>by simp at h;subst h;obtain⟨y,n⟩:=q;exact Ap e
 |q::r,i+1,p,x,h,e,k=>by obtain⟨y,n⟩:=q;have a:y≠x:=k (y,n) (by simp);show(if y=x then some n else EK r x)=_;rw[Ag a];exact Hq (i:=i) (by simpa using h) e λq b=>k q (by simp[b])
theorem UL:∀{gs:J'}{x:Str},(∀q∈gs,q.1≠x)->EK gs x=none
 |[],_,_=>rfl
 |(y,n)::r,x,k=>by show(if y=x then some n else EK r x)=_;rw[Ag (k (y,n) (by simp))];exact UL λq a=>k q (by simp[a])
theorem UM:∀{gs:J'}{x:Str}{n:Int},EK gs x=some n->(x,n)∈gs
 |[],_,_,h=>by cases h
 |(y,m)::r,x,n,h=>by
   have h':(if y=x then some m else EK r x)=some n:=h;by_cases e:y=x;rw[Ap e] at h';rw[<-e,<-BU h'];exact BS;rw[Ag e] at h';exact Du _ (UM h')
abbrev Au:Type:=Int×Str×Int
abbrev Gw (m:Au):S':=[.int m.1,.str m.2.1,.int m.2.2]
abbrev AO:Type:=List Au×Int×Int
structure Wd where
 ss:List BC
 gs:J'
 as:List (C')
 sts:List DU
abbrev Gn:Type:=Au×(Str×Int)×Int
def FC (W:Wd) (sc:Int) (go:J') (p:CF) (i:Nat):List Gn:=match EK go p.1 with
 |some a=>[((sc,j0,(i:Int)),EC W.gs W.as p,a)]
 |none=>[]
def EL (W:Wd) (sc:Int) (go:J'):List CF->Nat->List Gn
 |[],_=>[]
 |p::r,i=>FC W sc go p i++EL W sc go r (i+1)
def B2 (W:Wd) (sc:Int):List CF:=match W.ss[sc.toNat]? with
 |some s=>s.1
 |none=>[]
def D8 (W:Wd) (st:Int):J':=match W.sts[st.toNat]? with
 |some s=>s.1
 |none=>[]
def Gx (W:Wd) (sc st:Int):List Gn:=EL W sc (D8 W st) (B2 W sc) 0
theorem UN(W:Wd)(a:Int)(go:J')(p:CF):∀(l:List CF)(i:Nat),EL W a go (l++[p]) i=EL W a go l i++FC W a go p (i+l.length)
 |[],i=>by simp[EL]
 |q::l,i=>by show FC W a go q i++EL W a go (l++[p]) (i+1)=(FC W a go q i++EL W a go l (i+1))++_;rw[UN W a go p l (i+1),Fv,CV,show i+1+l.length=i+(l.length+1) by lia]
variable {W:Wd}{sc:Int}{r:Gn}
def EM{go:J'}{p:CF}:r∈FC W sc go p i↔∃a,EK go p.1=some a/\r=((sc,j0,(i:Int)),EC W.gs W.as p,a):=by
 unfold FC;cases e:EK go p.1 with|none=>simp|some a=>simp
theorem B3{W:Wd}{sc:Int}{go:J'}{r:Gn}:∀{l:List CF}{i:Nat},r∈EL W sc go l i↔∃(j:Nat)(p:CF)(a:Int),l[j]?=some p/\EK go p.1=some a/\r=((sc,j0,((i+j:Nat):Int)),EC W.gs W.as p,a)
 |[],i=>by simp[EL]
 | q :: l,i=>by
   show r∈FC W sc go q i++EL W sc go l (i+1)↔_;rw[BI,EM,B3 (l:=l) (i:=i+1)];constructor;rintro(⟨a,b,c⟩|⟨j,p,a,b,c,d⟩);exact⟨0,q,a,rfl,b,by rw[c];rfl⟩;exact⟨j+1,p,a,by simpa using b,c,by rw[d,show i+1+j=i+(j+1) by lia]⟩;rintro⟨j,p,a,b,c,d⟩;cases j with|zero=>simp at b;subst b;exact .inl ⟨a,c,by rw[d];rfl⟩|succ j=>exact .inr ⟨j,p,a,by simpa using b,c,by rw[d,show i+1+j=i+(j+1) by lia]⟩
theorem UO(W:Wd)(sc:Int)(go:J'):∀(l:List CF)(i:Nat),(EL W sc go l i).Pairwise (λr b=>r.1≠b.1)
 |[],i=>List.Pairwise.nil
 |q::l,i=>by show(FC W sc go q i++EL W sc go l (i+1)).Pairwise _;refine List.pairwise_append.mpr ⟨?_,UO W sc go l (i+1),λr c b d e=>?_⟩;unfold FC;split;exact List.pairwise_singleton _ _;exact List.Pairwise.nil;obtain⟨a,_,rfl⟩:=EM.mp c;obtain⟨j,p,f,_,_,rfl⟩:=B3.mp d;have:=By (λm:Au=>m.2.2) e;simp only at this;lia
theorem MK(W:Wd)(sc:Int)(go:J'):∀(l:List CF)(i:Nat),(EL W sc go l i).length<=l.length
 |[],i=>AK _
 |q::l,i=>by
   show(FC W sc go q i++EL W sc go l (i+1)).length<=_;have a:(FC W sc go q i).length<=1:=by unfold FC;split<;>simp
   have b:=MK W sc go l (i+1);rw[AY,CV];lia
def XT{go:J'}{l:List CF}{b:Gn}(h:r∈EL W sc go l i)(h':b∈EL W sc go l i)(e:r.1=b.1):r=b:=by obtain⟨j,p,a,f,g,rfl⟩:=B3.mp h;obtain⟨k,R,o,c,d,rfl⟩:=B3.mp h';have:=By (λm:Au=>m.2.2) e;simp only at this;have n:j=k:=(by lia);subst n;rw[f] at c;cases c;rw[g] at d;cases d;rfl
def AW (b:AO):E':=b.1.map (·.1)++[b.2.1]
def kid (b:AO) (r:Gn):Option AO:=if r.2.1.1=i3/\r.2.1.2∉AW b then some (b.1++[r.1],r.2.1.2,r.2.2) else none
def DC (W:Wd) (b:AO):List AO:=(Gx W b.2.1 b.2.2).filterMap (kid b)
variable {b:AO}
set_option tactic.hygienic true in
def BK{c:AO}:c∈DC W b↔∃r∈Gx W b.2.1 b.2.2,r.2.1.1=i3/\r.2.1.2∉AW b/\c=(b.1++[r.1],r.2.1.2,r.2.2):=by unfold DC kid;rw[List.mem_filterMap];constructor;rintro⟨r,a,e⟩;split at e;rename_i h;exact⟨r,a,h.1,h.2,(BU e).symm⟩;cases e;rintro⟨r,a,d,f,e⟩;exact⟨r,a,by rw[Ap ⟨d,f⟩,e]⟩
def XU(W:Wd)(b:AO):(DC W b).length<=(B2 W b.2.1).length:=Ea (List.length_filterMap_le _ _) (MK _ _ _ _ _)
def IW(W:Wd)(b:AO):(DC W b).Nodup:=by refine List.Pairwise.filterMap (kid b) (λr g f c a h d e=>?_) (UO W b.2.1 (D8 W b.2.2) (B2 W b.2.1) 0);unfold kid at a d;split at a;split at d;cases a;cases d;have:=By Prod.fst e;simp only at this;have:=(List.append_inj' this rfl).2;exact f (by simpa using this);cases d;cases a
inductive B4 (W:Wd) (sc st:Int):AO->Prop where
 |root:B4 W sc st ([],sc,st)
 |kid {b c:AO} (h:B4 W sc st b) (k:c∈DC W b):B4 W sc st c
structure Cj (W:Wd):Prop where
 s5:W.ss.length<=100
 st:∀s∈W.ss,s.1.length<=8
 kst:∀s∈W.ss,∀p∈s.1,RW W.ss.length W.as.length p
 kth:∀p∈W.gs,Hk W.ss.length W.as.length p
 an:∀p,some p∈W.as->p.1=f'->0<=p.2/\p.2<W.gs.length
 go:∀s∈W.sts,∀p∈s.1,0<=p.2/\p.2<W.sts.length
 few:∀(sc st:Int)(F:List AO),(0<=sc/\sc<W.ss.length)->(0<=st/\st<W.sts.length)->F.Nodup->(∀b∈F,B4 W sc st b)->F.length<=62
def Cj.net(h:Cj W):Ga W.gs W.as:=⟨λp b e=>by
 rcases h.kth p b with⟨a,_⟩|⟨a,_⟩|⟨_,c⟩;rw[e] at a;exact absurd a (by decide +kernel);rw[e] at a;exact absurd a (by decide +kernel);exact c,h.an⟩
def Cj.by_(h:Cj W)(a:s∈W.ss){p:CF}(b:p∈s.1)(c:p.2.1≠i3):0<=p.2.2/\p.2.2<W.as.length:=by rcases h.kst s a p b with⟨e,_⟩|⟨_,e⟩;exact absurd e c;exact e
def Kd:(i4,(0:Int)).1≠i3:=by decide +kernel
def UP:i7≠i3:=by decide +kernel
def UQ(h:Cj W){k:Str×Int}(c:k∈W.gs)(b:k.1=i8):0<=k.2/\k.2<W.ss.length:=by rcases h.kth k c with⟨a,_⟩|⟨_,d⟩|⟨a,_⟩;rw[b] at a;exact absurd a (by decide +kernel);exact d;rw[b] at a;exact absurd a (by decide +kernel)
variable {g:Str×Int}
set_option tactic.hygienic true in
def XV(h:Cj W){q:Int}(e:DV W.gs W.as q=g)(a:g.1=i3):0<=g.2/\g.2<W.ss.length:=by unfold DV at e;split at e;split at e;split at e;rename_i k b;split at e;rename_i c;subst e;exact UQ (k:=k) h (Bq b) c;subst e;exact absurd a Kd;subst e;exact absurd a Kd;subst e;exact absurd a Kd;subst e;exact absurd a UP;subst e;exact absurd a Kd
set_option tactic.hygienic true in
def R7(h:Cj W)(b:p∈W.gs)(e:Fp W.gs W.as p=g)(a:g.1=i3):0<=g.2/\g.2<W.ss.length:=by unfold Fp at e;split at e;rename_i c;subst e;exact UQ (k:=p) h b c;split at e;exact XV h e a;subst e;exact absurd a Kd
set_option tactic.hygienic true in
def XW(h:Cj W)(c:s∈W.ss){p:CF}(d:p∈s.1)(e:EC W.gs W.as p=g)(a:g.1=i3):0<=g.2/\g.2<W.ss.length:=by unfold EC at e;split at e;rename_i j;subst e;rcases h.kst s c p d with⟨_,f⟩|⟨b,_⟩;exact f;rw[j] at b;exact absurd b (by decide +kernel);split at e;split at e;split at e;rename_i k i;exact R7 h (Bq i) e a;subst e;exact absurd a Kd;subst e;exact absurd a Kd;subst e;exact absurd a UP;subst e;exact absurd a Kd
structure C5 (W:Wd) (b:AO):Prop where
 nd:(AW b).Nodup
 rng:∀x∈AW b,0<=x/\x<W.ss.length
 st:0<=b.2.2/\b.2.2<W.sts.length
set_option tactic.hygienic true in
def XX{p:CF}(h:p∈B2 W sc):∃s∈W.ss,p∈s.1:=by unfold B2 at h;split at h;rename_i s a;exact⟨s,Bq a,h⟩;cases h
variable {st:Int}
set_option tactic.hygienic true in
def XY(h:p∈D8 W st):∃s∈W.sts,p∈s.1:=by unfold D8 at h;split at h;rename_i s a;exact⟨s,Bq a,h⟩;cases h
def Pb(h:r∈Gx W sc st):∃(j:Nat)(p:CF)(a:Int),(B2 W sc)[j]?=some p/\EK (D8 W st) p.1=some a/\r=((sc,j0,(j:Int)),EC W.gs W.as p,a):=by obtain⟨j,p,a,b,c,d⟩:=B3.mp h;exact⟨j,p,a,b,c,by rw[d,Nat.zero_add]⟩
def XZ(h:r∈Gx W b.2.1 b.2.2):AW (b.1++[r.1],r.2.1.2,r.2.2)=AW b++[r.2.1.2]:=by
 obtain⟨j,p,a,_,_,rfl⟩:=Pb h;unfold AW;simp
def C5.kid(ok:Cj W){c:AO}(h:C5 W b)(k:c∈DC W b):C5 W c:=by
 obtain⟨r,e,g,i,rfl⟩:=BK.mp k;have f:=XZ e;obtain⟨j,p,a,l,m,rfl⟩:=Pb e;obtain⟨s,n,o⟩:=XX (Bq l);refine⟨?_,?_,?_⟩;rw[f,List.nodup_append]
 exact⟨h.nd,by simp,λx d y q=>by
  rw[AX.mp q];exact λz=>i (z▸d)⟩
 rw[f];intro x d;rcases BI.mp d with d|d;exact h.rng x d;rw[AX.mp d];exact XW ok n o rfl g;obtain⟨t,u,v⟩:=XY (UM m);exact ok.go t u _ v
def B4.ok{W:Wd}(ok:Cj W){sc st:Int}(d:0<=sc/\sc<W.ss.length)(e:0<=st/\st<W.sts.length){b:AO}(h:B4 W sc st b):C5 W b:=by
 induction h with|root=>exact⟨by simp[AW],λx a=>by simp[AW] at a;rw[a];exact d,e⟩|kid _ k c=>exact c.kid ok k
def B4.uniq(h:B4 W sc st b):∀{c:AO},B4 W sc st c->b.1=c.1->b=c:=by
 induction h with
 |root=>
  intro c a e;cases a with|root=>rfl|kid _ k=>obtain⟨r,_,_,_,rfl⟩:=BK.mp k;simp at e
 |@kid o p q k d=>
  intro c a e;obtain⟨r,f,s,t,rfl⟩:=BK.mp k;cases a with|root=>simp at e|@kid u _ m g=>obtain⟨v,n,w,x,rfl⟩:=BK.mp g;simp only at e;obtain⟨i,j⟩:=List.append_inj' e rfl;have l:=d m i;subst l;have:=XT f n (by simpa using j);subst this;rfl
theorem Lw:∀(n:Nat)(l:E'),l.Nodup->(∀x∈l,0<=x/\x<(n:Int))->l.length<=n
 |0,[],_,_=>AK _
 |0,x::l,_,h=>by have:=h x BS;lia
 |n+1,l,b,h=>by
   have e:(l.erase (n:Int)).Nodup:=b.erase _
   have c:∀x∈l.erase (n:Int),0<=x/\x<(n:Int):=λx d=>by
    obtain⟨f,a⟩:=(b.mem_erase_iff).mp d;have:=h x a;lia
   have:=Lw n _ e c;have g:l.length<=(l.erase (n:Int)).length+1:=(by by_cases a:(n:Int)∈l;rw[List.length_erase_of_mem a];lia;rw[List.erase_of_not_mem a];lia);lia
set_option tactic.hygienic true in
def Pc(ok:Cj W)(sc:Int):(B2 W sc).length<=8:=by unfold B2;split;rename_i s a;exact ok.st s (Bq a);exact Dp _
structure Gy (W:Wd) (sc st:Int) (F:List AO) (p:Nat):Prop where
 root:([],sc,st)∈F
 is:∀b∈F,B4 W sc st b
 nd:F.Nodup
 done:∀(j:Nat)(b:AO),j<p->F[j]?=some b->∀c∈DC W b,c∈F
 src:∀c∈F,c=([],sc,st)\/∃(j:Nat)(b:AO),j<p/\F[j]?=some b/\c∈DC W b
 le:p<=F.length
def Gy.start(W:Wd)(sc st:Int):Gy W sc st [([],sc,st)] 0 where
 root:=BS
 is b a:=by rw[AX.mp a];exact .root
 nd:=by simp
 done j b e:=by lia
 src c d:=.inl (AX.mp d)
 le:=Dp _
def Gy.turn{F:List AO}{p:Nat}(h:Gy W sc st F p)(g:F[p]?=some b):Gy W sc st (F++DC W b) (p+1):=by
 have w:p<F.length:=(Bi.mp g).1;have x:=Bq g;have o:=h.is b x;have at_:∀(j:Nat),j<F.length->(F++DC W b)[j]?=F[j]?:=λj f=>Ez f
 have one:∀(j:Nat)(c:AO),j<p+1->(F++DC W b)[j]?=some c->(j<p/\F[j]?=some c)\/c=b:=λj c f e=>by
  rw[at_ j (by lia)] at e;by_cases y:j<p;exact .inl ⟨y,e⟩;have:j=p:=(by lia);subst this;rw[g] at e;exact .inr (BU e).symm
 refine⟨GG _ h.root,λc a=>?_,?_,λj c f e d hd=>?_,λc a=>?_,by rw[AY];lia⟩;rcases BI.mp a with a|a;exact h.is c a;exact .kid o a;refine List.nodup_append.mpr ⟨h.nd,IW W b,λc a d hd e=>?_⟩;subst e;obtain⟨r,B,_,_,l⟩:=BK.mp hd;rcases h.src c a with m|⟨j,i,f,k,n⟩;rw[m] at l;have:=By Prod.fst l;simp at this;obtain⟨C,G,_,_,z⟩:=BK.mp n;have q:i.1=b.1:=(by have:=By Prod.fst (z.symm.trans l);simp only at this;exact(List.append_inj' this rfl).1);have s:=(h.is i (Bq k)).uniq o q;subst s;obtain⟨D,t⟩:=Bi.mp k;obtain⟨E,u⟩:=Bi.mp g;have:=(List.getElem_inj h.nd).mp (t.trans u.symm);lia;rcases one j c f e with⟨A,v⟩|rfl;exact GG _ (h.done j c A v d hd);exact DI _ hd;rcases BI.mp a with a|a;rcases h.src c a with m|⟨j,i,f,k,n⟩;exact .inl m;exact .inr ⟨j,i,by lia,by rw[at_ j (by lia)];exact k,n⟩;exact .inr ⟨p,b,by lia,by rw[at_ p w];exact g,a⟩
def Gy.few{W:Wd}(ok:Cj W){sc st:Int}(a:0<=sc/\sc<W.ss.length)(b:0<=st/\st<W.sts.length){F:List AO}{p:Nat}(h:Gy W sc st F p):F.length<=62:=ok.few sc st F a b h.nd h.is
abbrev Ke:Enc:=Kc FA RX FA
abbrev DD:Enc:=Kc (Ee Ke) FA FA
structure DE (W:Wd) (sc st:Int) (bs:List AO):Prop where
 mem:∀b,b∈bs↔B4 W sc st b
 nd:bs.Nodup
 srt:bs.Pairwise DD.O.kle
 few:bs.length<=62
def DE.uniq{l m:List AO}(h:DE W sc st l)(k:DE W sc st m):l=m:=
 RV (O:=DD.O) ((List.perm_ext_iff_of_nodup h.nd k.nd).mpr λb=>(h.mem b).trans (k.mem b).symm) h.srt k.srt
def Gy.all(ok:Cj W)(g:0<=sc/\sc<W.ss.length)(i:0<=st/\st<W.sts.length){F l:List AO}(h:Gy W sc st F F.length)(a:l.Perm F)(d:l.Pairwise DD.O.kle):DE W sc st l:=by
 refine⟨λb=>?_,a.nodup_iff.mpr h.nd,d,by rw[a.length_eq];exact h.few ok g i⟩;rw[a.mem_iff];refine⟨h.is b,λe=>?_⟩
 induction e with|root=>exact h.root|kid _ k f=>obtain⟨j,c⟩:=List.getElem?_of_mem f;exact h.done j _ (Bi.mp c).1 c _ k
def Dr (F:Addr->Prop) (H:Hp) (t:Addr) (b:AO):Prop:=∃(l:Addr)(ms:G'),H t=some (.tup [.ref l,.int b.2.1,.int b.2.2])/\H l=some (.lst (ms.map V.ref))/\RT Gw H ms b.1/\F l
def Dr.same{F:Addr->Prop}{H H':Hp}{t:Addr}{b:AO}(e:Ad H H')(h:Dr F H t b):Dr F H' t b:=by obtain⟨l,a,c,d,f,g⟩:=h;exact⟨l,a,e _ _ c,e _ _ d,f.same e,g⟩
def Dr.mono{G:Addr->Prop}{t:Addr}(e:∀x,F x->G x)(h:Dr F H t b):Dr G H t b:=by obtain⟨l,a,c,d,f,g⟩:=h;exact⟨l,a,c,d,f,e _ g⟩
def Dr.keeps{M F:Addr->Prop}{H H':Hp}{t:Addr}{b:AO}(k:Keeps M H H')(c:∀x,F x->¬M x)(h:Dr F H t b):Dr F H' t b:=by obtain⟨l,d,e,f,g,a⟩:=h;exact⟨l,d,k.tup e,k.at_ _ _ f (c _ a),g.keeps k,a⟩
abbrev Pd (m:Au):Dt:=.tup [.int m.1,.str m.2.1,.int m.2.2]
def Hr{K:Aj}(r:Au)(t:Addr)(h:H t=some (.tup (Gw r))):Ao K H (.ref t) (Pd r):=.tup (Aq.of h) (.cons (.int _) (.cons (.str _) (.cons (.int _) .nil)))
def Dr.dt{K:Aj}{t:Addr}(h:Dr F H t b):Ao K H (.ref t) (DD.D b):=by obtain⟨l,e,a,c,d,f⟩:=h;exact .tup (Aq.of a) (.cons (.lst (Ai.of c) (d.dts Hr)) (.cons (.int _) (.cons (.int _) .nil)))
def Kf (H:Hp) (t:Addr) (r:Gn):Prop:=∃m,H t=some (.tup [.ref m,.str r.2.1.1,.int r.2.1.2,.int r.2.2])/\H m=some (.tup (Gw r.1))
def Kf.same{t:Addr}(e:Ad H H')(h:Kf H t r):Kf H' t r:=by obtain⟨m,a,b⟩:=h;exact⟨m,e _ _ a,e _ _ b⟩
def Kf.keeps{t:Addr}(k:Keeps M H H')(h:Kf H t r):Kf H' t r:=by obtain⟨m,a,b⟩:=h;exact⟨m,k.tup a,k.tup b⟩
structure Bm (K:Aj) (H:Hp) (nt A t:Addr) (W:Wd):Prop where
 net:∃(S T R:Addr)(us Gs Es ts qt:G')(qs:V'),H nt=some (.tup [.ref S,.ref T,.ref R])/\ED H S T R us Gs Es ts qt W.ss W.gs qs
 ans:Ih K H A W.as
 tab:∃(a o:Addr)(inn:V),Aq K H t [.ref a,inn,.ref o]/\Hg K H a W.sts
def Bm.same{K:Aj}{H H':Hp}{b A t:Addr}{W:Wd}(e:Ad H H')(h:Bm K H b A t W):Bm K H' b A t W:=by obtain⟨S,T,R,us,Gs,Es,ts,c,qs,d,f⟩:=h.net;obtain⟨a,o,k,g,vs,i,j⟩:=h.tab;exact⟨⟨S,T,R,us,Gs,Es,ts,c,qs,e _ _ d,f.same e⟩,h.ans.same e,⟨a,o,k,e.seqT g,vs,e.seq i,j.same e⟩⟩
def Dr.mono'{G:Addr->Prop}{t:Addr}(e:∀x o,H x=some o->F x->G x)(h:Dr F H t b):Dr G H t b:=by obtain⟨l,c,d,a,f,g⟩:=h;exact⟨l,c,d,a,f,e _ _ a g⟩
def F1.caseT{K:Aj}{t:Addr}{n:Int}{ord:A'}(h:F1 K F H t rs n ord):∃(a o:Addr)(inn:V),Aq K H t [.ref a,inn,.ref o]/\Hg K H a rs:=by obtain⟨a,o,us,ts,b,_,_,_,c,d,_⟩:=h.ex;exact⟨a,o,_,Aq.of b,d.stts c⟩
def Gb{x:Int}{l:E'}:Dt.int x∈l.map Dt.int↔x∈l:=⟨λh=>by
 obtain⟨y,a,z⟩:=AN.mp h;rw[<-Dt.int.inj z];exact a,λh=>AN.mpr ⟨x,h,rfl⟩⟩
theorem ML{K:Aj}{H:Hp}:∀(l:E'),Ak K H (l.map V.int) (l.map Dt.int)
 |[]=>.nil
 |x::l=>.cons (.int x) (ML l)
def Pe(xs:List α)(x:α):BW (xs++[x]) (-1)=some x:=by
 have e:G6 (xs++[x]).length (-1)=some xs.length:=(by unfold G6;rw[Ag (by decide),Ap (by rw[AY,FM];lia),AY,FM];congr 1;lia);unfold BW;rw[e];show(xs++[x])[xs.length]?=some x;simp
abbrev NN (sts:List DU) (inn:Int) (ord:A'):Dt:=.tup [.lst (sts.map J8),.int inn,.lst (ord.map Ut)]
def IX(s r:DU):Dz 4 (J8 s) (J8 r):=by refine .tup (.cons (.lst (Bo.of λd hd e a=>?_)) (.cons (.lst (Bo.of λd hd e a=>?_)) (.nil _)));obtain⟨p,_,rfl⟩:=AN.mp hd;obtain⟨q,_,rfl⟩:=AN.mp a;exact Hi p q;obtain⟨p,_,rfl⟩:=AN.mp hd;obtain⟨q,_,rfl⟩:=AN.mp a;exact .str _ _
def X0(s r:List DU)(m n:Int)(o u:A'):Dz 6 (NN s m o) (NN r n u):=by refine .tup (.cons (.lst (Bo.of λd hd e a=>?_)) (.cons (.int _ _) (.cons (.lst (Bo.of λd hd e a=>?_)) (.nil _))));obtain⟨p,_,rfl⟩:=AN.mp hd;obtain⟨q,_,rfl⟩:=AN.mp a;exact IX p q;obtain⟨p,_,rfl⟩:=AN.mp hd;obtain⟨q,_,rfl⟩:=AN.mp a;exact .tup (.cons (.str _ _) (.cons (.str _ _) (.nil _)))
def F1.dt{K:Aj}{t:Addr}{b:List DU}{inn:Int}{ord:A'}(h:F1 K F H t b inn ord):Ao K H (.ref t) (NN b inn ord):=by obtain⟨a,o,us,ts,c,_,_,_,d,e,f,TO⟩:=h.ex;exact .tup (Aq.of c) (.cons (.lst (Ai.of d) e.dts) (.cons (.int _) (.cons (.lst (Ai.of f) TO.dts) .nil)))
def X1(x y:C'):Dz 2 (Bb x) (Bb y):=by
 cases x with
 |none=>cases y with
   |none=>exact .non
   |some q=>exact .apart rfl
 |some p=>cases y with
   |none=>exact .apart rfl
   |some q=>exact Hi p q
def X2(l m:List (C')):Dz 3 (Dt.lst (l.map Bb)) (Dt.lst (m.map Bb)):=.lst (Bo.of λd hd e a=>by
 obtain⟨b,_,rfl⟩:=AN.mp hd;obtain⟨c,_,rfl⟩:=AN.mp a;exact X1 b c)
abbrev Bn:Enc:=Ee Ke
def FD (W:Wd) (sc:Int):List CA:=match W.ss[sc.toNat]? with
 |some s=>s.2
 |none=>[]
def FS (W:Wd) (st:Int):I':=match W.sts[st.toNat]? with
 |some s=>s.2
 |none=>[]
def EN (W:Wd) (b:AO) (x:Str) (q:CA) (i:Nat):List (List Au):=if q.2.1=x/\q.1∈FS W b.2.2 then[b.1++[(b.2.1,i0,(i:Int))]] else[]
def CC (W:Wd) (b:AO) (x:Str):List CA->Nat->List (List Au)
 |[],_=>[]
 |q::r,i=>EN W b x q i++CC W b x r (i+1)
def DF (W:Wd) (x:Str) (bs:List AO):List (List Au):=bs.flatMap λb=>CC W b x (FD W b.2.1) 0
theorem UR(W:Wd)(b:AO)(x:Str)(q:CA):∀(l:List CA)(i:Nat),CC W b x (l++[q]) i=CC W b x l i++EN W b x q (i+l.length)
 |[],i=>by simp[CC]
 |p::l,i=>by show EN W b x p i++CC W b x (l++[q]) (i+1)=(EN W b x p i++CC W b x l (i+1))++_;rw[UR W b x q l (i+1),Fv,CV,show i+1+l.length=i+(l.length+1) by lia]
theorem US(W:Wd)(b:AO)(x:Str):∀(l:List CA)(i:Nat),(CC W b x l i).length<=l.length
 |[],i=>AK _
 |q::l,i=>by
   show(EN W b x q i++CC W b x l (i+1)).length<=_;have a:(EN W b x q i).length<=1:=by unfold EN;split<;>simp
   have c:=US W b x l (i+1);rw[AY,CV];lia
set_option tactic.hygienic true in
theorem UT{W:Wd}{b:AO}{x:Str}{w:List Au}:∀{l:List CA}{i:Nat},w∈CC W b x l i->∃(j:Nat)(q:CA),l[j]?=some q/\q.2.1=x/\q.1∈FS W b.2.2/\w=b.1++[(b.2.1,i0,((i+j:Nat):Int))]
 |[],i,h=>by cases h
 |q::l,i,h=>by
   rcases BI.mp (show w∈EN W b x q i++CC W b x l (i+1) from h) with h|h;unfold EN at h;split at h;rename_i a;exact⟨0,q,rfl,a.1,a.2,AX.mp h⟩;cases h;obtain⟨j,c,d,e,f,g⟩:=UT h;exact⟨j+1,c,by simpa using d,e,f,by rw[g,show i+1+j=i+(j+1) by lia]⟩
def UU{bs:List AO}{w:List Au}(h:w∈DF W x bs):∃b∈bs,∃(j:Nat)(q:CA),(FD W b.2.1)[j]?=some q/\q.2.1=x/\q.1∈FS W b.2.2/\w=b.1++[(b.2.1,i0,(j:Int))]:=by obtain⟨b,a,c⟩:=List.mem_flatMap.mp h;obtain⟨j,q,d,e,f,g⟩:=UT c;exact⟨b,a,j,q,d,e,f,by rw[g,Nat.zero_add]⟩
theorem UV{α:Type}{f:AO->List α}{k:Nat}:∀(bs:List AO),(∀b,(f b).length<=k)->(bs.flatMap f).length<=bs.length*k
 |[],_=>by simp
 |b::bs,h=>by rw[List.flatMap_cons,AY,CV,Nat.succ_mul];have:=h b;have:=UV bs h;lia
structure MM (W:Wd) (x:Str) (bs:List AO) (ws:List (List Au)):Prop where
 perm:ws.Perm (DF W x bs)
 srt:ws.Pairwise Bn.O.kle
def MM.uniq{bs:List AO}{l m:List (List Au)}(h:MM W x bs l)(k:MM W x bs m):l=m:=RV (O:=Bn.O) (h.perm.trans k.perm.symm) h.srt k.srt
def Cs (F:Addr->Prop) (H:Hp) (l:Addr) (w:List Au):Prop:=∃ms:G',H l=some (.lst (ms.map V.ref))/\RT Gw H ms w/\F l
def Cs.same{F:Addr->Prop}{H H':Hp}{t:Addr}{b:List Au}(e:Ad H H')(h:Cs F H t b):Cs F H' t b:=by obtain⟨a,c,d,f⟩:=h;exact⟨a,e _ _ c,d.same e,f⟩
def Cs.mono'{G:Addr->Prop}{t:Addr}{b:List Au}(e:∀x o,H x=some o->F x->G x)(h:Cs F H t b):Cs G H t b:=by obtain⟨c,a,d,f⟩:=h;exact⟨c,a,d,e _ _ a f⟩
def Cs.keeps{M F:Addr->Prop}{H H':Hp}{t:Addr}{b:List Au}(k:Keeps M H H')(c:∀x,F x->¬M x)(h:Cs F H t b):Cs F H' t b:=by obtain⟨d,e,f,a⟩:=h;exact⟨d,k.at_ _ _ e (c _ a),f.keeps k,a⟩
def Cs.dt{K:Aj}{t:Addr}{b:List Au}(h:Cs F H t b):Ao K H (.ref t) (Bn.D b):=by obtain⟨d,a,c,_⟩:=h;exact .lst (Ai.of a) (c.dts Hr)
def UW{c:Enc}{zs:List (Addr×c.O.α)}{d:List (DB c)}(a:d.Perm (zs.map λz=>((V.ref z.1,z.2):DB c))) :
 ∃ws:List (Addr×c.O.α),d.map (·.1)=(ws.map λz=>V.ref z.1)/\d.map (·.2)=ws.map (·.2)/\(ws.map (·.2)).Perm (zs.map (·.2))/\∀z∈ws,z∈zs:=by
 have:∀{l:List (DB c)},(∀y∈l,y∈zs.map λz=>((V.ref z.1,z.2):DB c))->∃ws:List (Addr×c.O.α),l=ws.map λz=>(V.ref z.1,z.2):=by
  intro l
  induction l with|nil=>exact λζ=>⟨[],rfl⟩|cons y l f=>intro h;obtain⟨ws,rfl⟩:=f λz g=>h z (Du _ g);obtain⟨z,_,rfl⟩:=AN.mp (h y BS);exact⟨z::ws,rfl⟩
 obtain⟨ws,rfl⟩:=this λy b=>a.mem_iff.mp b;refine⟨ws,by rw[D1];rfl,by rw[D1];rfl,?_,λz k=>?_⟩;have:=a.map (·.2);rw[D1,D1] at this;exact this;have:=a.mem_iff.mp (AN.mpr ⟨z,k,rfl⟩);obtain⟨y,b,e⟩:=AN.mp this;injection e with i j;have:y=z:=Prod.ext (V.ref.inj i) j;rw[<-this];exact b
abbrev Pf:Enc:=Lv (Ee Ke) FA
abbrev Ow:Type:=List Au×Int
abbrev X':=List Ow
def ow (b:AO) (r:Gn):Option Ow:=if r.2.1.1=i7 then some (b.1++[r.1],r.2.1.2) else none
def Gz (W:Wd) (bs:List AO):X':=bs.flatMap λb=>(Gx W b.2.1 b.2.2).filterMap (ow b)
set_option tactic.hygienic true in
def X3{bs:List AO}{w:Ow}(h:w∈Gz W bs):∃b∈bs,∃(j:Nat)(p:CF)(a:Int),(B2 W b.2.1)[j]?=some p/\EK (D8 W b.2.2) p.1=some a/\(EC W.gs W.as p).1=i7/\w=(b.1++[(b.2.1,j0,(j:Int))],(EC W.gs W.as p).2):=by obtain⟨b,c,d⟩:=List.mem_flatMap.mp h;obtain⟨r,f,e⟩:=List.mem_filterMap.mp d;obtain⟨j,p,a,g,i,rfl⟩:=Pb f;unfold ow at e;split at e;rename_i k;exact⟨b,c,j,p,a,g,i,k,(BU e).symm⟩;cases e
structure NO (W:Wd) (bs:List AO) (ws:X'):Prop where
 perm:ws.Perm (Gz W bs)
 srt:ws.Pairwise Pf.O.kle
def NO.uniq{bs:List AO}{l m:X'}(h:NO W bs l)(k:NO W bs m):l=m:=RV (O:=Pf.O) (h.perm.trans k.perm.symm) h.srt k.srt
def Fq (F:Addr->Prop) (H:Hp) (t:Addr) (p:Ow):Prop:=∃(l:Addr)(ms:G'),H t=some (.tup [.ref l,.int p.2])/\H l=some (.lst (ms.map V.ref))/\RT Gw H ms p.1/\F l
def Fq.same{F:Addr->Prop}{H H':Hp}{t:Addr}{b:Ow}(e:Ad H H')(h:Fq F H t b):Fq F H' t b:=by obtain⟨l,a,c,d,f,g⟩:=h;exact⟨l,a,e _ _ c,e _ _ d,f.same e,g⟩
def Fq.mono'{G:Addr->Prop}{t:Addr}{b:Ow}(e:∀x o,H x=some o->F x->G x)(h:Fq F H t b):Fq G H t b:=by obtain⟨l,c,d,a,f,g⟩:=h;exact⟨l,c,d,a,f,e _ _ a g⟩
def Fq.keeps{M F:Addr->Prop}{H H':Hp}{t:Addr}{b:Ow}(k:Keeps M H H')(c:∀x,F x->¬M x)(h:Fq F H t b):Fq F H' t b:=by obtain⟨l,d,e,f,g,a⟩:=h;exact⟨l,d,k.tup e,k.at_ _ _ f (c _ a),g.keeps k,a⟩
def Fq.dt{K:Aj}{t:Addr}{b:Ow}(h:Fq F H t b):Ao K H (.ref t) (Pf.D b):=by obtain⟨l,e,a,c,d,_⟩:=h;exact .tup (Aq.of a) (.cons (.lst (Ai.of c) (d.dts Hr)) (.cons (.int _) .nil))
def X4{bs:List AO}(h:bs[i]?=some b):Gz W (bs.take (i+1))=Gz W (bs.take i)++(Gx W b.2.1 b.2.2).filterMap (ow b):=by rw[En,h];show(bs.take i++[b]).flatMap _=_;rw[List.flatMap_append];simp[Gz]
def Lx{β:Type}(f:α->Option β)(l:List α)(x:α):(l++[x]).filterMap f=l.filterMap f++(f x).toList:=by rw[List.filterMap_append];cases e:f x<;>simp[e]
def IY(h:r.2.1.1=i7):ow b r=some (b.1++[r.1],r.2.1.2):=Ap h
def IZ(h:r.2.1.1≠i7):ow b r=none:=Ag h
structure Cc (W:Wd):Prop where
 tl:∀s∈W.ss,∀p∈s.2,Ls W.gs.length W.as.length p
 fnd:∀(x:Str)(sc st:Int)(bs:List AO),(0<=sc/\sc<W.ss.length)->(0<=st/\st<W.sts.length)->DE W sc st bs->(DF W x bs).length<=62
 owd:∀(sc st:Int)(bs:List AO),(0<=sc/\sc<W.ss.length)->(0<=st/\st<W.sts.length)->DE W sc st bs->(Gz W bs).length<=62
def Fs (ss:List BC) (m:Au):Str:=match ss[m.1.toNat]? with
 |some s=>if m.2.1=j0 then(match s.1[m.2.2.toNat]? with
   |some p=>p.1
   |none=>default) else(match s.2[m.2.2.toNat]? with
   |some p=>p.1
   |none=>default)
 |none=>default
def Ef (ss:List BC) (m:Au):Prop:=∃(n k:Nat)(s:BC),m.1=(n:Int)/\m.2.2=(k:Int)/\ss[n]?=some s/\((m.2.1=j0/\k<s.1.length)\/(m.2.1=i0/\k<s.2.length))
def X5{m:Au}{k:Nat}{p:CF}(a:m.1=(n:Int))(b:m.2.2=(k:Int))(c:ss[n]?=some s)(d:m.2.1=j0)(e:s.1[k]?=some p):Fs ss m=p.1:=by unfold Fs;rw[a,b,BF,BF,c];dsimp only;rw[Ap d,e]
def UX{m:Au}{k:Nat}{p:CA}(a:m.1=(n:Int))(b:m.2.2=(k:Int))(c:ss[n]?=some s)(d:m.2.1≠j0)(e:s.2[k]?=some p):Fs ss m=p.1:=by unfold Fs;rw[a,b,BF,BF,c];dsimp only;rw[Ag d,e]
def R8:i0≠j0:=by decide +kernel
open Classical in
noncomputable def Eg (ss:List BC) (ord:A'):List Au->List Au->Bool
 |m::ms,q::qs=>if m=q then Eg ss ord ms qs else dec ((Fs ss m,Fs ss q)∈ord)
 |_,_=>false
def UY(ss:List BC)(ord:A')(m:Au)(a qs:List Au):Eg ss ord (m::a) (m::qs)=Eg ss ord a qs:=by rw[Eg];exact Ap rfl
def UZ(ss:List BC)(ord:A'){m q:Au}(a qs:List Au)(h:m≠q):Eg ss ord (m::a) (q::qs)=dec ((Fs ss m,Fs ss q)∈ord):=by rw[Eg];exact Ag h
theorem R9(ss:List BC)(ord:A'):∀{l m:List Au},l=[]\/m=[]->Eg ss ord l m=false
 |[],_,_=>by rw[Eg];intros;simp at *
 |_::_,[],_=>by rw[Eg];intros;simp at *
 |_::_,_::_,h=>by simp at h
def U0(ok:Cj W)(u:0<=sc/\sc<W.ss.length)(v:0<=st/\st<W.sts.length)(h:B4 W sc st b):∀m∈b.1,Ef W.ss m:=by
 induction h with
 |root=>intro m c;cases c
 |@kid d x i k l=>
  obtain⟨r,o,_,_,rfl⟩:=BK.mp k;intro m c;rcases BI.mp c with c|c;exact l m c;rw[AX.mp c];have q:=i.ok ok u v;have s:=q.rng d.2.1 (by unfold AW;simp);obtain⟨j,p,a,e,_,rfl⟩:=Pb o;obtain⟨n,f⟩:=DJ s.1;have w:n<W.ss.length:=(by lia);have g:=AM w;have t:B2 W d.2.1=W.ss[n].1:=by unfold B2;rw[f,BF,g]
  rw[t] at e;exact⟨n,j,_,f,rfl,g,.inl ⟨rfl,(Bi.mp e).1⟩⟩
def Sa(ok:Cj W)(h:0<=sc/\sc<W.ss.length)(i:0<=st/\st<W.sts.length){bs:List AO}(k:DE W sc st bs){w:List Au}(l:w∈DF W x bs):(∀m∈w,Ef W.ss m)/\w.length<=100:=by
 obtain⟨b,o,j,q,d,_,_,rfl⟩:=UU l;have e:=(k.mem b).mp o;have c:=e.ok ok h i;have p:=c.rng b.2.1 (by unfold AW;simp);refine⟨λm a=>?_,?_⟩;rcases BI.mp a with a|a;exact U0 ok h i e m a;rw[AX.mp a];obtain⟨n,f⟩:=DJ p.1;have s:n<W.ss.length:=(by lia);have g:=AM s;have r:FD W b.2.1=W.ss[n].2:=by unfold FD;rw[f,BF,g]
 rw[r] at d;exact⟨n,j,_,f,rfl,g,.inr ⟨rfl,(Bi.mp d).1⟩⟩;have:=Lw W.ss.length (AW b) c.nd c.rng;rw[show(AW b).length=b.1.length+1 by unfold AW;simp] at this;have:=ok.s5;rw[AY,FM];lia
def X6(ok:Cj W)(i:0<=sc/\sc<W.ss.length)(k:0<=st/\st<W.sts.length){bs:List AO}(l:DE W sc st bs){w:Ow}(o:w∈Gz W bs):(∀m∈w.1,Ef W.ss m)/\w.1.length<=100:=by
 obtain⟨b,q,j,p,a,e,_,_,rfl⟩:=X3 o;have f:=(l.mem b).mp q;have d:=f.ok ok i k;have r:=d.rng b.2.1 (by unfold AW;simp);refine⟨λm c=>?_,?_⟩;rcases BI.mp c with c|c;exact U0 ok i k f m c;rw[AX.mp c];obtain⟨n,g⟩:=DJ r.1;have t:n<W.ss.length:=(by lia);have h:=AM t;have s:B2 W b.2.1=W.ss[n].1:=by unfold B2;rw[g,BF,h]
 rw[s] at e;exact⟨n,j,_,g,rfl,h,.inl ⟨rfl,(Bi.mp e).1⟩⟩;have:=Lw W.ss.length (AW b) d.nd d.rng;rw[show(AW b).length=b.1.length+1 by unfold AW;simp] at this;have:=ok.s5;show(b.1++[(b.2.1,j0,(j:Int))]).length<=100;rw[AY,FM];lia
def X7(h:n<=40000):n<sizeLine:=Nat.lt_of_le_of_lt h (by decide)
def MN (ss:List BC) (w:List Au):Prop:=(∀m∈w,Ef ss m)/\w.length<=100
end L2
namespace PySem
section
variable {prog:Program} {w:World} {K:Type} [DecidableEq K] {knd:HeapKind prog w K} {A:Around} {E:D'} {s:Shared}
def X8{d a:Addr}{xs:List (K×Addr×Value)}{k:K}{v:Value}{Q:D'}(l:knd.room A)(i:knd.is s.heap k a)(r:s.heap.DictOfH knd d xs)
 (t:∀p,atKey xs k=some p->Q p.2 {s with toks:=s.toks+knd.draws k})
 (u:atKey xs k=none->∀h',h'.DictOfH knd d (storedH xs k a v)->Heap.SameBut d s.heap h'->Q v {s with heap:=h',toks:=s.toks+knd.draws k})
 (hsz:xs.length<=sizeLine:=by size_fits) :
 wpAny (model prog w) A (dictSetDefault d (.ref a) v) Q E s:=by
 obtain⟨o,D,z,c,B,hd,g,q,h⟩:=r;unfold dictSetDefault
 try with_reducible refine Fl ?_
 refine Ae (knd.pyHash l i ?_);refine Ae (wpAny_dictFind_heap (s:={s with toks:=s.toks+knd.draws k}) l i c hd g q h ?_ ?_);intro f;have C:k∉xs.map (·.1):=not_mem_keys_of_get f
 refine Ae (H0 (Ae (wpAny_updateDictKeys (hz:=by have e:=size_of_entries g;lia) (s:={s with toks:=s.toks+knd.draws k}) c hd (Ay (u (atKey_none_of_get f) _ ⟨_,_,z+1,o2 _ c (Obj.isFreed_of_dict (Obj.data_mapDictKeys hd _)),
  B.mapDictKeys _,Obj.data_mapDictKeys hd _,?_,?_,?_⟩ (o4 ..))))))
 rw[storedH_new (atKey_none_of_get f)];simp[g,entryOfKey];rw[storedH_new (atKey_none_of_get f)];intro x b;rcases BI.mp b with b|b;exact knd.keeps (q x b) c hd (o4 ..);simp only[AX] at b;subst b;exact knd.keeps i c hd (o4 ..);rw[storedH_new (atKey_none_of_get f)];rw[Bh,List.nodup_append];refine⟨h,by simp,?_⟩;intro x b y m;simp only[Do,Mm,AX] at m;subst m;exact λe=>C (e▸b);intro j p n;refine Ae (wpAny_dictEntries (s:={s with toks:=s.toks+knd.draws k}) c hd ?_);rw[entry_at g j,n];exact Ae (H0 (Ay (t p (atKey_of_get h n))))
def X9(d a:Addr)(hd:(d==sysModules)=false)(b:Value) :
 MeetsIn prog w (Builtin.«dict.setdefault» ⟨[.ref d,.ref a,b],[]⟩) (λA R s=>knd.room A.in1/\∃k xs,knd.is s.heap k a/\s.heap.DictOfH knd d xs/\xs.length<=sizeLine /\
  (∀p,atKey xs k=some p->R (.ok (.ret p.2)) {s with toks:=s.toks+knd.draws k}) /\
  (atKey xs k=none->∀h',h'.DictOfH knd d (storedH xs k a b)->Heap.SameBut d s.heap h'->R (.ok (.ret b)) {s with heap:=h',toks:=s.toks+knd.draws k})):=
 .of_wp λA R s l=>by obtain⟨e,k,xs,o,c,f,g,h⟩:=l;unfold Builtin.«dict.setdefault»;refine Ae ?_;unfold Builtin.Dict.keyAndDefault;refine Ae (wpAny_notOrdered_dict c.typeIs ?_);show wpAny _ _ (pure (d,Value.ref a,some b)) _ _ s;refine Ay ?_;show wpAny _ _ (if(d==sysModules)=true then _ else(dictSetDefault d (.ref a) b >>= _)) _ _ s;rw[Ag (by rw[hd];exact Ce)];exact Ae (X8 (hsz:=f) e o c (λp i=>Ay ⟨p.2,rfl,g p i⟩) λj h' m n=>Ay ⟨b,rfl,h j h' m n⟩)
end
section
variable {prog:Program} {w:World} {A:Around} {E:D'} {s:Shared}
variable {d:Addr}{es:Array DictEntry}{ep:Nat}
theorem Yb{o:Obj}{Q:D'}(hd:(d==sysModules)=false)(a:s.heap.get? d=some o)(e:o.ExactDict)(c:o.data=.dict es ep)
 (f:Q (.ref s.heap.objs.size) {s with heap:=s.heap.push {cls:=.type "dict_keyiterator",data:=.fields #[.ref d,.int 0 0,.int es.size 0,.int ep 0]}}) :
 wpAny (model prog w) A (pyIter (.ref d)) Q E s:=by
 have b:s.TypeIs (.ref d) "dict" :=⟨o,a,e.1⟩;refine wpAny_pyIter_slot b F.slot_dict_iter (wpAny_call_entry F.slot_dict_iter b F.entry_dict_iter ?_ (F.args_dict_iter_1 _));unfold Builtin.«dict.__iter__»;refine Ae ?_;unfold Builtin.Dict.dictSlotNone;refine Ae (wpAny_notOrdered_dict b ?_);show wpAny _ _ (pure (Value.ref d)) _ _ s;refine Ay ?_;show wpAny _ _ (Builtin.Dict.showsAll d >>= _) _ _ s;unfold Builtin.Dict.showsAll;rw[Ag (by rw[hd];exact Ce)];refine Ae (Ay ?_);refine Ae (wpAny_dictEntries a c ?_);refine Ae (wpAny_dictEpoch a c ?_);refine Ae (wpAny_newObj_type (Ay ⟨_,rfl, "dict_keyiterator",_,⟨_,Cb _ rfl,rfl⟩,F.slot_dict_keyiterator_next.lookup,?_⟩));simpa [rawInt] using f
theorem Yc{a:Addr}{i:Nat}{e:Obj}{Q:K'->Shared->Prop}(b:s.heap.IsKeyIter a d i es.size ep)
 (f:s.heap.get? d=some e) (g:e.data=.dict es ep) (l:i<es.size)
 (j:∀h',h'.IsKeyIter a d (i+1) es.size ep->Heap.SameBut a s.heap h'->Q (some es[i].key) {s with heap:=h'}) :
 wpAny (model prog w) A (pyNext (.ref a)) Q E s:=by
 obtain⟨o,c,k,hd⟩:=id b;unfold pyNext
 refine Ae (wpAny_attempt (wpAny_callSpecial?_slot (name:=Str.ofString "__next__") b.typeIs F.slot_dict_keyiterator_next
  (wpAny_call_entry F.slot_dict_keyiterator_next b.typeIs F.entry_dict_keyiterator_next ?_ (F.args_dict_keyiterator_next_1 _))))
 refine Ae (Ay ?_);refine Ae ?_;refine Ae ?_
 first|refine Ae (wpAny_typeNameOfWhole_keyiter b.typeIs (Ay ?_))|refine Ae (wpAny_typeNameOf_keyiter b.typeIs (Ay ?_))
 refine Ae (wpAny_fieldsOf c hd ?_);have m:Builtin.Dict_items.ownsTuple "dict_keyiterator" = false:=(by decide);simp only[m,Fk,if_false];show wpAny _ _ (if(Value.ref d==Value.none)=true then _ else _) _ _ s;rw[Ag (show ¬((Value.ref d==Value.none)=true) from Ce)];refine Ae (Ay ?_);refine Ae (wpAny_dictEntries f g ?_);rw[Ag (by simp)];refine Ae (Ay ?_);refine Ae (wpAny_dictEpoch f g ?_);rw[Ag (by simp)];refine Ay ?_;simp only[show ¬((i:Int)<0) from by lia,if_false,BF,Array.getElem?_eq_getElem l];refine Ae ?_
 first|refine Ae (wpAny_typeNameOfWhole_keyiter b.typeIs (Ay ?_))|refine Ae (wpAny_typeNameOf_keyiter b.typeIs (Ay ?_))
 refine Ae (wpAny_isOneOf_keyiter b.typeIs ?_);show wpAny _ _ (setField (.ref a) 1 (rawInt ((i:Int)+1)) >>= _) _ _ s;refine Ae (wpAny_setField c hd (by simp) ?_)
 have h:(s.heap.update a (Obj.mapFields (·.setIfInBounds 1 (rawInt ((i:Int)+1))))).IsKeyIter a d (i+1) es.size ep:=
  ⟨_,o2 _ c (Obj.isFreed_of_fields (Obj.data_mapFields hd _)),(Obj.cls_mapFields ..).trans k,by rw[Obj.data_mapFields hd];simp[rawInt]⟩
 refine Ae (Fl ?_);refine Ae (wpAny_isOneOf_keyiter (s:={s with heap:=s.heap.update a (Obj.mapFields (·.setIfInBounds 1 (rawInt ((i:Int)+1))))}) h.typeIs ?_);show wpAny _ _ (pure es[i].key) _ _ _;exact Ay (Ay ⟨_,rfl,Ay (j _ h (o4 ..))⟩)
theorem Yd{e:Addr}{i:Nat}{f:Obj}{Q:K'->Shared->Prop}(k:A.handled=none)(c:s.heap.IsKeyIter e d i es.size ep)
 (h:s.heap.get? d=some f) (j:f.data=.dict es ep) (n:es.size<=i)
 (l:∀h',Heap.ExtBut e s.heap h'->Q none {s with heap:=h'}):wpAny (model prog w) A (pyNext (.ref e)) Q E s:=by
 obtain⟨o,g,q,hd⟩:=id c;unfold pyNext
 refine Ae (wpAny_attempt (wpAny_callSpecial?_slot (name:=Str.ofString "__next__") c.typeIs F.slot_dict_keyiterator_next
  (wpAny_call_entry F.slot_dict_keyiterator_next c.typeIs F.entry_dict_keyiterator_next ?_ (F.args_dict_keyiterator_next_1 _))))
 refine Ae (Ay ?_);refine Ae ?_;refine Ae ?_
 first|refine Ae (wpAny_typeNameOfWhole_keyiter c.typeIs (Ay ?_))|refine Ae (wpAny_typeNameOf_keyiter c.typeIs (Ay ?_))
 refine Ae (wpAny_fieldsOf g hd ?_);have p:Builtin.Dict_items.ownsTuple "dict_keyiterator" = false:=(by decide);simp only[p,Fk,if_false];show wpAny _ _ (if(Value.ref d==Value.none)=true then _ else _) _ _ s;rw[Ag (show ¬((Value.ref d==Value.none)=true) from Ce)];refine Ae (Ay ?_);refine Ae (wpAny_dictEntries h j ?_);rw[Ag (by simp)];refine Ae (Ay ?_);refine Ae (wpAny_dictEpoch h j ?_);rw[Ag (by simp)];refine Ay ?_;simp only[show ¬((i:Int)<0) from by lia,if_false,BF,Array.getElem?_eq_none n];refine Ae ?_
 first|refine Ae (wpAny_typeNameOfWhole_keyiter c.typeIs (Ay ?_))|refine Ae (wpAny_typeNameOf_keyiter c.typeIs (Ay ?_))
 show wpAny _ _ (setField (.ref e) 0 .none >>= _) _ _ s;refine Ae (wpAny_setField g hd (by simp) ?_);show wpAny _ _ (newExc (.type "StopIteration") [] >>= _) _ _ _;refine Ae ?_;simp only[newExc,newTuple];refine Ae (wpAny_newObj_type ?_ (by size_fits));refine Ae (m:=firstArgMember _ _) (wpAny_of_eq (a:=Value.none) (by first|rfl|(simp only[firstArgMember];rfl)) ?_);refine wpAny_newObj_type ?_ (by size_fits);simp only[raiseNew];refine Ae (wpAny_handled ?_);rw[show A.in1.handled=none from k];refine Ae (Ay (wpAny_throw ?_));refine Ae (wpAny_isInstance (T:= "StopIteration") (b:=true) ⟨_,Cb _ rfl,rfl⟩ isSubtype_stop ?_);exact Ay (l _ (((o4 ..).extBut.push _).push _))
end
end PySem
namespace L2
open PySem PySem.Spec PyProof.Rows
section
variable {X:Cx}
def NP:V->S'->Hp->VK->Prop:=λx vs H Q=>∃a kvs k b d,x=.ref a/\vs=[.ref b,d]/\H a=some (.dT kvs)/\H b=some (.tup (k.map kV))/\kvs.length<sizeLine/\(∀v,A2 kvs k=some v->Q v H)/\(A2 kvs k=none->Q d (upd H a (.dT (Bk kvs k d))))
def Ye(A:X.A.units+1<cLine):Nq X "dict.setdefault" NP:=by
 intro Z s σ H x T v U Q I B C h;obtain⟨a,g,k,b,d,rfl,rfl,hd,l,V,D,E⟩:=h;cases B;obtain⟨u,r,rfl,F,m⟩:=K3 C;cases(show u=Value.ref b from F);obtain⟨z,n,o,j,p⟩:=G9 I.hok hd;have i:o.length<=sizeLine:=by rw[<-Paired.length j];exact z
 have f:=j.val k
 refine call_meetsIn PySem.F.slot_dict_setdefault p.typeIs PySem.F.entry_dict_setdefault (PySem.F.args_dict_setdefault_3 _ _ _) (X9 (knd:=tupleKind (Eu X.prog X.w)) a b n r)
  ⟨tupleKind_room_in1 A,k,o,K9 I.hok l,p,i,λy G=>?_,λJ W S K=>?_⟩
 rw[G] at f
 cases e:A2 g k with
 |none=>rw[e] at f;exact False.elim f
 |some v0=>rw[e] at f;exact⟨v0,H,I.tok _,f,D v0 e⟩
 rw[J] at f
 cases e:A2 g k with
 |some v0=>rw[e] at f;exact False.elim f
 |none=>
  have i:(Bk g k d).length<=sizeLine:=by have:=O1 g k d;lia
  obtain⟨q,L,M,t,N,O,P,_,R⟩:=S;refine⟨d,_,O2 (ob:=.dT (Bk g k d)) I (by rw[hd];exact True.intro) K ⟨q,t⟩ ⟨i,n,_,(j.put k l m).keeps λc Y w=>?_,q,L,M,t,N,O,P,R⟩,m,E e⟩;rw[AI (Mq w hd (λz=>nomatch z))];exact w
def Pg (H U Z:Hp):Prop:=∀b,Z b=U b\/H b=none/\∃kvs o,U b=some (.dT kvs)/\Z b=some (.frz o (.dT kvs))
def Inv.frz{pins:B'}{s:Shared}{σ:St}{H Z:Hp}(I:Inv X pins σ H s)(h:∀b,Z b=H b\/∃kvs o,s.heap.get? b=some o/\H b=some (.dT kvs)/\Z b=some (.frz o (.dT kvs))):Inv X pins σ Z s:=by
 have same:∀b u,H b=some u->(∀kvs,u≠.dT kvs)->Z b=some u:=λb u e n=>by
  rcases h b with z|⟨kvs,o,_,z,_⟩;rw[z];exact e;rw[e] at z;cases z;exact absurd rfl (n kvs)
 refine I.step (g':=s.gens) (t':=s.toks) (d':=s.drawn) (h':=s.heap) (ch:=[]) (λb d=>nomatch d) (λb o ζ ζ ζ z ζ=>z) (λb o ζ ζ ζ z ζ=>⟨o.slots,z⟩) (λb o ζ ζ n=>?_) (λb o ζ z=>⟨o,z⟩)
  (λb f z=>same b _ z λζ q=>nomatch q) (λb o u z=>same b _ z λζ q=>nomatch q) (λb k z=>⟨#[],by rw[same b _ z λζ q=>nomatch q];simp⟩) (λm i=>i) (λb u z=>?_) I.bare
 rcases h b with z|⟨kvs,o,_,z,_⟩;rw[z];exact n;rw[n] at z;cases z;have a:∀{v:HO},H b=some v->AE X.prog X.w Z s.heap b v:=λ{v}e=>(I.hok b v e).stay (λζ ζ ζ q=>q) (λc q=>same c _ q λζ q=>nomatch q) λc f q=>same c _ q λζ q=>nomatch q;rcases h b with y|⟨kvs,o,g,y,j⟩;rw[y] at z;exact a z;rw[j] at z;cases z;exact⟨g,a y⟩
def Sb (t:TE):TE:=λσ H Q=>t σ H λv U=>∀Z,Pg H U Z->(∀b kvs,H b=none->U b=some (.dT kvs)->∃o,Z b=some (.frz o (.dT kvs)))->Q v Z
set_option tactic.hygienic true in
def Hs{e:Expr}{t:TE}(m:PE X e t):PE X e (Sb t):=by
 intro r s σ H Q I h;refine AQ (m r s σ H _ I h) λu i⟨x,U,k,n,p⟩=>?_
 classical
 let Z:Hp:=λb=>if H b=none then(match U b,i.heap.get? b with
  |some (.dT a),some o=>some (.frz o (.dT a))
  |z,_=>z) else U b
 have j:∀b,Z b=U b\/H b=none /\ ∃a o,i.heap.get? b=some o/\U b=some (.dT a)/\Z b=some (.frz o (.dT a)):=λb=>by
  by_cases c:H b=none
  have e:Z b=(match U b,i.heap.get? b with
   |some (.dT a),some o=>some (.frz o (.dT a))
   |z,_=>z):=Ap c
  by_cases hd:∃a o,U b=some (.dT a)/\i.heap.get? b=some o;obtain⟨a,o,d,f⟩:=hd;rw[d,f] at e;exact .inr ⟨c,a,o,f,d,e⟩;refine .inl ?_;rw[e];split;rename_i a o d f;exact absurd ⟨a,o,d,f⟩ hd;rfl;exact .inl (Ag c)
 refine⟨x,Z,k.frz λb=>(j b).imp id λ⟨_,z⟩=>z,n,p Z (λb=>(j b).imp id λ⟨c,a,o,_,d,f⟩=>⟨c,a,o,d,f⟩) λb a c z=>?_⟩;rcases j b with y|⟨_,v,o,_,l,q⟩;exfalso;obtain⟨_,_,_,_,o,w,A,g,_⟩:=(show AE X.prog X.w U i.heap b (.dT a) from k.hok b _ z);have e:Z b=some (.frz o (.dT a)):=(by show(if H b=none then _ else _)=_;rw[Ap c,z,g]);rw[e,z] at y;cases y;rw[z] at l;cases l;exact⟨o,q⟩
def Sc (a:Addr) (o:Obj) (kvs:List (List A3×V)):It:=
 ⟨λi H=>H a=some (.frz o (.dT kvs))/\i<kvs.length,λi H x H'=>H'=H/\∃k v b,kvs[i]?=some (k,v)/\x=.ref b/\H b=some (.tup (k.map kV)),λi H=>H a=some (.frz o (.dT kvs))/\kvs.length<=i⟩
def Ly{α β:Type}{F:α->β->Prop}{l:List α}{m:List β}(h:Paired F l m):∀{i:Nat}(a:i<l.length),∃y,m[i]?=some y/\F l[i] y:=by
 induction h with
 |nil=>intro i a;exact absurd a (Nat.not_lt_zero _)
 |cons r t b=>
  intro i a;cases i with|zero=>exact⟨_,rfl,r⟩|succ i=>exact b (i:=i) (by simpa using a)
def Yg{P:Program}{w:World}{K:Aj}{S:Expr}{a j:Addr}{o:Obj}{kvs:List (List A3×V)}{es:Array DictEntry}{ep:Nat}(hd:o.data=.dict es ep) :
 F0 P w K S (Sc a o kvs) [j] j (λi h=>h.IsKeyIter j a i es.size ep) where
 mem:=by simp
 obj:=λi h f b l=>by have e:b=j:=(by simpa using l);subst e;obtain⟨o,e,c,d⟩:=f;exact⟨o,e,λah z=>by rw[d] at z;cases z⟩
 keep:=λi h p f k=>f.at λo e=>k j (by simp) o e
 item:=by intro X t u v N i R s σ H E I r f x;subst t u v;obtain⟨A,B⟩:=x;obtain⟨m,z,y,T,M,U,ab,ae,g,W,n,C,Y⟩:=(show AE X.prog X.w H s.heap a (.frz o (.dT kvs)) from I.hok a _ A);rw[m] at g;cases g;rw[hd] at n;cases n;obtain⟨q,Z,e1,e2,e3⟩:=Ly M B;have O:=entry_at (knd:=tupleKind (Eu X.prog X.w)) C i;rw[Z] at O;obtain⟨af,ag⟩:=Array.getElem?_eq_some_iff.mp O;obtain⟨D,F,aa,G,J,L⟩:=r j (by simp);refine Yc f m hd af λp Q sb=>?_;have I1:Inv X R σ H {s with heap:=p}:=I.turned (t':=s.toks) (λb o l e=>(sb.2 b l).trans e) D F G J L;obtain⟨oi,e,c,d⟩:=id Q;refine⟨_,rfl,GZ (s:={s with heap:=p}) e c d (by decide) ⟨.ref q.2.1,H,I1,?_,⟨rfl,kvs[i].1,kvs[i].2,q.2.1,by simp[B],rfl,e2⟩,Q,λb l=>(r b l).1⟩⟩;rw[ag];rfl
 done:=by intro X t u v N i R s σ H E I r f x;subst t u v;obtain⟨A,B⟩:=x;obtain⟨m,z,y,T,M,U,ab,ae,g,W,n,C,Y⟩:=(show AE X.prog X.w H s.heap a (.frz o (.dT kvs)) from I.hok a _ A);rw[m] at g;cases g;rw[hd] at n;cases n;have ai:=size_of_entries C;have hl:=Paired.length M;obtain⟨D,F,aa,G,J,L⟩:=r j (by simp);exact Yd (I.ok.hd N) f m hd (by lia) λp eb=>⟨rfl,I.turned (t':=s.toks) (λb o l e=>eb b o l e) D F G J L⟩
 self:=λζ ζ ζ ζ ζ f h=>wpAny_pyIter_keyiter f h
def NQ (tl:TE):TI:=λσ H R=>tl σ H λx U=>∃a kvs,x=.ref a/\Rd U a (.dT kvs)/\∀o,(U a=some (.dT kvs)\/U a=some (.frz o (.dT kvs)))->R (Sc a o kvs) (upd U a (.frz o (.dT kvs)))
def I0{p l:Expr}{tl:TE}(r:PE X l tl):PI X p l (NQ tl):=by
 intro n s σ H R I h;refine AQ (r n s σ H _ I h) λv c⟨x,U,i,t,u⟩=>?_;obtain⟨a,d,e,k,q⟩:=u;subst e;cases t;obtain⟨_,w,B,_,o,C,D,g,y,m,_⟩:=(show AE X.prog X.w U c.heap a (.dT d) from G8 i.hok k)
 have f:U a=some (.dT d)\/U a=some (.frz o (.dT d)):=by
  rcases k with z|⟨A,z⟩;exact .inl z;have:=(show AE X.prog X.w U c.heap a (.frz A (.dT d)) from i.hok a _ z).1;rw[g] at this;cases this;exact .inr z
 have j:Inv X n σ (upd U a (.frz o (.dT d))) c:=i.frz λb=>by
  by_cases e:b=a;subst e;rcases f with z|z;exact .inr ⟨d,o,g,z,Ab⟩;exact .inl (Ab.trans z.symm);exact .inl (AI e)
 refine Yb w g y m ?_;refine⟨c.heap.objs.size,[c.heap.objs.size],_,_,_,rfl,j.kept (t':=c.toks) λb o e=>Ba _ e,Yg m,⟨_,Cb _ rfl,rfl,rfl⟩,λb f=>?_,q o f⟩;have e:b=c.heap.objs.size:=(by simpa using f);subst e;exact j.fpOk (AK _) (j.hok.fresh (AK _))
def Yh{a:Addr}{o:Obj}{kvs:List (List A3×V)}{g:TG}{tb:TS}{D:Ends}{σ:St}{H:Hp}(Pv:Nat->St->Hp->Prop)(e:Pv 0 σ H)(d:∀i σ H,i<=kvs.length->Pv i σ H->H a=some (.frz o (.dT kvs)))
 (f:∀i k v b σ H,kvs[i]?=some (k,v)->H b=some (.tup (k.map kV))->Pv i σ H->g (.ref b) σ H λσ2 Z=>tb {D with nx:=Pv (i+1),ct:=Pv (i+1),bk:=D.nx} σ2 Z) (hd:∀σ H,Pv kvs.length σ H->D.nx σ H):Fy (Sc a o kvs) g tb D σ H:=Nj kvs.length Pv e (λi σ H p c=>⟨d i σ H (CT c) p,c⟩) (λσ H p=>⟨d _ σ H (AK _) p,AK _⟩) (λi x σ H l p c y=>by obtain⟨rfl,k,v,b,h,rfl,j⟩:=y;exact f i k v b σ _ h j p) hd
end
end L2
namespace PySem
section
variable {prog:Program} {w:World} {A:Around} {E:D'} {s:Shared}
theorem Yi{a:Addr}{o:Obj}{xs:M'}{k:Nat}{Q:K'->Shared->Prop}
 (f:s.heap.get? a=some o) (i:o.cls=.type "list") (p:o.data=.seq xs k) (hd:o.dict=none) (q:A.handled=none)
 (h:∀h' j,(∀b o,s.heap.get? b=some o->h'.get? b=some o)->Q none {s with heap:=h',toks:=j}):wpAny (model prog w) A (getAttr? (.ref a) "keys") Q E s:=by
 obtain⟨c,dct,H,r⟩:=o;simp only at i p hd;subst i p hd;obtain⟨t,g,d,j,u⟩:=s;have l:∀m,(⟨t,g,d,m,u⟩:Shared).TypeIs (.ref a) "list" :=λζ=>⟨_,f,rfl⟩;have x:=sub_AttributeError;have y:=F.slot_list_getattribute.lookup;have z:=F.slot_list_getattribute.bind (.ref a);have B:=am_list_getattr_none;have v:typeLookup (.type "list") "keys" = pure none:=by rw[typeLookup_type,builtinLookup_eq_fast];kernel_rfl
 unfold getAttr? getAttrBy? getAttrBy
 repeat (any_goals (first|assumption|exact l _|((with_reducible show wpAny _ _ (call (Value.builtin "list.__getattribute__") _ _) _ _ _);refine call_meets F.slot_list_getattribute (l _) am_entry_list_getattribute (F.args_list_getattribute_2 _ _) (meets_getattribute_miss_list a xs k r "keys" _ v (by decide) (by size_fits)) ⟨f,q,λh' m e n=>?_⟩)|wp_step))
 obtain⟨C,D,G⟩:=n.there;show wpAny _ _ (getattributeRaised _ _ _ _ _ _ _) _ _ _;unfold getattributeRaised
 repeat (any_goals (first|assumption|wp_step))
 exact h _ _ n.keeps
namespace F
def args_minD(a v:Value):argsOk "min" ⟨[a],[(Str.ofString "default",v)]⟩:=by unfold argsOk;kernel_rfl
def entry_upd_loop:entryFor table "dict.update.loop" = some Builtin.«dict.update.loop»:=entryFor_of_tree (by kernel_rfl)
def plain_upd_loop:plainId "dict.update.loop" = true:=by decide +kernel
end F
variable {R:Result->Shared->Prop} {I:Addr} {fp r:G'} {n:Nat} {P:Nat->Value->Prop} {St:Nat->Heap->Prop}
def Ph:(toString "min" ++ toString ".loop" : String) = "min.loop" :=by decide
theorem Sd(W:Walks prog w A.in1 I fp r n P St)(d:Nat->Nat->Bool)(G:CmpOf prog w A.in1 .Lt P d)(S:Addr)(m:S∉fp)(u:List (Str×Value)) :
 ∀(k j:Nat)(s:Shared)(a:Value)(c:Nat),n=j+1+k->St (j+1) s.heap->P (argBest d j) a->s.heap.get? S=some {cls:=.type "list",data:=.seq #[a,a] c} ->
 (∀v h' p,P (argBest d (n-1)) v->(∀b o,b∉r->b≠S->s.heap.get? b=some o->h'.get? b=some o)->R (.ok (.ret v)) {s with heap:=h',toks:=p}) ->
 codeAny (model prog w) A (.builtin "min.loop" ⟨[.ref I,.none,.ref S],u⟩) R s
 |0,j,s,a,c,H,z,t,l,q=>by subst H;refine codeAny_builtin F.entry_min_loop ?_;rw[o6 F.plain_min_loop _];show wpAny _ A.in1 (seqItems? (.ref S) >>= _) _ _ s;refine Ae (F8 l rfl ?_);show wpAny _ A.in1 (tryCatch (pyNext (.ref I)) _ >>= _) _ _ s;refine Ae (wpAny_tryCatch (W.done s _ _ z λh' p g=>?_));show wpAny _ A.in1 (updateSeq S (λζ=>#[]) >>= _) _ _ _;refine Ae (wpAny_updateSeq (g S _ (λh=>m (W.sub _ h)) l) rfl (Ae (wpAny_letGo (Ay (q a _ p t λb o f i e=>?_)))));exact(Heap.get?_update_other _ _ (Ne.symm i)).trans (g b o f e)
 | k + 1,j,s,a,c,H,z,t,l,q=>by
   refine codeAny_builtin F.entry_min_loop ?_;rw[o6 F.plain_min_loop _];show wpAny _ A.in1 (seqItems? (.ref S) >>= _) _ _ s;refine Ae (F8 l rfl ?_);show wpAny _ A.in1 (tryCatch (pyNext (.ref I)) _ >>= _) _ _ s;refine Ae (wpAny_tryCatch (W.item (j+1) s _ _ (by lia) z λv h' p J L g=>?_));have B:=g S _ (λh=>m (W.sub _ h)) l;show wpAny _ A.in1 (tryCatch (holding [v,v] (richCompare .Lt v a >>= _)) _ >>= _) _ _ _;refine Ae (wpAny_tryCatch (Fl (Ae (G (j+1) (argBest d j) v a _ _ _ J t (Ae (Fl (FN (Ae (wpAny_letGo (Ay ?_))))))))))
   cases K:d (j+1) (argBest d j) with
   |true=>simp only[if_true];refine Ae (wpAny_updateSeq B rfl (Ae (wpAny_letGo ?_)));rw[Ph];refine Ay ⟨plainId_quiet F.plain_min_loop _,Sd W d G S m u k (j+1) _ v _ (by lia) (W.frame _ _ _ L λb M o e=>?_) (by simp only[argBest,K,if_true];exact J) (o2 _ B rfl) λx y C D E=>?_⟩;exact(Heap.get?_update_other _ _ (λh:S=b=>m (by rw[h];exact M))).trans e;exact q x y C D λb o f i e=>E b o f i ((Heap.get?_update_other _ _ (Ne.symm i)).trans (g b o f e))
   |false=>
    simp only[Fk,if_false];refine Ae (wpAny_letGo ?_);rw[Ph]
    exact Ay ⟨plainId_quiet F.plain_min_loop _,Sd W d G S m u k (j+1) _ a c (by lia) L (by simp only[argBest,K,Fk,if_false];exact t) B λx y C D E =>
     q x y C D λb o f i e=>E b o f i (g b o f e)⟩
theorem Yj{x d:Value}{Q:D'}
 (h:wpAny (model prog w) A.in1 (pyIter x) (λm c=>∃I fp r n P St f,m=.ref I/\Walks prog w A.in1 I fp r n P St/\St 0 c.heap/\(∀b∈fp,b<c.heap.objs.size)/\CmpOf prog w A.in1 .Lt P f /\
  ∀v h' g,(if n=0 then v=d else P (argBest f (n-1)) v)->(∀b o,b∉r->c.heap.get? b=some o->h'.get? b=some o)->Q v {c with heap:=h',toks:=g}) E s) :
 wpAny (model prog w) A (call (.builtin "min") [x] [(Str.ofString "default",d)]) Q E s:=by
 refine wpAny_call (codeAny_call_builtin F.plain_min F.entry_min (wpAny_of_eq (a:=()) (by
  have k:=F.args_minD x d;simp only[checkBuiltinCall,F.kind_min];unfold argsOk at k
  cases R:Manifest.signature? "min" with
  |none=>rfl
  |some U=>rw[R] at k;exact k) ?_))
 show wpAny _ A.in1 (Builtin.Builtins.bindParams "min" ["key", "default"] 0 ⟨[],[(Str.ofString "default",d)]⟩ >>= _) _ _ s;refine Ae (wpAny_of_eq (show Builtin.Builtins.bindParams "min" ["key", "default"] 0 ⟨[],[(Str.ofString "default",d)]⟩=pure [none,some d] from rfl) ?_);refine Ae (Ay ?_);refine Ae (Fw h (λm c z=>?_) λζ ζ e=>e);obtain⟨I,fp,r,n,P,St,f,rfl,W,H,J,S,p⟩:=z;refine Ae (wpAny_newObj_type ?_);have l:c.heap.objs.size∉fp:=λB=>GU _ (J _ B);have K:c.heap.objs.size∉r:=λh=>l (W.sub _ h);rw[Ph];have q:(c.heap.push {cls:=.type "list",data:=.seq #[]}).get? c.heap.objs.size=some {cls:=.type "list",data:=.seq #[]}:=Cb _ rfl;have y:=W.frame _ _ (c.heap.push {cls:=.type "list",data:=.seq #[]}) H λb ζ o e=>Ba _ e;refine Ay ⟨plainId_quiet F.plain_min_loop _,codeAny_builtin F.entry_min_loop ?_⟩;rw[o6 F.plain_min_loop _];show wpAny _ A.in1 (seqItems? (.ref c.heap.objs.size) >>= _) _ _ _;refine Ae (F8 q rfl ?_);show wpAny _ A.in1 (tryCatch (pyNext (.ref I)) _ >>= _) _ _ _;cases n with|zero=>refine Ae (wpAny_tryCatch (W.done _ _ _ y λh' g i=>?_));exact Ae (H0 (Ay (p d _ g (by rw[Ap rfl]) λb o j e=>i b o j (Ba _ e))))|succ n=>refine Ae (wpAny_tryCatch (W.item 0 _ _ _ (Nat.succ_pos _) y λv h' g C T i=>?_));have u:=i _ _ K q;show wpAny _ A.in1 (updateSeq c.heap.objs.size (λζ=>#[v,v]) >>= _) _ _ _;refine Ae (wpAny_updateSeq u rfl ?_);rw[Ph];refine Ay ⟨plainId_quiet F.plain_min_loop _,Sd W f S _ l _ n 0 _ v _ (by lia) (W.frame _ _ _ T λb L o e=>?_) C (o2 _ u rfl) λD G M N O=>?_⟩;exact(Heap.get?_update_other _ _ (λh:c.heap.objs.size=b=>l (by rw[h];exact L))).trans e;refine p D G M (by rw[Ag (Nat.succ_ne_zero n)];exact N) λb o j e=>?_;have t:b≠c.heap.objs.size:=Ch (Bg e);exact O b o j t ((Heap.get?_update_other _ _ (Ne.symm t)).trans (i b o j (Ba _ e)))
end
end PySem
namespace L2
open PySem PySem.Spec PyProof.Rows
section
variable {X:Cx}
def Pj:E'->V
 |[]=>.non
 |n::ns=>.int (ns.foldl min n)
theorem U1(f:Nat->Int):∀n,f (argBest (λi j=>decide (f i<f j)) n)=((List.range n).map λi=>f (i+1)).foldl min (f 0)
 |0=>rfl
 |n+1=>by
   have a:=U1 f n;rw[List.range_succ,Bh,M4];show f (if _ then _ else _)=min _ (f (n+1));rw[<-a];by_cases h:f (n+1)<f (argBest (λi j=>decide (f i<f j)) n);rw[Ap (A5 h)];lia;rw[Ag (by simpa using h)];lia
def Yk(n:Int)(ns:E'):((List.range ns.length).map λi=>(n::ns).getD (i+1) 0)=ns:=by apply n9;intro i;rw[Bf];by_cases h:i<ns.length;rw[m7 h,Option.map_some,Dv,List.getElem?_cons_succ,AM h];rfl;rw[GH (by simpa using h),GH (by lia)];rfl
def NR (ta:TA):TE:=λσ H Q=>ta σ H λvs U=>∃p ns,vs=[.ref p]/\U p=some (.lst (ns.map V.int))/\Q (Pj ns) U
def I7{e:Expr}{r:TA}{p L B J:Pos}{j:Nat}(C:X.calm=true)(D:Gl X "min")(E:X.mg "min" = none)(F:PA X [e] r)
 (f:backTo L (starEach [e] X.env)=(false,eval e X.env)::backTo L (starEach [] X.env):=by rfl) (R:(backTo L (starEach [e] X.env)).any (·.1)=false:=by rfl) :
 PE X (.Call (.Name "min" p) [e] [⟨some "default",.Constant .none j B,J⟩] L) (NR r):=by
 intro T s σ H Q I h;refine wpAny_Call_Name_kw (KL I D E (u:=.builtin "min") (by decide +kernel) (callWith_kw (AQ (F L T s σ H _ I h) λY c⟨Z,U,k,G,K⟩=>kws_cons (Constant_none (kws_nil ?_))) f R));obtain⟨l,a,rfl,M,q⟩:=K;obtain⟨u,rfl,N⟩:=F9 G;cases N;obtain⟨z,g,n,w,e⟩:=(show AE X.prog X.w U c.heap l (.lst (a.map V.int)) from k.hok l _ M);have x:=WT w;have y:c.heap.IsList l g.toArray:=⟨_,e,rfl,n,rfl⟩;have W:g.length=a.length:=by have:=w.length;rw[An] at this;exact this.symm
 refine Yj (wpAny_pyIter_list y ⟨_,[c.heap.objs.size,l],[c.heap.objs.size],_,λi v=>g.toArray[i]?=some v,λi h=>h.IsListIter c.heap.objs.size l i/\h.IsList l g.toArray,λi j=>decide (a.getD i 0<a.getD j 0),rfl,Walks.list (A:=X.A.in1) (k.ok.hd C) c.heap.objs.size l (Ch (Bg e)) g.toArray,
  ⟨⟨_,Cb _ rfl,rfl,rfl⟩,y.push _⟩,λb f=>?_,CmpOf.ints_lt (λi=>a.getD i 0) (λi v d=>x.int_at i v (by simpa using d)),λv O tk d P=>?_⟩)
 show b<(c.heap.push _).objs.size;rw[n7];rcases BB.mp f with rfl|f;exact Qt _;rw[AX.mp f];exact Nat.lt_succ_of_lt (Bg e);have S:∀b o,c.heap.get? b=some o->O.get? b=some o:=λb o z=>P b o (by simpa using Ch (Bg z)) (Ba _ z);refine⟨Pj a,U,k.kept S,?_,q⟩;rw[Cq,W] at d;cases a with|nil=>exact d|cons m a=>rw[CV,Ag (Nat.succ_ne_zero _),Nat.add_sub_cancel] at d;obtain⟨t,rfl⟩:=x.int_at (argBest (λi j=>decide ((m::a).getD i 0<(m::a).getD j 0)) a.length) v (by rw[<-List.getElem?_toArray];exact d);refine⟨t,?_⟩;rw[U1 λi=>(m::a).getD i 0,Yk];rfl
def Kg (acc:List (List A3×V)) (ps:List (List A3×V)):List (List A3×V):=ps.foldl (λa kv=>Bk a kv.1 kv.2) acc
def EO (H:Hp) (xs:S') (ps:List (List A3×V)):Prop:=Paired (λx(p:List A3×V)=>∃t b,x=.ref t/\H t=some (.tup [.ref b,p.2])/\H b=some (.tup (p.1.map kV))) xs ps
def Yl{pins:B'}{σ:St}{A:Around}{R:Result->Shared->Prop}{H:Hp}{p l f:Addr}(hu:A.units+1<cLine)(hh:A.in1.handled=none)(k:H p=none)(G:f≠p) :
 ∀(xs:S')(m:List (List A3×V))(d:S')(acc:List (List A3×V))(s:Shared),EO H xs m->H l=some (.lst (d++xs))->acc.length+xs.length<=sizeLine->Inv X pins σ (upd H p (.dT acc)) s ->
 s.heap.IsListIter f l d.length->C1 X pins H f->(∀L,Inv X pins σ (upd H p (.dT (Kg acc m))) L->R (.ok (.ret .none)) L)->∀n:Int,
 codeAny (model X.prog X.w) A (.builtin "dict.update.loop" ⟨[.ref p,.ref f,rawInt n,.none],[]⟩) R s:=by
 intro xs m d acc s hx
 induction hx generalizing d acc s with
 |nil=>intro g M I v r w n;have J:upd H p (.dT acc) l=some (.lst (d++[])):=(AI (Be g k)).trans g;obtain⟨y,B,ab,C,D,E⟩:=r;have K:upd H p (.dT acc) f=none:=(AI G).trans y;obtain⟨z,Y,c,F,e⟩:=(show AE X.prog X.w _ s.heap l (.lst (d++[])) from I.hok l _ J);have ao:=F.length;rw[DR] at ao;refine codeAny_builtin PySem.F.entry_upd_loop ?_;rw[o6 PySem.F.plain_upd_loop _];show wpAny _ A.in1 (pyNext (.ref f) >>= _) _ _ s;refine Ae (wpAny_pyNext_list_end hh v ⟨_,e,rfl,c,rfl⟩ (by simp;lia) λj eb=>?_);exact Ae (Ay (Ay (w _ (I.turned (t':=s.toks) (λb o h e=>eb b o h e) K B C D E))))
 |@cons x q xs m hq tl ih=>
  intro g M I v r w n;obtain⟨t,b,rfl,N,h⟩:=hq;have J:upd H p (.dT acc) l=some (.lst (d++.ref t::xs)):=(AI (Be g k)).trans g;have ag:upd H p (.dT acc) t=some (.tup [.ref b,q.2]):=(AI (Be N k)).trans N;have Z:upd H p (.dT acc) b=some (.tup (q.1.map kV)):=(AI (Be h k)).trans h;obtain⟨y,B,ab,C,D,E⟩:=id r;have K:upd H p (.dT acc) f=none:=(AI G).trans y;obtain⟨z,Y,c,F,e⟩:=(show AE X.prog X.w _ s.heap l (.lst (d++.ref t::xs)) from I.hok l _ J);obtain⟨aq,ah,ru⟩:=F.get (i:=d.length) (x:=.ref t) (by simp);cases ru;refine codeAny_builtin PySem.F.entry_upd_loop ?_;rw[o6 PySem.F.plain_upd_loop _];show wpAny _ A.in1 (pyNext (.ref f) >>= _) _ _ s;refine Ae (wpAny_pyNext_list_item v (⟨_,e,rfl,c,rfl⟩:s.heap.IsList l Y.toArray) (x:=.ref t) (by simpa using ah) λj ai sb=>?_);have u:Inv X pins σ (upd H p (.dT acc)) {s with heap:=j}:=I.turned (t':=s.toks) (λb o h e=>(sb.2 b h).trans e) K B C D E;obtain⟨_,ts,rt,ot,O,ct,nt,dt⟩:=(show AE X.prog X.w _ j t (.tup [.ref b,q.2]) from u.hok t _ ag);obtain⟨u1,P,rfl,r1,r2⟩:=K3 rt;cases(show u1=Value.ref b from r1);obtain⟨zd,hm,es,aa,dd⟩:=G9 u.hok (Ab (H:=H) (a:=p) (o:=.dT acc));have aj:es.length<=sizeLine:=by rw[<-Paired.length aa];exact zd
  have ar:(Bk acc q.1 q.2).length<=acc.length+1:=O1 acc q.1 q.2;rw[CV] at M;refine Ae (Fl (Ae (wpAny_tryCatch ?_)));show wpAny _ A.in1 (Builtin.Dict.pairItems (.ref t)) _ _ _;unfold Builtin.Dict.pairItems;refine Ae (OL (s:={s with heap:=j}) (T:= "tuple") ⟨ot,O,ct⟩ ?_);rw[Ap (by decide)];refine Ae (F8 (s:={s with heap:=j}) O dt (Ay ?_));show wpAny _ A.in1 (holding [Value.ref b,P] (dictSet p (.ref b) P)) _ _ _;refine Fl (wpAny_dictSet_heap (hsz:=aj) (knd:=tupleKind (Eu X.prog X.w)) (tupleKind_room_in1 hu) (K9 u.hok Z) dd λh2 ak Q=>?_);obtain⟨S,al,an,U,ae,af,g4,_,g5⟩:=ak;have I2:Inv X pins σ (upd H p (.dT (Bk acc q.1 q.2))) {s with heap:=h2,toks:=s.toks+(tupleKind (Eu X.prog X.w)).draws q.1}:=(by have:=O2 (t':=s.toks+(tupleKind (Eu X.prog X.w)).draws q.1) (ob:=.dT (Bk acc q.1 q.2)) u (by rw[Ab];exact True.intro) Q ⟨S,U⟩ ⟨by lia,hm,_,(aa.put q.1 Z r2).keeps λc ys W=>?_,S,al,an,U,ae,af,g4,g5⟩;rw[Ir] at this;exact this;rw[AI (Mq W Ab (λz=>nomatch z))];exact W);refine Ay ⟨plainId_quiet PySem.F.plain_upd_loop _,?_⟩;have:=ih (d++[.ref t]) (Bk acc q.1 q.2) _ (by rw[Fv];exact g) (by lia) I2 (by rw[AY];exact ai.at λo e=>(Q.2 f G).trans e) r w (n+1);exact this
def Ja:S'->Hp->VK->Prop:=λvs H Q=>∃l xs ps,vs=[.ref l]/\H l=some (.lst xs)/\xs.length<sizeLine/\EO H xs ps/\∀p,H p=none->Q (.ref p) (upd H p (.dT (Kg [] ps)))
def Ym(k:X.calm=true)(B:X.A.units+2<cLine):Br X (.type "dict") Ja:=by
 intro pins s σ H L M Q I r h;obtain⟨l,m,C,rfl,n,N,D,q⟩:=h;obtain⟨u,rfl,E⟩:=F9 r;cases E;have p:H s.heap.objs.size=none:=I.hok.fresh (AK _);refine callType_codes (Q₁:=λx t=>x=.ref s.heap.objs.size/\t={s with heap:=s.heap.push {cls:=.type "dict",data:=.dict #[]}}) PySem.F.kt_called_dict (PySem.F.kt_typeCall_dict_1 _) PySem.F.entry_dict_init (kt_code_dict_new _ ⟨rfl,rfl⟩) ?_;rintro x t ⟨rfl,rfl⟩;have F:=I.laid (a:=s.heap.objs.size) (o:=.dT []) (t':=s.toks) (h':=s.heap.push {cls:=.type "dict",data:=.dict #[]}) (λζ ζ q=>Ba _ q) (AK _) (Ub s.heap I.big);obtain⟨z,R,c,O,e⟩:=(show AE X.prog X.w _ s.heap l (.lst m) from I.hok l _ n);have f:=Ba {cls:=.type "dict",data:=.dict #[]} e;have v:Shared.TypeIs {s with heap:=s.heap.push {cls:=.type "dict",data:=.dict #[]}} (.ref s.heap.objs.size) "dict" :=⟨_,Cb _ rfl,rfl⟩;refine⟨v,PySem.F.args_dict_init_2 _ _,?_⟩;unfold Builtin.«dict.__init__»;refine Ae ?_;unfold Builtin.Dict.selfAndRest;refine Ae (wpAny_notOrdered_dict v ?_);show wpAny _ _ (pure (s.heap.objs.size,[Value.ref l])) _ _ _;refine Ay ?_;show wpAny _ _ (Builtin.Dict.updateFrom "dict.__init__" s.heap.objs.size (.ref l) [] .none) _ _ _;unfold Builtin.Dict.updateFrom;refine Ae (OL (T:= "list") ⟨_,f,rfl⟩ ?_);rw[Ap (by decide)];refine Ae (Yi f rfl rfl rfl (I.ok.hd k) λd g w=>?_);rw[Ap (show(none:K').isNone=true from rfl)];have i:=F.kept (t':=g) w;refine Ae (H0 (Ae (wpAny_pyIter_list (s:={s with heap:=d,toks:=g}) ⟨_,w _ _ f,rfl,c,rfl⟩ ?_)));have G:=i.kept (t':=g) (h':=d.push {cls:=.type "list_iterator",data:=.fields #[.ref l,.int 0 0]}) λb o e=>Ba _ e;obtain⟨j,J⟩:=i.fpOk (AK d.objs.size) (i.hok.fresh (AK _));have y:d.objs.size≠s.heap.objs.size:=λz=>by rw[z,Ab] at j;cases j
 refine Ay ⟨plainId_quiet PySem.F.plain_upd_loop _,Yl (A:=X.A.in1) (X:=X) (pins:=pins) (σ:=σ) (l:=l) (H:=H) B (I.ok.hd k) p y m C [] [] _ D n (by rw[GI];lia) G ⟨_,Cb _ rfl,rfl,rfl⟩ ⟨(AI y).symm.trans j,J⟩ (λP K=>⟨rfl,.ref _,_,K,rfl,q _ p⟩) 0⟩
end
open Ord
def Yn{bs:List Bool}:(List.range bs.length).any (λi=>bs.getD i false)=bs.any id:=by rw[Bool.eq_iff_iff,KC,KC];constructor;rintro⟨i,a,h⟩;have c:=List.mem_range.mp a;rw[Dv,AM c] at h;exact⟨_,Eo c,h⟩;rintro⟨b,d,h⟩;obtain⟨i,a,e⟩:=OJ.mp d;refine⟨i,List.mem_range.mpr a,?_⟩;rw[Dv,AM a,e];exact h
def Se (K:Aj):S'->Hp->VK->Prop:=λvs H Q=>∃(a:Addr)(bs:List Bool),vs=[.ref a]/\Ai K H a (bs.map V.bl)/\Q (.bl (bs.any id)) H
def Yo{X:Cx}(g:X.calm=true):Br X (.builtin "any") (Se X.K):=by
 intro C s σ H t w Q I r h;obtain⟨a,bs,rfl,j,q⟩:=h;obtain⟨u,rfl,k⟩:=F9 r;obtain rfl:u=Value.ref a:=k;obtain⟨c,d,p,x⟩:=I.list j;have f:=d.length;rw[An] at f;have n:a<s.heap.objs.size:=by obtain⟨_,e,_⟩:=p.isList;exact Bg e
 refine call_any_walk (wpAny_pyIter_list p.isList ?_);refine⟨s.heap.objs.size,[s.heap.objs.size,a],[s.heap.objs.size],c.toArray.size,(λi v=>c.toArray[i]?=some v),(λi h=>h.IsListIter s.heap.objs.size a i/\h.IsList a c.toArray),(λi=>bs.getD i false),rfl,Walks.list (A:=X.A.in1) (I.ok.hd g) s.heap.objs.size a (Ch n) c.toArray,⟨⟨_,Cb _ rfl,rfl,rfl⟩,p.isList.push _⟩,Ud d,λy B l=>?_⟩;refine⟨.bl (bs.any id),H,I.kept λb o e=>l b o (λz=>?_) (Ba _ e),?_,q⟩;have m:b=s.heap.objs.size:=(by simpa using z);exact absurd (Bg e) (by rw[m];exact GU _);have e:c.toArray.size=bs.length:=(by rw[Cq,f]);show Value.bool _=Value.bool _;rw[e,Yn]
section
variable {prog:Program} {w:World} {A:Around} {E:D'} {s:Shared}
end
section
variable {X:Cx}
end
end L2
namespace TreeM
def Sf{β:Type}{P:List β->Prop}(nil:P [])(snoc:∀l x,P l->P (l++[x]))(l:List β):P l:=by
 have:∀l:List β,P l.reverse:=λl=>by
  induction l with|nil=>exact nil|cons x l a=>rw[List.reverse_cons];exact snoc _ _ a
 rw[<-List.reverse_reverse l];exact this _
variable {α:Type} [DecidableEq α]
abbrev Ws (α:Type):=List (Nat×List α)
def F2 (p:List α) (w:List α):Option α:=if p <+: w then w[p.length]? else none
def keysAt (ws:Ws α) (p:List α):List (α×Nat):=ws.foldl (λks kw=>match F2 p kw.2 with
 |some m=>if m∈ks.map (·.1) then ks else ks++[(m,kw.1)]
 |none=>ks) []
theorem Kh(ws:Ws α)(k:Nat)(w p:List α):keysAt (ws++[(k,w)]) p=match F2 p w with
 |some m=>if m∈(keysAt ws p).map (·.1) then keysAt ws p else keysAt ws p++[(m,k)]
 |none=>keysAt ws p:=by
 unfold keysAt;rw[M4];rfl
def Jb(p:List α):F2 p p=none:=by unfold F2;rw[Ap (List.prefix_refl p)];exact GH (AK _)
def Yp(p:List α)(m:α):F2 p (p++[m])=some m:=by unfold F2;rw[Ap (Mn p [m]),Ep (AK _),Nat.sub_self];rfl
variable {p:List α}{m:α}
def Yq{q:List α}(h:p≠q):F2 p (q++[m])=F2 p q:=by
 unfold F2;by_cases a:p <+: q;rw[Ap a,Ap (a.trans (Mn q [m]))];have l:p.length<q.length:=(by rcases o5 p.length q.length with x|x;exact x;exact absurd (a.eq_of_length_le x) h);exact Ez l;rw[Ag a];by_cases b:p <+: q++[m];rw[Ap b];rcases List.prefix_concat_iff.mp b with e|e;rw[e];exact GH (AK _);exact absurd e a;rw[Ag b]
def Yr(ws:Ws α)(k:Nat)(p:List α):keysAt (ws++[(k,[])]) p=keysAt ws p:=by
 rw[Kh];have:F2 p ([]:List α)=none:=(by unfold F2;by_cases a:p <+: [];rw[Ap a];rfl;rw[Ag a]);rw[this]
variable {ws:Ws α}
def Sg{k:Nat}{q:List α}(h:p≠q):keysAt (ws++[(k,q++[m])]) p=keysAt (ws++[(k,q)]) p:=by rw[Kh,Kh,Yq h]
def U2(ws:Ws α)(k:Nat)(q:List α)(m:α):keysAt (ws++[(k,q++[m])]) q =
 if m∈(keysAt (ws++[(k,q)]) q).map (·.1) then keysAt (ws++[(k,q)]) q else keysAt (ws++[(k,q)]) q++[(m,k)]:=by
 rw[Kh,Kh,Yp,Jb]
def FE{w:List α}:F2 p w=some m↔p++[m] <+: w:=by
 unfold F2;by_cases a:p <+: w;rw[Ap a];obtain⟨t,rfl⟩:=a;rw[Ep (AK _),Nat.sub_self]
 cases t with
 |nil=>refine⟨λe=>(nomatch e),λe=>?_⟩;have:=e.length_le;rw[DR,AY] at this;exact absurd this (by show ¬p.length+1<=p.length;lia)
 |cons x t=>refine⟨λe=>?_,λe=>?_⟩;cases e;exact⟨t,by simp⟩;obtain⟨u,e⟩:=e;rw[Fv] at e;have:=List.append_cancel_left e;simp at this;rw[this.1];rfl
 rw[Ag a];exact⟨λe=>(nomatch e),λe=>absurd ((Mn p [m]).trans e) a⟩
def keysAt_mem:m∈(keysAt ws p).map (·.1)↔∃a∈ws,p++[m] <+: a.2:=by
 induction ws using Sf with
 |nil=>exact⟨λh=>(nomatch h),λ⟨_,h,_⟩=>(nomatch h)⟩
 |snoc ws a c=>
  obtain⟨k,w⟩:=a;rw[Kh];have both:(∃a∈ws++[(k,w)],p++[m] <+: a.2)↔(∃a∈ws,p++[m] <+: a.2)\/p++[m] <+: w:=(by constructor;rintro⟨x,b,e⟩;rcases BI.mp b with y|y;exact .inl ⟨x,y,e⟩;rw[AX.mp y] at e;exact .inr e;rintro(⟨x,b,e⟩|e);exact⟨x,GG _ b,e⟩;exact⟨_,DI _ (AX.mpr rfl),e⟩);rw[both,<-c,<-FE];cases b:F2 p w with|none=>exact⟨.inl,λz=>z.elim id λe=>(nomatch e)⟩|some x=>dsimp only;by_cases d:x∈(keysAt ws p).map (·.1);rw[Ap d];exact⟨.inl,λz=>z.elim id λe=>by cases e;exact d⟩;rw[Ag d,Bh,BI];refine or_congr Iff.rfl ?_;simp[eq_comm]
def U3{k:Nat}(l:(ws.map (·.1)).Pairwise (· < ·))(h:(m,k)∈keysAt ws p):(∃w,(k,w)∈ws/\p++[m] <+: w)/\∀j w,(j,w)∈ws->p++[m] <+: w->k<=j:=by
 induction ws using Sf with
 |nil=>cases h
 |snoc ws o q=>
  obtain⟨n,v⟩:=o;rw[Bh,List.pairwise_append] at l;obtain⟨r,-,s⟩:=l;have z:∀j w,(j,w)∈ws->j<n:=λj w e=>s j (AN.mpr ⟨_,e,rfl⟩) n (AX.mpr rfl);rw[Kh] at h
  have i:(m,k)∈keysAt ws p->(∃w,(k,w)∈ws++[(n,v)]/\p++[m] <+: w)/\∀j w,(j,w)∈ws++[(n,v)]->p++[m] <+: w->k<=j:=λt=>by
   obtain⟨⟨w,a,b⟩,c⟩:=q r t;refine⟨⟨w,GG _ a,b⟩,λj u e f=>?_⟩;rcases BI.mp e with y|y;exact c j u y f;cases AX.mp y;exact CT (z _ _ a)
  cases g:F2 p v with
  |none=>rw[g] at h;exact i h
  |some x=>rw[g] at h;dsimp only at h;by_cases d:x∈(keysAt ws p).map (·.1);rw[Ap d] at h;exact i h;rw[Ag d] at h;rcases BI.mp h with y|y;exact i y;cases AX.mp y;refine⟨⟨v,DI _ (AX.mpr rfl),FE.mp g⟩,λj u e f=>?_⟩;rcases BI.mp e with y|y;exact absurd (keysAt_mem.mpr ⟨_,y,f⟩) d;cases AX.mp y;exact AK _
section
variable (bet:α->α->Bool)
def AZ:List α->List α->Bool
 |x::s,m::t=>if x=m then AZ s t else bet x m
 |_,_=>false
def gat (ws:Ws α):List α->List α->P'
 |_,[]=>[]
 |a,m::t=>((keysAt ws a).filter λxk=>bet xk.1 m).map (·.2)++gat ws (a++[m]) t
end
variable {bet:α->α->Bool}
def Lz{a b:List α}{x:α}{t:List α}(h:a++[x] <+: b)(c:x≠m):AZ bet b (a++m::t)=bet x m:=by
 obtain⟨u,rfl⟩:=h
 induction a with|nil=>show(if x=m then _ else bet x m)=_;rw[Ag c]|cons y a d=>show(if y=y then _ else _)=_;rw[Ap rfl];exact d
theorem U4{ws:Ws α}(g:(ws.map (·.1)).Pairwise (· < ·))(i:∀m,bet m m=false):∀(b a:List α)(k:Nat),k∈gat bet ws a b->∃w,(k,w)∈ws/\AZ bet w (a++b)=true
 |[],_,_,h=>nomatch h
 |m::t,a,k,h=>by rcases BI.mp h with y|y;obtain⟨⟨x,j⟩,z,rfl⟩:=AN.mp y;obtain⟨l,d⟩:=Mk.mp z;obtain⟨⟨w,f,c⟩,-⟩:=U3 g l;refine⟨w,f,?_⟩;rw[Lz c (λe=>?_)];exact d;rw[e,i] at d;cases d;obtain⟨w,f,c⟩:=U4 g i t (a++[m]) k y;refine⟨w,f,?_⟩;rw[Fv] at c;exact c
theorem U5:∀{b w:List α},AZ bet w b=true->∃a x m t,b=a++m::t/\a++[x] <+: w/\x≠m/\bet x m=true
 |m::t,x::s,h=>by by_cases e:x=m;subst e;have h':AZ bet s t=true:=(by simpa [AZ] using h);obtain⟨a,y,n,u,rfl,c,d,f⟩:=U5 h';exact⟨x::a,y,n,u,rfl,List.cons_prefix_cons.mpr ⟨rfl,c⟩,d,f⟩;have h':bet x m=true:=(by simpa [AZ,e] using h);exact⟨[],x,m,t,rfl,List.cons_prefix_cons.mpr ⟨rfl,List.nil_prefix⟩,e,h'⟩
 |[],[],h=>nomatch h
 |[],_::_,h=>nomatch h
 |_::_,[],h=>nomatch h
theorem U6{ws:Ws α}:∀{a b c:List α}{m x:α}{t:List α}{k:Nat},(x,k)∈keysAt ws (c++a)->bet x m=true->b=a++m::t->k∈gat bet ws c b
 |[],b,c,m,x,t,k,d,e,f=>by subst f;rw[DR] at d;exact GG _ (AN.mpr ⟨_,Mk.mpr ⟨d,e⟩,rfl⟩)
 |y::a,b,c,m,x,t,k,d,e,f=>by subst f;refine DI _ (U6 (a:=a) (m:=m) (x:=x) (t:=t) ?_ e rfl);rw[Fv];exact d
def Ys(i:(ws.map (·.1)).Pairwise (· < ·)){b w:List α}{j:Nat}(h:(j,w)∈ws)(l:AZ bet w b=true):∃k∈gat bet ws [] b,k<=j:=by obtain⟨a,x,m,t,e,d,-,n⟩:=U5 l;obtain⟨⟨y,k⟩,f,g⟩:=AN.mp (keysAt_mem.mpr ⟨_,h,d⟩);dsimp only at g;subst g;exact⟨k,U6 (a:=a) (c:=[]) f n e,(U3 i f).2 j w h d⟩
end TreeM
namespace L2
open PySem PySem.Spec PyProof.Rows Ord TreeM
variable {A:Around}
def LA{k:Nat}(a:BP k A):A.units+2<cLine:=Nat.lt_of_le_of_lt (Nat.add_le_add_left (by decide:2<=64) _) a.units
abbrev FT (m:Au):List A3:=[.inl m.1,.inr m.2.1,.inl m.2.2]
def Yt{a b:Au}(h:FT a=FT b):a=b:=by obtain⟨c,d,e⟩:=a;obtain⟨f,g,i⟩:=b;simp only[FT,List.cons.injEq,Sum.inl.injEq,Sum.inr.injEq,and_true] at h;rw[h.1,h.2.1,h.2.2]
def DG (ws:Ws Au) (c:List Au->Au->Addr) (p:List Au):List (List A3×V):=(keysAt ws p).map λmk=>(FT mk.1,V.ref (c p mk.1))
theorem U7{c:Au->Addr}{m:Au}:∀{ks:List (Au×Nat)},A2 (ks.map λmk=>(FT mk.1,V.ref (c mk.1))) (FT m)=if m∈ks.map (·.1) then some (.ref (c m)) else none
 |[]=>rfl
 | (x,k) :: ks=>by
   rw[Do];by_cases h:x=m;subst h;rw[GN rfl,Ap (by simp)];rw[GO (λz=>h (Yt z)),U7];have:(m∈List.map (·.1) ((x,k)::ks))↔m∈ks.map (·.1):=(by rw[Do,BB];exact⟨λz=>z.elim (λe=>absurd e.symm h) id,.inr⟩);by_cases a:m∈ks.map (·.1);rw[Ap a,Ap (this.mpr a)];rw[Ag a,Ag (λz=>a (this.mp z))]
variable {ws:Ws Au}{c:List Au->Au->Addr}{p:List Au}{m:Au}
def NS:A2 (DG ws c p) (FT m)=if m∈(keysAt ws p).map (·.1) then some (.ref (c p m)) else none:=U7 (c:=c p)
def DX (ws:Ws Au) (p:List Au):Prop:=p=[]\/∃kw∈ws,p <+: kw.2
def U8(h:¬DX ws p):keysAt ws p=[]:=by
 cases e:keysAt ws p with|nil=>rfl|cons x l=>exfalso;obtain⟨a,b,c⟩:=keysAt_mem.mp (show x.1∈(keysAt ws p).map (·.1) by rw[e];simp);exact h (.inr ⟨a,b,(Mn p _).trans c⟩)
def Fb:DX ws (p++[m])↔m∈(keysAt ws p).map (·.1):=by rw[keysAt_mem];exact⟨λh=>h.elim (λe=>absurd e (by simp)) id,.inr⟩
structure A6 (φ:Hp->Addr->List (List A3×V)->Prop) (H:Hp) (ws:Ws Au) (d:List Au->Addr) (c:List Au->Au->Addr):Prop where
 dct:∀p,DX ws p->φ H (d p) (DG ws c p)
 tup:∀p m k,(m,k)∈keysAt ws p->H (c p m)=some (.tup [.int (k:Int),.ref (d (p++[m]))])
 inj:∀p q,DX ws p->DX ws q->d p=d q->p=q
abbrev dW:Hp->Addr->List (List A3×V)->Prop:=λH a kvs=>H a=some (.dT kvs)
abbrev dF:Hp->Addr->List (List A3×V)->Prop:=λH a kvs=>∃o,H a=some (.frz o (.dT kvs))
variable {H H':Hp}{d:List Au->Addr}
def A6.same(e:Ad H H')(h:A6 dF H ws d c):A6 dF H' ws d c:=
 ⟨λp a=>let ⟨o,x⟩:=h.dct p a;⟨o,e _ _ x⟩,λp m k b=>e _ _ (h.tup p m k b),h.inj⟩
def A6.sameW(e:Ad H H')(h:A6 dW H ws d c):A6 dW H' ws d c:=
 ⟨λp a=>e _ _ (h.dct p a),λp m k b=>e _ _ (h.tup p m k b),h.inj⟩
variable {n:Nat}{g:List Au}
def Pk(d:m∈(keysAt (ws++[(n,g)]) g).map (·.1)):DX (ws++[(n,g++[m])]) p↔DX (ws++[(n,g)]) p:=by constructor;rintro(h|⟨b,c,a⟩);exact .inl h;rcases BI.mp c with y|y;exact .inr ⟨b,GG _ y,a⟩;rw[AX.mp y] at a;rcases List.prefix_concat_iff.mp a with e|e;rw[e];exact Fb.mpr d;exact .inr ⟨_,DI _ (AX.mpr rfl),e⟩;rintro(h|⟨b,c,a⟩);exact .inl h;rcases BI.mp c with y|y;exact .inr ⟨b,GG _ y,a⟩;rw[AX.mp y] at a;exact .inr ⟨_,DI _ (AX.mpr rfl),a.trans (Mn g [m])⟩
def A6.stay{φ:Hp->Addr->List (List A3×V)->Prop}(h:A6 φ H (ws++[(n,g)]) d c)(a:m∈(keysAt (ws++[(n,g)]) g).map (·.1)):A6 φ H (ws++[(n,g++[m])]) d c:=by
 have f:∀p,keysAt (ws++[(n,g++[m])]) p=keysAt (ws++[(n,g)]) p:=λp=>by
  by_cases e:p=g;subst e;rw[U2,Ap a];exact Sg e
 refine⟨λp b=>?_,λp x k i=>h.tup p x k (by rw[<-f];exact i),λp q b j=>h.inj p q ((Pk a).mp b) ((Pk a).mp j)⟩;have:=h.dct p ((Pk a).mp b);unfold DG at this ⊢;rw[f];exact this
variable {v:V}
def Yu{kvs:List (List A3×V)}{k:List A3}(h:A2 kvs k=none):Bk kvs k v=kvs++[(k,v)]:=by unfold Bk;rw[Ag (by rw[Nw,h];simp)]
variable {e T:Addr}
def A6.grow{f:Hp}(h:A6 dW H (ws++[(n,g)]) d c)(o:m∉(keysAt (ws++[(n,g)]) g).map (·.1))
 (G:H e=none) (I:∀p,DX (ws++[(n,g)]) p->f (d p)=none) (U:f e=none) (s:Ad H H') (J:H' e=some (.dT [])) (C:H' T=some (.tup [.int (n:Int),.ref e])) :
 ∃d' K,A6 dW (upd H' (d g) (.dT (Bk (DG (ws++[(n,g)]) c g) (FT m) (.ref T)))) (ws++[(n,g++[m])]) d' K/\d' (g++[m])=e/\(∀p,DX (ws++[(n,g++[m])]) p->f (d' p)=none)/\d' []=d []:=by
 have u:DX (ws++[(n,g)]) g:=.inr ⟨_,DI _ (AX.mpr rfl),List.prefix_refl g⟩;have L:A2 (DG (ws++[(n,g)]) c g) (FT m)=none:=(by rw[NS,Ag o])
 have w:∀{p},DX (ws++[(n,g++[m])]) p->p=g++[m]\/p≠g++[m]/\DX (ws++[(n,g)]) p:=λ{p}a=>by
  by_cases e:p=g++[m];exact .inl e;refine .inr ⟨e,?_⟩;rcases a with z|⟨M,N,A⟩;exact .inl z;rcases BI.mp N with y|y;exact .inr ⟨M,GG _ y,A⟩;rw[AX.mp y] at A;rcases List.prefix_concat_iff.mp A with z|z;exact absurd z e;exact .inr ⟨_,DI _ (AX.mpr rfl),z⟩
 have B:∀p,DX (ws++[(n,g)]) p->d p≠e:=λp a z=>by have this:H (d p)=some _:=h.dct p a;rw[z,G] at this;cases this
 have W:T≠d g:=λz=>by
  have:=s _ _ (h.dct g u);rw[<-z,C] at this;cases this
 have O:¬DX (ws++[(n,g)]) (g++[m]):=λz=>o (Fb.mp z);have P:keysAt (ws++[(n,g++[m])]) (g++[m])=[]:=(by rw[Sg (by simp)];exact U8 O);have D:∀p,p≠g->keysAt (ws++[(n,g++[m])]) p=keysAt (ws++[(n,g)]) p:=λp a=>Sg a;have F:keysAt (ws++[(n,g++[m])]) g=keysAt (ws++[(n,g)]) g++[(m,n)]:=(by rw[U2,Ag o]);refine⟨λp=>if p=g++[m] then e else d p,λp x=>if p=g/\x=m then T else c p x,⟨λp a=>?_,λp x k r=>?_,λp q a Q X=>?_⟩,Ap rfl,λp a=>?_,Ag (by simp)⟩;show upd _ _ _ (if p=g++[m] then e else d p)=some _;rcases w a with z|⟨z,i⟩;subst z;rw[Ap rfl,AI (Ne.symm (B g u)),J];unfold DG;rw[P];rfl;rw[Ag z];by_cases b:p=g;subst b;rw[Ab,Yu L];unfold DG;rw[F,Bh]
 have:∀l:List (Au×Nat),m∉l.map (·.1)->(l.map λmk=>(FT mk.1,V.ref (c p mk.1)))=l.map λmk=>(FT mk.1,V.ref (if p=p/\mk.1=m then T else c p mk.1)):=λl R=>List.map_congr_left λmk Y=>by
  rw[Ag (λz=>R (AN.mpr ⟨mk,Y,z.2⟩))]
 rw[this _ o,Do,Mm];dsimp only;rw[Ap ⟨rfl,rfl⟩];rw[AI (λS=>b (h.inj p g i u S))];have:=s _ _ (h.dct p i);unfold DG at this ⊢;rw[D p b,this]
 congr 2
 exact List.map_congr_left λmk ζ=>by
  show _=(FT mk.1,V.ref (if p=g/\mk.1=m then T else c p mk.1));rw[Ag (λz=>b z.1)]
 show upd _ _ _ (if p=g/\x=m then T else c p x)=some (.tup [_,.ref (if p++[x]=g++[m] then e else d (p++[x]))]);by_cases b:p=g;subst b;rw[F] at r;by_cases v:x=m;subst v;rw[Ap ⟨rfl,rfl⟩,Ap rfl,AI W,C];rcases BI.mp r with y|y;exact absurd (AN.mpr ⟨_,y,rfl⟩) o;cases AX.mp y;rfl;rcases BI.mp r with y|y;rw[Ag (λz=>v z.2),Ag (λz=>v (by simpa using z))];have t:=h.tup p x k y;rw[AI (λz=>by have this:H (d p)=some _:=h.dct p u;rw[<-z,t] at this;cases this)];exact s _ _ t;cases AX.mp y;exact absurd rfl v;rw[D p b] at r;rw[Ag (λz=>b z.1),Ag (show ¬(p++[x]=g++[m]) from λz=>b (List.append_inj_left' z rfl))];have t:=h.tup p x k r;rw[AI (λz=>by have this:H (d g)=some _:=h.dct g u;rw[<-z,t] at this;cases this)];exact s _ _ t;have j:(if p=g++[m] then e else d p)=(if q=g++[m] then e else d q):=X;rcases w a with z|⟨z,i⟩<;>rcases w Q with y|⟨y,E⟩;rw[z,y];rw[Ap z,Ag y] at j;exact absurd j.symm (B q E);rw[Ag z,Ap y] at j;exact absurd j (B p i);rw[Ag z,Ag y] at j;exact h.inj p q i E j;show f (if p=g++[m] then e else d p)=none;rcases w a with z|⟨z,i⟩;rw[Ap z];exact U;rw[Ag z];exact I p i
def U9(ws:Ws Au)(n:Nat)(p:List Au):keysAt (ws++[(n,[])]) p=keysAt ws p:=Yr ws n p
def A6.begin{φ:Hp->Addr->List (List A3×V)->Prop}(h:A6 φ H ws d c):A6 φ H (ws++[(n,[])]) d c:=by
 have i:∀{p},DX (ws++[(n,[])]) p->DX ws p:=λ{p}a=>by
  rcases a with z|⟨e,f,b⟩;exact .inl z;rcases BI.mp f with y|y;exact .inr ⟨e,y,b⟩;rw[AX.mp y] at b;exact .inl (List.prefix_nil.mp b)
 refine⟨λp a=>?_,λp m k g=>h.tup p m k (by rw[<-U9];exact g),λp q a j=>h.inj p q (i a) (i j)⟩;have:=h.dct p (i a);unfold DG at this ⊢;rw[U9];exact this
def A6.frz{H U Z:Hp}{ws:Ws Au}{d:List Au->Addr}{c:List Au->Au->Addr}(h:A6 dW U ws d c)(e:∀p,DX ws p->H (d p)=none)(f:Pg H U Z)(g:∀b kvs,H b=none->U b=some (.dT kvs)->∃o,Z b=some (.frz o (.dT kvs))):A6 dF Z ws d c:=by refine⟨λp a=>g _ _ (e p a) (h.dct p a),λp m k i=>?_,h.inj⟩;have t:=h.tup p m k i;rcases f (c p m) with z|⟨_,kvs,o,z,_⟩;rw[z];exact t;rw[t] at z;cases z
def Pg.same{U Z:Hp}(s:Ad H U)(f:Pg H U Z):Ad H Z:=λb o e=>by rcases f b with z|⟨z,_⟩;rw[z];exact s _ _ e;rw[e] at z;cases z
def Sh(ws:Ws Au)(p:List Au):(keysAt ws p).length<=ws.length:=by
 induction ws using Sf with|nil=>exact AK _|snoc ws a b=>obtain⟨k,w⟩:=a;rw[Kh,AY];split;split;lia;rw[AY];simp;exact b;lia
abbrev Fc (p:Str×Str):List A3:=[.inr p.1,.inr p.2]
def EO.tups(e:∀b xs,H b=some (.tup xs)->H' b=some (.tup xs)):∀{xs:S'}{a:List (List A3×V)},EO H xs a->EO H' xs a:=λh =>
 Paired.mapP h λ_ _⟨t,b,c,d,f⟩=>⟨t,b,c,e _ _ d,e _ _ f⟩
theorem Va{k:List A3}:∀{a acc:List (List A3×V)},(A2 (Kg acc a) k).isSome=true↔(A2 acc k).isSome=true\/k∈a.map (·.1)
 |[],acc=>by simp[Kg]
 |p::a,acc=>by show(A2 (Kg (Bk acc p.1 p.2) a) k).isSome=true↔_;rw[Va,W6,Do,BB];by_cases h:k=p.1;rw[Ap h];simp[h];rw[Ag h];simp[h]
def Ht (H:Hp) (p:Addr) (ord:A'):Prop:=∃kvs,H p=some (.dT kvs)/\∀a b,(A2 kvs (Fc (a,b))).isSome=dec ((a,b)∈ord)
variable {ord:A'}
def Ht.same{p:Addr}(e:Ad H H')(h:Ht H p ord):Ht H' p ord:=let ⟨k,a,b⟩:=h;⟨k,e _ _ a,b⟩
def Yv(a b:Str):(A2 (Kg [] (ord.map λp=>(Fc p,V.bl true))) (Fc (a,b))).isSome=dec ((a,b)∈ord):=by
 have:(A2 (Kg [] (ord.map λp=>(Fc p,V.bl true))) (Fc (a,b))).isSome=true ↔ (a,b)∈ord:=(by rw[Va];constructor;rintro(h|h);simp[A2] at h;rw[D1] at h;obtain⟨q,c,e⟩:=AN.mp h;obtain⟨d,f⟩:=q;simp at e;rw[<-e.1,<-e.2];exact c;intro h;refine .inr ?_;rw[D1];exact AN.mpr ⟨_,h,rfl⟩);by_cases h:(a,b)∈ord;rw[Fm h];exact this.mpr h;rw[FR h];cases e:(A2 (Kg [] (ord.map λp=>(Fc p,V.bl true))) (Fc (a,b))).isSome with|false=>rfl|true=>exact absurd (this.mp e) h
def A4 (l:List (List Au)):Ws Au:=l.zipIdx.map λp=>(p.2,p.1)
def Yw(l:List (List Au))(w:List Au):A4 (l++[w])=A4 l++[(l.length,w)]:=by
 unfold A4;rw[List.zipIdx_append,Bh];simp
variable {l:List (List Au)}{i:Nat}{w:List Au}
def Yx(h:l[i]?=some w):A4 (l.take (i+1))=A4 (l.take i)++[(i,w)]:=by have a:=(Bi.mp h).1;rw[En,h];show A4 (l.take i++[w])=_;rw[Yw,Dx,Nat.min_eq_left (CT a)]
def Vb(l:List (List Au)):((A4 l).map (·.1)).Pairwise (· < ·):=by
 have:(A4 l).map (·.1)=List.range l.length:=(by unfold A4;rw[D1,List.range_eq_range'];exact List.zipIdx_map_snd 0 l);rw[this];exact List.pairwise_lt_range
def C6{k:Nat}:(k,w)∈A4 l↔l[k]?=some w:=by unfold A4;rw[AN];constructor;rintro⟨⟨a,b⟩,h,e⟩;cases e;exact List.mem_zipIdx_iff_getElem?.mp h;intro h;exact⟨(w,k),List.mem_zipIdx_iff_getElem?.mpr h,rfl⟩
noncomputable def B5 (ss:List BC) (ord:A') (x m:Au):Bool:=dec ((Fs ss x,Fs ss m)∈ord)
variable {ss:List BC}
def Yy(h:∀x,(x,x)∉ord)(m:Au):B5 ss ord m m=false:=FR (h _)
theorem Si(ss:List BC)(ord:A'):∀(a b:List Au),AZ (B5 ss ord) a b=Eg ss ord a b
 |x::s,m::t=>by
   show(if x=m then _ else B5 ss ord x m)=_;by_cases e:x=m;subst e;rw[Ap rfl,UY];exact Si ss ord s t;rw[Ag e,UZ ss ord s t e];rfl
 |[],m=>by rw[R9 ss ord (.inl rfl)];rfl
 |_::_,[]=>by rw[R9 ss ord (.inr rfl)];rfl
def Jc(h:∀x,(x,x)∉ord):gat (B5 ss ord) (A4 l) [] w=[]↔∀v∈l,Eg ss ord v w=false:=by
 constructor;intro e v b;obtain⟨k,d⟩:=List.mem_iff_getElem?.mp b
 cases a:Eg ss ord v w with
 |false=>rfl
 |true=>obtain⟨j,c,_⟩:=Ys (Vb l) (C6.mpr d) (by rw[Si];exact a);rw[e] at c;cases c
 intro f;cases e:gat (B5 ss ord) (A4 l) [] w with|nil=>rfl|cons k g=>exfalso;obtain⟨v,b,a⟩:=U4 (Vb l) (Yy h) w [] k (by rw[e];simp);rw[List.nil_append,Si] at a;rw[f v (List.mem_iff_getElem?.mpr ⟨k,C6.mp b⟩)] at a;cases a
noncomputable def Fd (ss:List BC) (ord:A') (all l:List (List Au)):List (List Au):=l.filter λw=>!all.any λv=>Eg ss ord v w
def Vc{all:List (List Au)}(h:l[i]?=some w):Fd ss ord all (l.take (i+1))=if(all.any λv=>Eg ss ord v w)=true then Fd ss ord all (l.take i) else Fd ss ord all (l.take i)++[w]:=by
 unfold Fd;rw[En,h,M1];show _++List.filter _ [w]=_;rw[KA];cases all.any λv=>Eg ss ord v w with|true=>rw[Ap rfl];simp|false=>simp
def Yz{all:List (List Au)}:(Fd ss ord all l).length<=l.length:=OK _ _
def Ct{ks:P'}:Pj (ks.map λk:Nat=>(k:Int))=.non↔ks=[]:=by
 cases ks with|nil=>exact⟨λζ=>rfl,λζ=>rfl⟩|cons k ks=>exact⟨λh=>(nomatch h),λh=>(nomatch h)⟩
def Pl(h:∀x,(x,x)∉ord):gat (B5 ss ord) (A4 l) [] w=[]↔(l.any λv=>Eg ss ord v w)=false:=by rw[Jc h,o7];exact⟨λz v a=>by rw[z v a];simp,λz v a=>by have:=z v a;simpa using this⟩
section
variable {prog:Program} {w:World} {A:Around} {E:D'} {s:Shared}
theorem Po{j p:Addr}{k:Nat}{vs:M'}{y:Value}{Q:D'}(c:s.heap.IsTupleIter j p k)(d:s.heap.IsTuple p vs)(e:vs[k]?=some y)
 (q:∀g,g.IsTupleIter j p (k+1)->Heap.SameBut j s.heap g->Q y {s with heap:=g}):wpAny (model prog w) A (Builtin.SmallTypes.nextOf (.ref j)) Q E s:=by
 obtain⟨i,b,f,a⟩:=id c;obtain⟨op,h,_,_,dp⟩:=d;unfold Builtin.SmallTypes.nextOf;refine Ae (wpAny_callSpecial?_slot (name:=Str.ofString "__next__") c.typeIs F.slot_tuple_iterator_next (wpAny_call_entry F.slot_tuple_iterator_next c.typeIs F.entry_tuple_iterator_next ?_ (F.args_tuple_iterator_next_1 _)));show wpAny _ _ (field (.ref j) 0 >>= _) _ _ s;refine Ae (wpAny_field b a (x:=.ref p) rfl ?_);show wpAny _ _ (if(Value.ref p==Value.none)=true then _ else _) _ _ s;rw[Ag (show ¬((Value.ref p==Value.none)=true) from Ce)];show wpAny _ _ (field (.ref j) 1 >>= _) _ _ s;refine Ae (wpAny_field b a (x:=.int k 0) rfl ?_);show wpAny _ _ (seqItems? (.ref p) >>= _) _ _ s;refine Ae (F8 h dp ?_);simp only[BF,e];refine Ae (wpAny_setField b a (by simp) (Ay ⟨y,rfl,Ay (q _ ⟨_,o2 _ b (Obj.isFreed_of_fields (Obj.data_mapFields a _)),(Obj.cls_mapFields ..).trans f,by rw[Obj.data_mapFields a];simp[rawInt]⟩ (o4 ..))⟩))
theorem Sj{j p:Addr}{k:Nat}{vs:M'}{Q:D'}(e:A.handled=none)(b:s.heap.IsTupleIter j p k)(f:s.heap.IsTuple p vs)(h:vs[k]?=none)
 (q:∀g x,Heap.ExtBut j s.heap g->(∃o,g.get? x=some o/\o.cls=.type "StopIteration")->E (.ref x) {s with heap:=g}):wpAny (model prog w) A (Builtin.SmallTypes.nextOf (.ref j)) Q E s:=by
 obtain⟨l,c,n,d⟩:=id b;obtain⟨op,i,_,_,dp⟩:=f;unfold Builtin.SmallTypes.nextOf;refine Ae (wpAny_callSpecial?_slot (name:=Str.ofString "__next__") b.typeIs F.slot_tuple_iterator_next (wpAny_call_entry F.slot_tuple_iterator_next b.typeIs F.entry_tuple_iterator_next ?_ (F.args_tuple_iterator_next_1 _)));show wpAny _ _ (field (.ref j) 0 >>= _) _ _ s;refine Ae (wpAny_field c d (x:=.ref p) rfl ?_);show wpAny _ _ (if(Value.ref p==Value.none)=true then _ else _) _ _ s;rw[Ag (show ¬((Value.ref p==Value.none)=true) from Ce)];show wpAny _ _ (field (.ref j) 1 >>= _) _ _ s;refine Ae (wpAny_field c d (x:=.int k 0) rfl ?_);show wpAny _ _ (seqItems? (.ref p) >>= _) _ _ s;refine Ae (F8 i dp ?_);simp only[BF,h];refine Ae (H0 (Ae (wpAny_setField c d (by simp) ?_)));show wpAny _ _ (newExc (.type "StopIteration") [] >>= _) _ _ _;refine Ae ?_;simp only[newExc,newTuple];refine Ae (wpAny_newObj_type (Ae (m:=firstArgMember _ _) (wpAny_of_eq (a:=Value.none) (by first|rfl|(simp only[firstArgMember];rfl)) (wpAny_newObj_type ?_ (by size_fits)))) (by size_fits));simp only[raiseNew];refine Ae (wpAny_handled ?_)
 first|rw[show A.in1.handled=none from e]|rw[e]
 exact Ae (Ay (wpAny_throw (q _ _ (((o4 ..).extBut.push _).push _) ⟨_,Cb _ rfl,rfl⟩)))
end
variable {prog:Program}
def Hu{w:World}(c:A.handled=none)(j p:Addr)(d:p≠j)(vs:M'):Draws prog w A j [j,p] vs.size (λi v=>vs[i]?=some v) (λi h=>h.IsTupleIter j p i/\h.IsTuple p vs) where
 live _ _ st:=let ⟨o,e,_⟩:=st.1;⟨o,e⟩
 frame _ _ _ st k:=by obtain⟨⟨o,f,l⟩,u,m,n⟩:=st;exact⟨⟨o,k j (by simp) _ f,l⟩,u,k p (by simp) _ m,n⟩
 item i s Q E a st q:=Po st.1 st.2 (y:=vs[i]) (by simp[a]) λg r b=>q _ g s.toks (by simp[a]) ⟨r,st.2.extBut b.extBut d⟩ b
 done s Q E st q:=Sj c st.1 st.2 (by simp) q
set_option tactic.hygienic true in
def YA(p:Addr)(vs:M')(n:Nat)(dct:Option Addr)(e:Array (K')) :
 Meets (Builtin.«enumerate.__new__» ⟨[.type "enumerate",.ref p],[]⟩) (λζ R s=>s.heap.get? p=some {cls:=.type "tuple",dict:=dct,data:=.seq vs n,slots:=e}/\R (.ok (.ret (.ref (s.heap.push {cls:=.type "tuple_iterator",data:=.fields #[.ref p,.int 0 0]}).objs.size))) {s with heap:=(s.heap.push {cls:=.type "tuple_iterator",data:=.fields #[.ref p,.int 0 0]}).push {cls:=.type "enumerate",data:=.fields #[.none,.bool false,.ref s.heap.objs.size,rawInt 0,.none,.none]}}):=
 .of_wp λprog w A R s h=>by
  obtain⟨f,g,d,i,j⟩:=s;obtain⟨a,h⟩:=h;have l:=sub_enumerate;have b:Heap.IsTuple (Shared.heap ⟨f,g,d,i,j⟩) p vs:=⟨_,a,rfl,n,rfl⟩
  wp_walk using AutoSeq1.wpAny_loadPart' a
  refine wpAny_stack_any λk=>Ay ?_;split;rename_i c _ _ _ _ _;cases(c==Value.type "enumerate")<;>(wp_walk using AutoSeq1.wpAny_loadPart' a,wpAny_pyIter_tuple b;exact⟨_,rfl,h⟩)
  wp_walk using AutoSeq1.wpAny_loadPart' a,wpAny_pyIter_tuple b
  exact⟨_,rfl,h⟩
variable {E Q:D'}{s:Shared}
theorem YB{w:World}{p:Addr}{vs:M'}(i:s.heap.IsTuple p vs)
 (h:∀g,IsEnum g (s.heap.objs.size+1) s.heap.objs.size 0 .none->g.IsTupleIter s.heap.objs.size p 0->g.objs.size=s.heap.objs.size+2->(∀b o,s.heap.get? b=some o->g.get? b=some o)->Q (.ref (s.heap.objs.size+1)) {s with heap:=g}) :
 wpAny (model prog w) A (call (.type "enumerate") [.ref p]) Q E s:=by
 obtain⟨⟨c,dct,dt,j⟩,k,a,n,hd⟩:=i;replace a:c=.type "tuple" :=a;replace hd:dt=.seq vs n:=hd;subst a hd;refine callType_new F.called_enumerate (by decide) (F.typeCall_enumerate_1 _) (F.newCall_enumerate_1 _) (λl=>F.args_object_init_2 l _) F.entry_enumerate_new (YA p vs n dct j) ⟨k,?_⟩;have d:(s.heap.push {cls:=.type "tuple_iterator",data:=.fields #[.ref p,.int 0 0]}).objs.size=s.heap.objs.size+1:=n7 ..;show _/\_;rw[d]
 have f:IsEnum ((s.heap.push {cls:=.type "tuple_iterator",data:=.fields #[.ref p,.int 0 0]}).push {cls:=.type "enumerate",data:=.fields #[.none,.bool false,.ref s.heap.objs.size,rawInt 0,.none,.none]}) (s.heap.objs.size+1) s.heap.objs.size 0 .none:=by
  have e:=Cb (s.heap.push {cls:=.type "tuple_iterator",data:=.fields #[.ref p,.int 0 0]}) (o:={cls:=.type "enumerate",data:=.fields #[.none,.bool false,.ref s.heap.objs.size,rawInt 0,.none,.none]}) rfl
  rwa [d] at e
 exact⟨⟨_,f,rfl⟩,h _ f ⟨_,Ba _ (Cb _ rfl),rfl,rfl⟩ (by rw[n7,d]) λb o x=>Ba _ (Ba _ x)⟩
section
variable {X:Cx}
end
section
variable {prog:Program} {w:World} {A:Around} {E:D'} {s:Shared}
def YC{z a o i j p q:Addr}{k m:Nat}{xs ys:M'}{x y u v:Value}(D:ZipApart z a o i j p q)(B:IsZip s.heap z a o .none)(ea:IsPair s.heap a (.ref i) (.ref j))(eo:IsPair s.heap o u v)
 (ei:s.heap.IsTupleIter i p k) (ej:s.heap.IsTupleIter j q m) (tp:s.heap.IsTuple p xs) (tq:s.heap.IsTuple q ys) (hx:xs[k]?=some x) (hy:ys[m]?=some y)
 (ah:∀g,IsZip g z a o (rawInt s.heap.objs.size)->IsPair g o x y->g.IsTupleIter i p (k+1)->g.IsTupleIter j q (m+1)->IsPair g s.heap.objs.size x y->g.objs.size=s.heap.objs.size+1->(∀c d,c≠z->c≠o->c≠i->c≠j->s.heap.get? c=some d->g.get? c=some d)->Q (.ref s.heap.objs.size) {s with heap:=g}) :
 wpAny (model prog w) A (Builtin.«zip.__next__» ⟨[.ref z],[]⟩) (λf t=>∃v,f=.done (.ret v)/\Q v t) E s:=by
 show wpAny _ _ (field (.ref z) 2 >>= _) _ _ _;refine Ae (wpAny_field B rfl (x:=.bool false) rfl ?_);show wpAny _ _ (field (.ref z) 3 >>= _) _ _ _;refine Ae (wpAny_field B rfl (x:=.ref a) rfl (Ae (F8 ea rfl ?_)));show wpAny _ _ (Builtin.SmallTypes.ownedTupleIsFree (.ref z) >>= _) _ _ _;refine Ae ?_;unfold Builtin.SmallTypes.ownedTupleIsFree;refine Ae (wpAny_field B rfl (x:=.none) rfl (Ay ?_));simp only[if_true];refine Ae (H0 (Ae (wpAny_field B rfl (x:=.ref o) rfl (Ae (wpAny_setField_rec B (by simp) λaa M h=>?_)))));replace M:IsZip aa z a o .ellipsis:=M;refine Ae ?_;simp only[List.zipIdx_cons,List.zipIdx_nil,List.forIn_cons,List.forIn_nil];refine Ae (Ae (wpAny_onRaise ?_));show wpAny _ _ (Builtin.SmallTypes.nextOf (.ref i) >>= _) _ _ _;refine Ae (Po (ei.extBut h.extBut D.i1z) (tp.extBut h.extBut D.l1z) hx λab i2 l=>Ay ?_);have U:IsPair ab o u v:=l.extBut _ _ D.TOi1 (h.extBut _ _ D.TOz eo);refine Ae (F8 U rfl (Ae (wpAny_updateSeq_pair U λae N r=>Ae (wpAny_letGo (Ay ?_)))));replace N:IsPair ae o x v:=N;refine Ae (Ae (wpAny_onRaise ?_));show wpAny _ _ (Builtin.SmallTypes.nextOf (.ref j) >>= _) _ _ _;refine Ae (Po (((ej.extBut h.extBut D.i2z).extBut l.extBut D.i12.symm).extBut r.extBut D.TOi2.symm) (((tq.extBut h.extBut D.l2z).extBut l.extBut D.l2i1).extBut r.extBut D.l2TO) hy λg4 j4 C=>Ay ?_);have V:IsPair g4 o x v:=C.extBut _ _ D.TOi2 N;refine Ae (F8 V rfl (Ae (wpAny_updateSeq_pair V λb H F=>Ae (wpAny_letGo (Ay (Ay ?_))))));replace H:IsPair b o x y:=H;refine Ae (F8 H rfl (Ae (wpAny_newTuple ?_)));have sz:b.objs.size=s.heap.objs.size:=(by rw[F.1,C.1,r.1,l.1,h.1]);have W:IsZip b z a o .ellipsis:=F.extBut _ _ D.TOz.symm (C.extBut _ _ D.i2z.symm (r.extBut _ _ D.TOz.symm (l.extBut _ _ D.i1z.symm M)));have k5:∀c d,c≠z->c≠o->c≠i->c≠j->s.heap.get? c=some d->b.get? c=some d:=λc d I J O P e=>F.extBut _ _ J (C.extBut _ _ P (r.extBut _ _ J (l.extBut _ _ O (h.extBut _ _ I e))));have i5:b.IsTupleIter i p (k+1):=((i2.extBut r.extBut D.TOi1.symm).extBut C.extBut D.i12).extBut F.extBut D.TOi1.symm;have j5:b.IsTupleIter j q (m+1):=j4.extBut F.extBut D.TOi2.symm;have X:z<b.objs.size:=Bg W;show wpAny _ _ (Builtin.SmallTypes.ownedTupleHandOut (.ref z) (.ref b.objs.size) >>= _) _ _ _;refine Ae ?_;unfold Builtin.SmallTypes.ownedTupleHandOut;have z6:IsZip (b.push {cls:=.type "tuple",data:=.seq #[x,y]}) z a o .ellipsis:=Ba _ W;refine Ae (wpAny_setField_rec z6 (by simp) λg7 R S=>?_);replace R:IsZip g7 z a o (rawInt b.objs.size):=R;refine wpAny_setField_rec R (by simp) λG K T=>?_;replace K:IsZip G z a o (rawInt b.objs.size):=K;have L:∀c d,c≠z->b.get? c=some d->G.get? c=some d:=λc d n e=>T.extBut _ _ n (S.extBut _ _ n (Ba _ e));have Y:IsPair G b.objs.size x y:=T.extBut _ _ (Nat.ne_of_gt X) (S.extBut _ _ (Nat.ne_of_gt X) (Cb _ rfl));have Z:G.objs.size=b.objs.size+1:=(by rw[T.1,S.1,n7]);rw[sz] at K Y Z;refine Ay ⟨_,rfl,?_⟩;show Q (.ref b.objs.size) _;rw[sz];obtain⟨oi,e1,e2⟩:=i5;obtain⟨oj,af,ag⟩:=j5;exact ah G K (L _ _ D.TOz H) ⟨oi,L _ _ D.i1z e1,e2⟩ ⟨oj,L _ _ D.i2z af,ag⟩ Y Z λc d I J O P e=>L c d I (k5 c d I J O P e)
def YD{z a o i j p q:Addr}{k m:Nat}{xs ys:M'}{u v:Value}{Q:PySem.Fin->Shared->Prop}(J:A.handled=none)(D:ZipApart z a o i j p q)(r:IsZip s.heap z a o .none)(U:IsPair s.heap a (.ref i) (.ref j))(V:IsPair s.heap o u v)
 (K:s.heap.IsTupleIter i p k) (W:s.heap.IsTupleIter j q m) (L:s.heap.IsTuple p xs) (X:s.heap.IsTuple q ys) (aa:xs[k]?=none\/ys[m]?=none)
 (T:∀g e,(∀c d,c≠z->c≠o->c≠i->c≠j->s.heap.get? c=some d->g.get? c=some d)->(∃d,g.get? e=some d/\d.cls=.type "StopIteration")->E (.ref e) {s with heap:=g}) :
 wpAny (model prog w) A (Builtin.«zip.__next__» ⟨[.ref z],[]⟩) Q E s:=by
 show wpAny _ _ (field (.ref z) 2 >>= _) _ _ _;refine Ae (wpAny_field r rfl (x:=.bool false) rfl ?_);show wpAny _ _ (field (.ref z) 3 >>= _) _ _ _;refine Ae (wpAny_field r rfl (x:=.ref a) rfl (Ae (F8 U rfl ?_)));show wpAny _ _ (Builtin.SmallTypes.ownedTupleIsFree (.ref z) >>= _) _ _ _;refine Ae ?_;unfold Builtin.SmallTypes.ownedTupleIsFree;refine Ae (wpAny_field r rfl (x:=.none) rfl (Ay ?_));simp only[if_true];refine Ae (H0 (Ae (wpAny_field r rfl (x:=.ref o) rfl (Ae (wpAny_setField_rec r (by simp) λY C b=>?_)))));replace C:IsZip Y z a o .ellipsis:=C;refine Ae ?_;simp only[List.zipIdx_cons,List.zipIdx_nil,List.forIn_cons,List.forIn_nil];refine Ae (Ae (wpAny_onRaise ?_));show wpAny _ _ (Builtin.SmallTypes.nextOf (.ref i) >>= _) _ _ _
 cases F:xs[k]? with
 |none=>
  refine Ae (Sj J (K.extBut b.extBut D.i1z) (L.extBut b.extBut D.l1z) F λG e f H=>?_);obtain⟨d,l,y⟩:=H;have M:IsZip G z a o .ellipsis:=f _ _ D.i1z.symm C;have ne:e≠z:=λt=>by subst t;rw[M] at l;cases l;simp at y
  exact wpAny_setField_rec M (by simp) λN ζ n=>T N e (λc d B ζ I ζ t=>n.extBut _ _ B (f _ _ I (b.extBut _ _ B t))) ⟨d,n.extBut _ _ ne l,y⟩
 |some x=>
  have Z:ys[m]?=none:=(by rcases aa with h|h;rw[F] at h;cases h;exact h);refine Ae (Po (K.extBut b.extBut D.i1z) (L.extBut b.extBut D.l1z) F λG i2 f=>Ay ?_);have O:IsPair G o u v:=f.extBut _ _ D.TOi1 (b.extBut _ _ D.TOz V);refine Ae (F8 O rfl (Ae (wpAny_updateSeq_pair O λN o3 n=>Ae (wpAny_letGo (Ay ?_)))));refine Ae (Ae (wpAny_onRaise ?_));show wpAny _ _ (Builtin.SmallTypes.nextOf (.ref j) >>= _) _ _ _;refine Ae (Sj J (((W.extBut b.extBut D.i2z).extBut f.extBut D.i12.symm).extBut n.extBut D.TOi2.symm) (((X.extBut b.extBut D.l2z).extBut f.extBut D.l2i1).extBut n.extBut D.l2TO) Z λg4 e P H=>?_);obtain⟨d,l,y⟩:=H;have R:IsZip g4 z a o .ellipsis:=P _ _ D.i2z.symm (n.extBut _ _ D.TOz.symm (f.extBut _ _ D.i1z.symm C));have ne:e≠z:=λt=>by subst t;rw[R] at l;cases l;simp at y
  exact wpAny_setField_rec R (by simp) λg5 ζ S=>T g5 e (λc d B n2 I n4 t=>S.extBut _ _ B (P _ _ n4 (n.extBut _ _ n2 (f.extBut _ _ I (b.extBut _ _ B t))))) ⟨d,S.extBut _ _ ne l,y⟩
end
abbrev Pp (h:Heap) (p:Addr):Heap:=h.push {cls:=.type "tuple_iterator",data:=.fields #[.ref p,.int 0 0]}
abbrev Pq (h:Heap) (p q:Addr):Heap:=(Pp h p).push {cls:=.type "tuple_iterator",data:=.fields #[.ref q,.int 0 0]}
abbrev Pr (h:Heap) (p q:Addr):Heap:=(Pq h p q).push {cls:=.type "tuple",data:=.seq #[.ref h.objs.size,.ref (Pp h p).objs.size]}
abbrev Ps (h:Heap) (p q:Addr):Heap:=(Pr h p q).push {cls:=.type "tuple",data:=.seq #[.none,.none]}
abbrev LB (h:Heap) (p q:Addr):Heap:=(Ps h p q).push {cls:=.type "zip",data:=.fields #[.none,.bool false,.bool false,.ref (Pq h p q).objs.size,.ref (Pr h p q).objs.size]}
def YE(p q:Addr)(xs ys:M'):Meets (Builtin.«zip.__new__» ⟨[.type "zip",.ref p,.ref q],[]⟩) (λζ R s=>s.heap.IsTuple p xs/\s.heap.IsTuple q ys/\R (.ok (.ret (.ref (Ps s.heap p q).objs.size))) {s with heap:=LB s.heap p q}):=
 .of_wp λprog w A R s h=>by
  obtain⟨a,g,d,b,c⟩:=s;obtain⟨e,f,h⟩:=h;have k:=sub_zip;have i:Heap.IsTuple (Shared.heap ⟨a,g,d,b,c⟩) p xs:=e;have j:Heap.IsTuple (Shared.heap ⟨a.push {cls:=.type "tuple_iterator",data:=.fields #[.ref p,.int 0 0]},g,d,b,c⟩) q ys:=Heap.IsTuple.push f _
  wp_walk using wpAny_pyIter_tuple i,wpAny_pyIter_tuple j
  exact⟨_,rfl,h⟩
theorem YF{w:World}{p q:Addr}{xs ys:M'}(m:s.heap.IsTuple p xs)(n:s.heap.IsTuple q ys)
 (h:∀g,IsZip g (s.heap.objs.size+4) (s.heap.objs.size+2) (s.heap.objs.size+3) .none->IsPair g (s.heap.objs.size+2) (.ref s.heap.objs.size) (.ref (s.heap.objs.size+1))->IsPair g (s.heap.objs.size+3) .none .none->g.IsTupleIter s.heap.objs.size p 0->g.IsTupleIter (s.heap.objs.size+1) q 0->g.objs.size=s.heap.objs.size+5->(∀c o,s.heap.get? c=some o->g.get? c=some o)->Q (.ref (s.heap.objs.size+4)) {s with heap:=g}) :
 wpAny (model prog w) A (call (.type "zip") [.ref p,.ref q]) Q E s:=by
 refine callType_new F.called_zip (by decide) (F.typeCall_zip_2 _ _) (F.newCall_zip_2 _ _) (λu=>F.args_object_init_3 u _ _) F.entry_zip_new (YE p q xs ys) ⟨m,n,?_⟩;have a:(Pp s.heap p).objs.size=s.heap.objs.size+1:=n7 ..;have b:(Pq s.heap p q).objs.size=s.heap.objs.size+2:=(by rw[n7,a]);have d:(Pr s.heap p q).objs.size=s.heap.objs.size+3:=(by rw[n7,b]);have f:(Ps s.heap p q).objs.size=s.heap.objs.size+4:=(by rw[n7,d]);have r:(LB s.heap p q).objs.size=s.heap.objs.size+5:=(by rw[n7,f]);have i:(LB s.heap p q).get? (Ps s.heap p q).objs.size=some _:=Cb _ rfl;have j:(LB s.heap p q).get? (Pr s.heap p q).objs.size=some _:=Ba _ (Cb _ rfl);have k:(LB s.heap p q).get? (Pq s.heap p q).objs.size=some _:=Ba _ (Ba _ (Cb _ rfl));have l:(LB s.heap p q).get? (Pp s.heap p).objs.size=some _:=Ba _ (Ba _ (Ba _ (Cb _ rfl)));have t:(LB s.heap p q).get? s.heap.objs.size=some _:=Ba _ (Ba _ (Ba _ (Ba _ (Cb _ rfl))));show _/\_;rw[b,d,f] at i;rw[a,b] at k;rw[d] at j;rw[a] at l;rw[f];exact⟨⟨_,i,rfl⟩,h _ i k j ⟨_,t,rfl,rfl⟩ ⟨_,l,rfl,rfl⟩ r λc o e=>Ba _ (Ba _ (Ba _ (Ba _ (Ba _ e))))⟩
section
variable {X:Cx} {pins:B'} {σ:St} {H:Hp} {s:Shared} {h':Heap} {t':Nat} {fp:G'}
def Inv.turnL(I:Inv X pins σ H s)(d:∀b∈fp,C1 X pins H b)(keep:∀b o,b∉fp->s.heap.get? b=some o->h'.get? b=some o):Inv X pins σ H {s with heap:=h',toks:=t'}:=by
 have g:∀b u,H b=some u->b∉fp:=λb u e z=>by rw[(d b z).1] at e;cases e
 refine I.step (g':=s.gens) (d':=s.drawn) (ch:=fp) (λb a=>⟨(d b a).2.2.2.1,(d b a).2.1,(d b a).2.2.2.2⟩) (λb o ζ ζ a e ζ=>keep b o a e) (λb o ζ ζ a e ζ=>⟨o.slots,keep b o a e⟩) (λζ ζ ζ ζ n=>n) (λb o a e=>⟨o,keep b o a e⟩) (λζ ζ e=>e) (λζ ζ ζ e=>e) (λb l e=>⟨#[],by rw[e];simp⟩)
  (λm h=>?_) (λb u e=>(I.hok b u e).stay (λc v f q=>keep c v ?_ q) (λζ q=>q) λζ ζ q=>q) I.bare
 obtain⟨o,i,j,k,r⟩:=h;exact⟨o,i,j,keep _ o (λz=>(d _ z).2.1 rfl) k,r⟩;rcases f with rfl|f;exact g _ _ e;exact g _ _ f
def Inv.turnP{a c:Value}{x y:V}(I:Inv X pins σ H s)(d:∀b∈fp,C1 X pins H b)(keep:∀b o,b∉fp->s.heap.get? b=some o->h'.get? b=some o)(ob:∀b∈fp,∃o,s.heap.get? b=some o/\∀v,o.data≠.cell v)
 (f:h'.get? s.heap.objs.size=some {cls:=.type "tuple",data:=.seq #[a,c]}) (i:RelV x a) (j:RelV y c) :
 Inv X pins σ (upd H s.heap.objs.size (.tup [x,y])) {s with heap:=h',toks:=t'}/\H s.heap.objs.size=none/\∀b∈fp,upd H s.heap.objs.size (.tup [x,y]) b=none:=by
 have h:H s.heap.objs.size=none:=I.hok.fresh (AK _);refine⟨(I.turnL (t':=t') d keep).track (I.fpOk (AK _) h) ⟨_,f⟩ ⟨by show 2<=sizeLine;decide,[a,c],.cons i (.cons j .nil),⟨_,f,rfl,_,rfl⟩⟩,h,λb g=>?_⟩;obtain⟨o,e,_⟩:=ob b g;rw[AI (Ch (Bg e))];exact(d b g).1
def Inv.newFp(I:Inv X pins σ H s)(a:∀b∈fp,s.heap.objs.size<=b):∀b∈fp,C1 X pins H b:=λb z=>I.fpOk (a b z) (I.hok.fresh (a b z))
end
structure Sk where
 sq:Aj->Hp->Addr->S'->Prop
 ent:Aj->Hp->Addr->S'->Prop
 it:Heap->Addr->Addr->Nat->Prop
 is:Heap->Addr->M'->Prop
 obj:∀{h:Heap}{i l:Addr}{n:Nat},it h i l n->∃o,h.get? i=some o/\∀v,o.data≠.cell v
 keep:∀{h h':Heap}{i l:Addr}{n:Nat},it h i l n->(∀o,h.get? i=some o->h'.get? i=some o)->it h' i l n
 get:∀{X:Cx}{pins:B'}{σ:St}{H:Hp}{s:Shared}{l:Addr}{xs:S'},Inv X pins σ H s->sq X.K H l xs->∃its:F',Aw xs its/\is s.heap l its.toArray/\l<s.heap.objs.size
 uniq:∀{X:Cx}{pins:B'}{σ:St}{H:Hp}{s:Shared}{l:Addr}{xs ys:S'},Inv X pins σ H s->sq X.K H l xs->sq X.K H l ys->xs=ys
 entS:∀{K:Aj}{H:Hp}{l:Addr}{xs:S'},ent K H l xs->sq K H l xs
 zitem:∀{prog:Program}{w:World}{A:Around}{E:D'}{s:Shared}{z a o i j p q:Addr}{k m:Nat}{xs ys:M'}{x y u v:Value}{Q:K'->Shared->Prop},ZipApart z a o i j p q->IsZip s.heap z a o .none->IsPair s.heap a (.ref i) (.ref j)->IsPair s.heap o u v->it s.heap i p k->it s.heap j q m->is s.heap p xs->is s.heap q ys->xs[k]?=some x->ys[m]?=some y ->
  (∀g,IsZip g z a o (rawInt s.heap.objs.size)->IsPair g o x y->it g i p (k+1)->it g j q (m+1)->IsPair g s.heap.objs.size x y->g.objs.size=s.heap.objs.size+1->(∀c d,c≠z->c≠o->c≠i->c≠j->s.heap.get? c=some d->g.get? c=some d)->Q (some (.ref s.heap.objs.size)) {s with heap:=g})->wpAny (model prog w) A (pyNext (.ref z)) Q E s
 zend:∀{prog:Program}{w:World}{A:Around}{E:D'}{s:Shared}{z a o i j p q:Addr}{k m:Nat}{xs ys:M'}{u v:Value}{Q:K'->Shared->Prop},A.handled=none->ZipApart z a o i j p q->IsZip s.heap z a o .none->IsPair s.heap a (.ref i) (.ref j)->IsPair s.heap o u v->it s.heap i p k->it s.heap j q m->is s.heap p xs->is s.heap q ys->xs[k]?=none\/ys[m]?=none ->
  (∀g,(∀c d,c≠z->c≠o->c≠i->c≠j->s.heap.get? c=some d->g.get? c=some d)->Q none {s with heap:=g})->wpAny (model prog w) A (pyNext (.ref z)) Q E s
 zcall:∀{prog:Program}{w:World}{A:Around}{E:D'}{s:Shared}{p q:Addr}{xs ys:M'}{Q:D'},is s.heap p xs->is s.heap q ys ->
  (∀g,IsZip g (s.heap.objs.size+4) (s.heap.objs.size+2) (s.heap.objs.size+3) .none->IsPair g (s.heap.objs.size+2) (.ref s.heap.objs.size) (.ref (s.heap.objs.size+1))->IsPair g (s.heap.objs.size+3) .none .none->it g s.heap.objs.size p 0->it g (s.heap.objs.size+1) q 0->g.objs.size=s.heap.objs.size+5->(∀c o,s.heap.get? c=some o->g.get? c=some o)->Q (.ref (s.heap.objs.size+4)) {s with heap:=g})->wpAny (model prog w) A (call (.type "zip") [.ref p,.ref q]) Q E s
 eitem:∀{prog:Program}{w:World}{A:Around}{E:D'}{s:Shared}{e j l:Addr}{i:Nat}{xs:M'}{x old:Value}{Q:K'->Shared->Prop},A.handled=none->e≠j->e≠l->l≠j->IsEnum s.heap e j i old->it s.heap j l i->is s.heap l xs->xs[i]?=some x ->
  (∀g tk,IsEnumOut g e j ((i:Int)+1) x s.heap.objs.size->it g j l (i+1)->g.get? s.heap.objs.size=some {cls:=.type "tuple",data:=.seq #[.int i tk,x]}->(∀b o,b≠e->b≠j->s.heap.get? b=some o->g.get? b=some o)->Q (some (.ref s.heap.objs.size)) {s with heap:=g,toks:=tk+1})->wpAny (model prog w) A (pyNext (.ref e)) Q E s
 eend:∀{prog:Program}{w:World}{A:Around}{E:D'}{s:Shared}{e j l:Addr}{xs:M'}{old:Value}{Q:K'->Shared->Prop},A.handled=none->l≠j->IsEnum s.heap e j xs.size old->it s.heap j l xs.size->is s.heap l xs->(∀g,Heap.ExtBut j s.heap g->Q none {s with heap:=g})->wpAny (model prog w) A (pyNext (.ref e)) Q E s
 ecall:∀{X:Cx}{pins:B'}{σ:St}{H:Hp}{s:Shared}{A:Around}{E:D'}{l:Addr}{xs:S'}{Q:D'},Inv X pins σ H s->ent X.K H l xs ->
  (∀g,IsEnum g (s.heap.objs.size+1) s.heap.objs.size 0 .none->it g s.heap.objs.size l 0->g.objs.size=s.heap.objs.size+2->(∀b o,s.heap.get? b=some o->g.get? b=some o)->Q (.ref (s.heap.objs.size+1)) {s with heap:=g})->wpAny (model X.prog X.w) A (call (.type "enumerate") [.ref l]) Q E s
def LK:Sk where
 sq:=Ai
 ent:=λζ H l xs=>H l=some (.lst xs)
 it:=Heap.IsListIter
 is:=Heap.IsList
 obj:=λ⟨o,e,_,d⟩=>⟨o,e,λv q=>by rw[d] at q;cases q⟩
 keep:=λh k=>h.at k
 get:=λI h=>let ⟨its,r,p,_⟩:=I.list h;⟨its,r,p.isList,let ⟨_,e,_⟩:=p.isList;Bg e⟩
 uniq:=λI h h'=>I.list_inj h h'
 entS:=Ai.of
 zitem:=wpAny_pyNext_zip_item
 zend:=wpAny_pyNext_zip_end
 zcall:=call_zip_2
 eitem:=λζ n1 ζ ζ he hi hl hx q=>wpAny_pyNext_enum_item he hi hl hx n1 λg a b c ζ k=>q g _ a b c k
 eend:=λhh ζ he hi hl q=>wpAny_pyNext_enum_end hh he hi hl (by simp) q
 ecall:=λI hq q=>let ⟨_,_,_,_,e⟩:=I.hok _ _ hq;call_enumerate_1 e q
def TK:Sk where
 sq:=Aq
 ent:=Aq
 it:=Heap.IsTupleIter
 is:=Heap.IsTuple
 obj:=λ⟨o,e,_,d⟩=>⟨o,e,λv q=>by rw[d] at q;cases q⟩
 keep:=λ⟨o,e,r⟩k=>⟨o,k o e,r⟩
 get:=λI h=>let ⟨its,r,p,_⟩:=I.tuple h;⟨its,r,p,let ⟨_,e,_⟩:=p;Bg e⟩
 uniq:=λI h h'=>I.tuple_inj h h'
 entS:=id
 zitem:=λ{_ _ _ _ s z _ _ _ _ _ _ _ _ _ _ _ _ _ _ _}D ez ea eo ei ej tp tq hx hy fin=>by have tz:s.TypeIs (.ref z) "zip" :=⟨_,ez,rfl⟩;unfold pyNext;exact Ae (wpAny_attempt (wpAny_callSpecial?_slot (name:=Str.ofString "__next__") tz F.slot_zip_next (wpAny_call_entry F.slot_zip_next tz F.entry_zip_next (YC D ez ea eo ei ej tp tq hx hy λg a1 a2 a3 a4 a5 a6 a7=>Ay (fin g a1 a2 a3 a4 a5 a6 a7)) (F.args_zip_next_1 _))))
 zend:=λ{_ _ _ _ s z _ _ _ _ _ _ _ _ _ _ _ _ _}hh D ez ea eo ei ej tp tq hend fin=>by have tz:s.TypeIs (.ref z) "zip" :=⟨_,ez,rfl⟩;unfold pyNext;refine Ae (wpAny_attempt (wpAny_callSpecial?_slot (name:=Str.ofString "__next__") tz F.slot_zip_next (wpAny_call_entry F.slot_zip_next tz F.entry_zip_next (YD hh D ez ea eo ei ej tp tq hend λg e hk he=>?_) (F.args_zip_next_1 _))));obtain⟨d,h1,h2⟩:=he;exact Ae (wpAny_isInstance (T:= "StopIteration") (b:=true) ⟨d,h1,h2⟩ isSubtype_stop (Ay (fin _ hk)))
 zcall:=YF
 eitem:=λ{_ _ A _ _ e j l i xs x _ _}hh n1 n2 n3 he hi hl hx q=>by refine wpAny_pyNext_enum_itemD (Hu (A:=A.in1) hh j l n3 xs) he ⟨hi,hl⟩ (Array.getElem?_eq_some_iff.mp hx).1 n1 (by simp;exact⟨n1,n2⟩) λy g tk hy a b c ζ k=>?_;rw[hx] at hy;cases hy;exact q g tk a b.1 c k
 eend:=λ{_ _ A _ _ _ j l xs _ _}hh n3 he hi hl q=>wpAny_pyNext_enum_endD (Hu (A:=A.in1) hh j l n3 xs) he ⟨hi,hl⟩ q
 ecall:=λI hq q=>let ⟨_,_,p,_⟩:=I.tuple hq;YB p q
section
variable (k:Sk)
def Hv (K:Aj) (C f:Addr):It:=
 ⟨λi H=>∃xs ys x y,k.sq K H C xs/\k.sq K H f ys/\xs[i]?=some x/\ys[i]?=some y,
  λi H v H'=>∃T x y,H T=none/\v=.ref T/\H'=upd H T (.tup [x,y])/\(∀xs,k.sq K H C xs->xs[i]?=some x)/\∀ys,k.sq K H f ys->ys[i]?=some y,
  λi H=>∃xs ys,k.sq K H C xs/\k.sq K H f ys/\(xs.length<=i\/ys.length<=i)⟩
def NT (z TI TO i1 i2 C f:Addr) (i:Nat) (h:Heap):Prop:=IsZip h z TI TO .none/\IsPair h TI (.ref i1) (.ref i2)/\(∃a b,IsPair h TO a b)/\k.it h i1 C i/\k.it h i2 f i
def LD (K:Aj) (l:Addr):It:=
 ⟨λi H=>∃xs x,k.sq K H l xs/\xs[i]?=some x,
  λi H v H'=>∃T x,H T=none/\v=.ref T/\H'=upd H T (.tup [.int i,x])/\∀xs,k.sq K H l xs->xs[i]?=some x,
  λi H=>∃xs,k.sq K H l xs/\xs.length=i⟩
def NU (e it l:Addr) (i:Nat) (h:Heap):Prop:=(∃old,IsEnum h e it i old)/\k.it h it l i
variable {k}
variable {C f:Addr}
def Vd{z TI TO d e:Addr}{h:Heap}(st:NT k z TI TO d e C f i h):∀b∈[z,TI,TO,d,e],∃o,h.get? b=some o/\∀v,o.data≠.cell v:=λb g=>by obtain⟨j,n,⟨a,c,p⟩,l,m⟩:=st;simp at g;rcases g with rfl|rfl|rfl|rfl|rfl;exact⟨_,j,λv q=>by cases q⟩;exact⟨_,n,λv q=>by cases q⟩;exact⟨_,p,λv q=>by cases q⟩;exact k.obj l;exact k.obj m
def Ve{a l:Addr}{h:Heap}(st:NU k e a l i h):∀b∈[e,a],∃o,h.get? b=some o/\∀v,o.data≠.cell v:=λb c=>by obtain⟨⟨g,d⟩,f⟩:=st;simp at c;rcases c with rfl|rfl;exact⟨_,d,λv q=>by cases q⟩;exact k.obj f
variable {P:Program} {w:World} {K:Aj} {es:O'} {Y:Nat} {L:Pos}
def YG{z TI TO r t:Addr}(D:ZipApart z TI TO r t C f):F0 P w K (.Tuple es Y L) (Hv k K C f) [z,TI,TO,r,t] z (NT k z TI TO r t C f) where
 mem:=by simp
 obj:=λζ ζ g b d=>Vd g b d
 keep:=λi h h' g Y=>by obtain⟨j,l,⟨a,c,q⟩,n,p⟩:=g;exact⟨Y z (by simp) _ j,Y TI (by simp) _ l,⟨a,c,Y TO (by simp) _ q⟩,k.keep n λo e=>Y r (by simp) o e,k.keep p λo e=>Y t (by simp) o e⟩
 item:=by
  intro X B F G T i ai s σ H E I M g N;subst B F G;obtain⟨xs,ys,x,y,v,A,U,V⟩:=N;have ob:=Vd g;obtain⟨j,l,⟨a,c,q⟩,n,p⟩:=g;obtain⟨aj,Q,O,_⟩:=k.get I v;obtain⟨ak,R,J,_⟩:=k.get I A;obtain⟨W,aa,ab⟩:=Q.get U;obtain⟨Z,ae,af⟩:=R.get V;refine k.zitem D j l q n p O J (x:=W) (y:=Z) (by simpa using aa) (by simpa using ae) λh' a1 a2 a3 a4 a5 a6 u=>?_;refine⟨_,rfl,wpAny_letOwnedTupleGo_zip (s:={s with heap:=h'}) a1 λag al m=>?_⟩;obtain⟨I2,ah,fr⟩:=I.turnP (t':=s.toks) (h':=ag) M (λb o d e=>by simp at d;exact(m.2 b d.1).trans (u b o d.1 d.2.2.1 d.2.2.2.1 d.2.2.2.2 e)) ob ((m.2 _ (Nat.ne_of_gt (Bg j))).trans a5) ab af
  exact⟨.ref s.heap.objs.size,_,I2,rfl,⟨s.heap.objs.size,x,y,ah,rfl,rfl,λzs S=>by rw[k.uniq I S v];exact U,λzs S=>by rw[k.uniq I S A];exact V⟩,
   ⟨al,m.extBut _ _ D.TIz (u _ _ D.TIz D.TITO D.TIi1 D.TIi2 l),⟨W,Z,m.extBut _ _ D.TOz a2⟩,k.keep a3 λo e=>m.extBut _ _ D.i1z e,k.keep a4 λo e=>m.extBut _ _ D.i2z e⟩,fr⟩
 done:=by intro X B F G T i ai s σ H E I M g N;subst B F G;obtain⟨xs,ys,v,A,aq⟩:=N;obtain⟨j,l,⟨a,c,q⟩,n,p⟩:=g;obtain⟨aj,Q,O,_⟩:=k.get I v;obtain⟨ak,R,J,_⟩:=k.get I A;have an:=Q.length;have ao:=R.length;exact k.zend (I.ok.hd T) D j l q n p O J (by simp;lia) λh' u=>⟨rfl,I.turnL (t':=s.toks) M λb o d e=>by simp at d;exact u b o d.1 d.2.2.1 d.2.2.2.1 d.2.2.2.2 e⟩
 self:=λζ ζ ζ ζ ζ g h=>wpAny_pyIter_zip g.1 h
def YH{g l:Addr}(G:e≠g)(W:e≠l)(J:l≠g):F0 P w K (.Tuple es Y L) (LD k K l) [e,g] e (NU k e g l) where
 mem:=by simp
 obj:=λζ ζ a b c=>Ve a b c
 keep:=λi h h' a Y=>by obtain⟨⟨j,d⟩,f⟩:=a;exact⟨⟨j,Y e (by simp) _ d⟩,k.keep f λo x=>Y g (by simp) o x⟩
 item:=by intro X n p q r i ag s σ H E I t a u;subst n p q;obtain⟨B,x,m,C⟩:=u;have N:=Ve a;obtain⟨⟨j,d⟩,f⟩:=a;obtain⟨M,z,v,_⟩:=k.get I m;obtain⟨D,Z,aa⟩:=z.get C;refine k.eitem (I.ok.hd r) G W J d f v (x:=D) (by simpa using Z) λh' F O Q R S=>?_;refine⟨_,rfl,wpAny_letOwnedTupleGo_enum (s:={s with heap:=h',toks:=F+1}) O λab ah A=>?_⟩;obtain⟨T,ae,U⟩:=I.turnP (t':=F+1) (h':=ab) (x:=.int i) (y:=x) t (λb o c e=>by simp at c;exact(A.2 b c.1).trans (S b o c.1 c.2 e)) N ((A.2 _ (Nat.ne_of_gt (Bg d))).trans R) ⟨_,rfl⟩ aa;exact⟨.ref s.heap.objs.size,_,T,rfl,⟨s.heap.objs.size,x,ae,rfl,rfl,λzs af=>by rw[k.uniq I af m];exact C⟩,⟨⟨D,by simpa using ah⟩,k.keep Q λo e=>A.extBut _ _ (Ne.symm G) e⟩,U⟩
 done:=by intro X n p q r i ag s σ H E I t a u;subst n p q;obtain⟨B,m,rfl⟩:=u;obtain⟨⟨j,d⟩,f⟩:=a;obtain⟨M,z,v,_⟩:=k.get I m;rw[show B.length=M.toArray.size by rw[z.length];simp] at d f;exact k.eend (I.ok.hd r) J d f v λh' V=>⟨rfl,I.turnL (t':=s.toks) t λb o c e=>by simp at c;exact V b o c.2 e⟩
 self:=λζ ζ ζ ζ ζ a h=>by obtain⟨⟨j,d⟩,_⟩:=a;exact wpAny_pyIter_enum d h
variable (k)
def LF (K:Aj) (ta:TA):TI:=λσ H R=>ta σ H λvs U=>∃l,vs=[.ref l]/\(∃xs,k.ent K U l xs)/\R (LD k K l) U
variable {X:Cx}
def Pt{j:Pos}{a:Expr}{d:TA}{p:Pos}(i:Gl X "enumerate")(m:X.mg "enumerate" = none)(n:PA X [a] d)(o:starEach [a] X.env=[(false,eval a X.env)]:=by rfl) :
 PI X (.Tuple es Y j) (.Call (.Name "enumerate" p) [a] [] L) (LF k X.K d):=by
 intro A s σ H R I h;refine Call_ (KL I i m (u:=.type "enumerate") (by decide +kernel) (PyProof.Rows.callWith_type1 (AQ (n L A s σ H _ I h) λB b⟨C,U,c,r,t⟩=>?_) (by rw[o];rfl) (by rfl)));obtain⟨l,rfl,⟨D,e⟩,q⟩:=t;obtain⟨v,rfl,z⟩:=F9 r;obtain rfl:v=Value.ref l:=z;obtain⟨_,_,_,f⟩:=k.get c (k.entS e);refine k.ecall c e λw g x E y=>?_;refine wpAny_pyIter_enum (s:={b with heap:=w}) g ?_;exact⟨_,[b.heap.objs.size+1,b.heap.objs.size],_,_,U,rfl,c.kept (t':=b.toks) y,YH (Nat.succ_ne_self _) (Nat.ne_of_gt (Nat.lt_succ_of_lt f)) (Ch f),⟨⟨_,g⟩,x⟩,c.newFp (by simp),q⟩
variable {k}
def Vf{pins:B'}{σ:St}{U:Hp}{a:Shared}{c:Expr}{R:It->Hp->Prop}(e:∃es Y L,c=.Tuple es Y L)(b:Inv X pins σ U a)(g:∃xs,k.sq X.K U C xs)(h:∃ys,k.sq X.K U f ys)(q:R (Hv k X.K C f) U) :
 wpAny (model X.prog X.w) X.A (call (.type "zip") [.ref C,.ref f]) (λv i=>wpAny (model X.prog X.w) X.A (pyIter v) (Rl X pins σ c R) E i) E a:=by
 obtain⟨es,Y,L,rfl⟩:=e;obtain⟨xs,p⟩:=g;obtain⟨ys,r⟩:=h;obtain⟨_,_,j,l⟩:=k.get b p;obtain⟨_,_,J,m⟩:=k.get b r;refine k.zcall j J λn d t u w x y o=>?_;refine wpAny_pyIter_zip (s:={a with heap:=n}) d ?_;exact⟨_,[a.heap.objs.size+4,a.heap.objs.size+2,a.heap.objs.size+3,a.heap.objs.size,a.heap.objs.size+1],_,_,U,rfl,b.kept (t':=a.toks) o,YG (zipApart_new l m),⟨d,t,⟨_,_,u⟩,w,x⟩,b.newFp (by simp),q⟩
def NV (K:Aj) (ta:TA):TI:=λσ H R=>ta σ H λvs U=>∃C f,vs=[.ref C,.ref f]/\(((∃xs,Ai K U C xs)/\(∃ys,Ai K U f ys)/\R (Hv LK K C f) U)\/((∃xs,Aq K U C xs)/\(∃ys,Aq K U f ys)/\R (Hv TK K C f) U))
def Jd{j:Pos}{a b:Expr}{e:TA}{p:Pos}(l:Gl X "zip")(m:X.mg "zip" = none)(n:PA X [a,b] e)(o:starEach [a,b] X.env=[(false,eval a X.env),(false,eval b X.env)]:=by rfl)(i:starEach [b] X.env=[(false,eval b X.env)]:=by rfl) :
 PI X (.Tuple es Y j) (.Call (.Name "zip" p) [a,b] [] L) (NV X.K e):=by
 intro A s σ H R I h;refine Call_ (KL I l m (u:=.type "zip") (by decide +kernel) (PyProof.Rows.callWith_type1 (AQ (n L A s σ H _ I h) λB D⟨E,U,g,r,t⟩=>?_) (by rw[o,i]) (by rw[i];rfl)));obtain⟨C,f,rfl,v⟩:=t;obtain⟨w,x,rfl,y,z⟩:=K3 r;obtain rfl:w=Value.ref C:=y;obtain rfl:x=Value.ref f:=z;rcases v with⟨c,d,q⟩|⟨c,d,q⟩;exact Vf (k:=LK) ⟨_,_,_,rfl⟩ g c d q;exact Vf (k:=TK) ⟨_,_,_,rfl⟩ g c d q
variable {g:TG} {tb:TS} {D:Ends} {σ:St} {H:Hp}
variable (k)
def Vg{xs ys:S'}(Pv:Nat->St->Hp->Prop)(b:Pv 0 σ H)(a:∀i σ H,Pv i σ H->k.sq K H C xs/\k.sq K H f ys)
 (c:∀i x y T σ H,xs[i]?=some x->ys[i]?=some y->H T=none->Pv i σ H->g (.ref T) σ (upd H T (.tup [x,y])) λσ2 Z=>tb {D with nx:=Pv (i+1),ct:=Pv (i+1),bk:=D.nx} σ2 Z) (hd:∀σ H,Pv (min xs.length ys.length) σ H->D.nx σ H):Fy (Hv k K C f) g tb D σ H:=by
 refine Nj (min xs.length ys.length) Pv b (λi σ H p d=>?_) (λσ H p=>⟨xs,ys,(a _ σ H p).1,(a _ σ H p).2,by lia⟩) (λi v σ H H' p d y=>?_) hd;have e:i<xs.length:=(by lia);have h:i<ys.length:=(by lia);exact⟨xs,ys,xs[i],ys[i],(a i σ H p).1,(a i σ H p).2,by simp[e],by simp[h]⟩;obtain⟨T,x,j,l,rfl,rfl,m,n⟩:=y;exact c i x j T σ H (m xs (a i σ H p).1) (n ys (a i σ H p).2) l p
def Pu{l:Addr}{xs:S'}(Pv:Nat->St->Hp->Prop)(c:Pv 0 σ H)(a:∀i σ H,Pv i σ H->k.sq K H l xs)
 (d:∀i x T σ H,xs[i]?=some x->H T=none->Pv i σ H->g (.ref T) σ (upd H T (.tup [.int i,x])) λσ2 Z=>tb {D with nx:=Pv (i+1),ct:=Pv (i+1),bk:=D.nx} σ2 Z) (hd:∀σ H,Pv xs.length σ H->D.nx σ H):Fy (LD k K l) g tb D σ H:=by
 refine Nj xs.length Pv c (λi σ H p b=>⟨xs,xs[i],a i σ H p,by simp[b]⟩) (λσ H p=>⟨xs,a _ σ H p,rfl⟩) (λi v σ H H' p b y=>?_) hd;obtain⟨T,x,e,rfl,rfl,f⟩:=y;exact d i x T σ H (f xs (a i σ H p)) e p
end
mutual
inductive AL (F:Addr->Prop) (H:Hp):V->Dt->Prop where
 | non:AL F H .non .non
 | bl (b:Bool):AL F H (.bl b) (.bl b)
 | int (i:Int):AL F H (.int i) (.int i)
 | str (x:Str):AL F H (.str x) (.str x)
 | tup {a:Addr} {vs:S'} {ds:List Dt} (h:H a=some (.tup vs)) (t:Am F H vs ds):AL F H (.ref a) (.tup ds)
 | lst {a:Addr} {vs:S'} {ds:List Dt} (h:H a=some (.lst vs)) (f:F a) (t:Am F H vs ds):AL F H (.ref a) (.lst ds)
inductive Am (F:Addr->Prop) (H:Hp):S'->List Dt->Prop where
 | nil:Am F H [] []
 | cons {v:V} {d:Dt} {vs:S'} {ds:List Dt} (h:AL F H v d) (t:Am F H vs ds):Am F H (v :: vs) (d :: ds)
end
mutual
theorem AL.go {F G:Addr->Prop}{H H':Hp} (e:∀ a vs,H a=some (.tup vs)->H' a=some (.tup vs)) (l:∀ a vs,H a=some (.lst vs)->F a->H' a=some (.lst vs)/\G a) {v:V} {d:Dt} (h:AL F H v d):AL G H' v d:=by
 cases h with| non=>exact .non| bl b=>exact .bl b| int i=>exact .int i| str x=>exact .str x| tup h t=>exact .tup (e _ _ h) (Am.go e l t)| lst h f t=>exact .lst (l _ _ h f).1 (l _ _ h f).2 (Am.go e l t)
theorem Am.go {F G:Addr->Prop}{H H':Hp} (e:∀ a vs,H a=some (.tup vs)->H' a=some (.tup vs)) (l:∀ a vs,H a=some (.lst vs)->F a->H' a=some (.lst vs)/\G a) {vs:S'} {b:List Dt} (h:Am F H vs b):Am G H' vs b:=by
 cases h with| nil=>exact .nil| cons h t=>exact .cons (AL.go e l h) (Am.go e l t)
end
mutual
theorem AL.dt {K:Aj}{F:Addr->Prop}{H:Hp}{v:V}{d:Dt} (h:AL F H v d):Ao K H v d:=by
 cases h with| non=>exact .non| bl b=>exact .bl b| int i=>exact .int i| str x=>exact .str x| tup h t=>exact .tup (Aq.of h) (Am.dts t)| lst h f t=>exact .lst (Ai.of h) (Am.dts t)
theorem Am.dts {K:Aj}{F:Addr->Prop}{H:Hp}{vs:S'}{a:List Dt} (h:Am F H vs a):Ak K H vs a:=by
 cases h with| nil=>exact .nil| cons h t=>exact .cons (AL.dt h) (Am.dts t)
end
section
variable {F G M:Addr->Prop} {H H':Hp} {v:V} {d:Dt} {vs us:S'} {ds es:List Dt}
def AL.same(s:Ad H H')(h:AL F H v d):AL F H' v d:=h.go (λζ ζ q=>s _ _ q) λζ ζ q f=>⟨s _ _ q,f⟩
def Am.same(s:Ad H H')(h:Am F H vs ds):Am F H' vs ds:=h.go (λζ ζ q=>s _ _ q) λζ ζ q f=>⟨s _ _ q,f⟩
def AL.keeps(k:Keeps M H H')(a:∀x,F x->¬M x)(h:AL F H v d):AL F H' v d:=h.go (λζ ζ q=>k.tup q) λζ ζ q f=>⟨k.at_ _ _ q (a _ f),f⟩
def Am.keeps(k:Keeps M H H')(a:∀x,F x->¬M x)(h:Am F H vs ds):Am F H' vs ds:=h.go (λζ ζ q=>k.tup q) λζ ζ q f=>⟨k.at_ _ _ q (a _ f),f⟩
def AL.mono(e:∀x o,H x=some o->F x->G x)(h:AL F H v d):AL G H v d:=h.go (λζ ζ q=>q) λζ ζ q f=>⟨q,e _ _ q f⟩
def Am.mono(e:∀x o,H x=some o->F x->G x)(h:Am F H vs ds):Am G H vs ds:=h.go (λζ ζ q=>q) λζ ζ q f=>⟨q,e _ _ q f⟩
theorem Am.length:∀{vs:S'}{ds:List Dt},Am F H vs ds->vs.length=ds.length
 |_,_,.nil=>rfl
 |_,_,.cons _ t=>by rw[CV,CV,Am.length t]
theorem Am.snoc:∀{vs:S'}{ds:List Dt},Am F H vs ds->AL F H v d->Am F H (vs++[v]) (ds++[d])
 |_,_,.nil,h=>.cons h .nil
 |_,_,.cons a t,h=>.cons a (Am.snoc t h)
theorem Am.get:∀{vs:S'}{ds:List Dt}{i:Nat}{v:V},Am F H vs ds->vs[i]?=some v->∃d,ds[i]?=some d/\AL F H v d
 |_,_,i,v,.nil,e=>by simp at e
 |_,_,0,v,.cons a t,e=>by simp at e;subst e;exact⟨_,rfl,a⟩
 |_,_,i+1,v,.cons a t,e=>by obtain⟨d,b,c⟩:=Am.get (i:=i) t (by simpa using e);exact⟨d,by simpa using b,c⟩
theorem Am.of_all{α:Type}{f:α->V}{g:α->Dt}:∀{l:List α},(∀x∈l,AL F H (f x) (g x))->Am F H (l.map f) (l.map g)
 |[],_=>.nil
 |x::l,h=>.cons (h x BS) (Am.of_all λy a=>h y (Du _ a))
end
theorem Sl{α:Type}{f:α->S'}{D:α->Dt}{F:Addr->Prop}{H:Hp}(d:∀(r:α)(t:Addr),H t=some (.tup (f r))->AL F H (.ref t) (D r)):∀{ts:G'}{c:List α},RT f H ts c->Am F H (ts.map V.ref) (c.map D)
 |[],[],_=>.nil
 |[],_::_,h=>by have:=h.len;simp at this
 |_::_,[],h=>by have:=h.len;simp at this
 |t::ts,r::c,h=>.cons (d r t (h.at_ 0 t r rfl rfl)) (Sl d ⟨by simpa using h.len,λn a b e g=>h.at_ (n+1) a b (by simpa using e) (by simpa using g)⟩)
variable {F:Addr->Prop}
def Hw(r:Au)(t:Addr)(h:H t=some (.tup (Gw r))):AL F H (.ref t) (Pd r):=.tup h (.cons (.int _) (.cons (.str _) (.cons (.int _) .nil)))
def Cs.own{t:Addr}(h:Cs F H t w):AL F H (.ref t) (Bn.D w):=by obtain⟨d,a,b,c⟩:=h;exact .lst a c (Sl Hw b)
variable {b:AO}
def Dr.own{t:Addr}(h:Dr F H t b):AL F H (.ref t) (DD.D b):=by obtain⟨l,f,a,c,d,e⟩:=h;exact .tup a (.cons (.lst c e (Sl Hw d)) (.cons (.int _) (.cons (.int _) .nil)))
def Ki (ss:List BC) (m:Au):CA:=match ss[m.1.toNat]? with
 |some s=>(match s.2[m.2.2.toNat]? with
   |some p=>p
   |none=>default)
 |none=>default
def Sm{k:Nat}{s:BC}{p:CA}(a:m.1=(n:Int))(b:m.2.2=(k:Int))(c:ss[n]?=some s)(d:s.2[k]?=some p):Ki ss m=p:=by unfold Ki;rw[a,b,BF,BF,c];dsimp only;rw[d]
def DL (ss:List BC) (w:List Au):CA:=match w.getLast? with
 |some m=>Ki ss m
 |none=>default
def DY (ss:List BC) (w:List Au):Prop:=∃(v:List Au)(m:Au),w=v++[m]/\Ef ss m/\m.2.1=i0
def NW(ss:List BC)(v:List Au)(m:Au):DL ss (v++[m])=Ki ss m:=by unfold DL;rw[List.getLast?_concat]
def Je (W:Wd) (w:List Au):L':=if(DL W.ss w).2.2.1=i6/\W.as[(DL W.ss w).2.2.2.toNat]?=some none then some (DL W.ss w).2.2.2 else none
def F3 (W:Wd):List (List Au)->Option Ow
 |[]=>none
 |w::ws=>match Je W w with
   |some q=>some (w,q)
   |none=>F3 W ws
def B1 (W:Wd) (w:List Au):L':=if(DL W.ss w).2.2.1=f' then some (DL W.ss w).2.2.2 else match W.as[(DL W.ss w).2.2.2.toNat]? with
 |some (some p)=>if p.1=f' then some p.2 else none
 |_=>none
noncomputable def GA (ss:List BC) (ord:A') (ws:List (List Au)):X'->Option Ow
 |[]=>none
 |o::os=>if(ws.any λv=>Eg ss ord v o.1)=true then GA ss ord ws os else some o
abbrev Wt:Type:=Int×List Au×Int
abbrev Hx:Option Wt->Dt
 |none=>.non
 |some p=>.tup [.int p.1,Bn.D p.2.1,.int p.2.2]
noncomputable def Ii (W:Wd) (ord:A') (ws:List (List Au)) (os:X'):Option Ow:=match GA W.ss ord ws os with
 |some o=>some o
 |none=>F3 W (Fd W.ss ord ws ws)
def CU (W:Wd) (seen:List (List Au)) (at_:Int):Str×Int:=if ∀w∈seen,B1 W w=none then("none",at_) else match seen with
 |[]=>("none",at_)
 |w::_=>(match B1 W w with
   |some n=>if ∀v∈seen,B1 W v=some n then("thing",n) else("torn",at_)
   |none=>("torn",at_))
noncomputable def Bp (W:Wd) (ord:A') (ws:List (List Au)) (os:X') (at_:Int):C'×Option Wt:=match Ii W ord ws os with
 |some o=>(none,some (at_,o.1,o.2))
 |none=>(some (CU W (Fd W.ss ord ws ws) at_),none)
variable {W:Wd}{os:X'}{o:Ow}
def YI{ws:List (List Au)}{at_:Int}(h:Ii W ord ws os=some o):Bp W ord ws os at_=(none,some (at_,o.1,o.2)):=by unfold Bp;rw[h]
def So{ws:List (List Au)}{at_:Int}(h:Ii W ord ws os=none):Bp W ord ws os at_=(some (CU W (Fd W.ss ord ws ws) at_),none):=by unfold Bp;rw[h]
def YJ{ws:List (List Au)}(h:Ii W ord ws os=none):F3 W (Fd W.ss ord ws ws)=none:=by
 unfold Ii at h;cases e:GA W.ss ord ws os with|some o=>rw[e] at h;cases h|none=>rw[e] at h;exact h
def Pw{seen:List (List Au)}{at_:Int}(h:∀w∈seen,B1 W w=none):CU W seen at_=(j2,at_):=Ap h
def Vh{r:List (List Au)}{at_:Int}(h:¬∀v∈w::r,B1 W v=none)(k:¬∀v∈w::r,B1 W v=B1 W w):CU W (w::r) at_=(j6,at_):=by
 unfold CU;rw[Ag h];dsimp only;cases e:B1 W w with|none=>rfl|some n=>rw[e] at k;exact Ag k
def Sq{r:List (List Au)}{at_:Int}(h:¬∀v∈w::r,B1 W v=none)(k:∀v∈w::r,B1 W v=B1 W w):∃n,B1 W w=some n/\CU W (w::r) at_=(f',n):=by
 cases e:B1 W w with|none=>exact absurd (λv a=>by rw[k v a,e]) h|some n=>refine⟨n,rfl,?_⟩;unfold CU;rw[Ag h];dsimp only;rw[e];exact Ap λv a=>by rw[k v a,e]
def Vi{a b:L'}(h:DW a=DW b):a=b:=by cases a<;>cases b<;>first|rfl|(cases h;rfl)|cases h
def Jf{a:L'}:DW a=.non↔a=none:=⟨λh=>Vi (b:=none) h,λh=>by rw[h];rfl⟩
def YK(a b:L'):K1 (DW a) (DW b)=true:=by cases a<;>cases b<;>rfl
def FF:(((l.map λw=>DW (B1 W w)).map λv=>decide (v=V.non)).all id=true)↔∀w∈l,B1 W w=none:=by simp only[List.all_map,List.all_eq_true,Function.comp,id,decide_eq_true_eq,Jf]
def Hy:(((l.map λw=>DW (B1 W w)).map λv=>!decide (v=DW (B1 W w))).any id=true)↔¬∀v∈l,B1 W v=B1 W w:=by simp only[List.any_map,KC,Function.comp,id,Bool.not_eq_true',decide_eq_false_iff_not];refine⟨λ⟨v,a,b⟩h=>b (by rw[h v a]),λh=>?_⟩;refine m8 λn=>h λv c=>?_;exact m8 λm=>n ⟨v,c,λz=>m (Vi z)⟩
abbrev Lk:Type:=List AO×List (List Au)×List (List Au)
abbrev W':=List Lk
abbrev Jg (l:Lk):Dt:=.tup [.lst (l.1.map DD.D),.lst (l.2.1.map Bn.D),.lst (l.2.2.map Bn.D)]
structure C7 (W:Wd) (ord:A') (sc st:Int) (x:Str) (l:Lk) (os:X'):Prop where
 b:DE W sc st l.1
 f:MM W x l.1 l.2.1
 s:l.2.2=Fd W.ss ord l.2.1 l.2.1
 o:NO W l.1 os
abbrev B8 (W:Wd) (n:Int):Str×Int:=match W.gs[n.toNat]? with
 |some p=>Fp W.gs W.as p
 |none=>("no",0)
inductive LU (W:Wd) (inn:Int) (ord:A'):Int->Int->I'->Int->C'->Option Wt->W'->E'->Prop where
 |stop {sc st:Int} {x:Str} {r:I'} {at_:Int} {l:Lk} {os:X'} {a:C'} {w:Option Wt} (h:C7 W ord sc st x l os) (e:Bp W ord l.2.1 os at_=(a,w)) (n:(∀k,a≠some (f',k))\/r=[]):LU W inn ord sc st (x::r) at_ a w [l] []
 |opn {sc st:Int} {x y:Str} {r:I'} {at_:Int} {l:Lk} {os:X'} {n q:Int} {w:Option Wt} (h:C7 W ord sc st x l os) (e:Bp W ord l.2.1 os at_=(some (f',n),w)) (i:B8 W n=(i7,q)):LU W inn ord sc st (x::y::r) at_ none (some (at_,[],q)) [l] [n]
 |no {sc st:Int} {x y:Str} {r:I'} {at_:Int} {l:Lk} {os:X'} {n q:Int} {w:Option Wt} (h:C7 W ord sc st x l os) (e:Bp W ord l.2.1 os at_=(some (f',n),w)) (i:B8 W n=(i4,q)):LU W inn ord sc st (x::y::r) at_ (some ("none",at_+1)) none [l] [n]
 |go {sc st:Int} {x y:Str} {r:I'} {at_:Int} {l:Lk} {os:X'} {n q:Int} {w w':Option Wt} {a:C'} {ls:W'} {ts:E'} (h:C7 W ord sc st x l os) (e:Bp W ord l.2.1 os at_=(some (f',n),w)) (i:B8 W n=(i3,q)) (k:LU W inn ord q inn (y::r) (at_+1) a w' ls ts):LU W inn ord sc st (x::y::r) at_ a w' (l::ls) (n::ts)
variable {sc st:Int}{x:Str}
def Vj(ok:Cj W)(e:0<=sc/\sc<W.ss.length)(f:0<=st/\st<W.sts.length){bs:List AO}(c:DE W sc st bs)(a:w∈DF W x bs):DY W.ss w:=by have d:=(Sa ok e f c a).1;obtain⟨b,g,j,q,h,_,_,rfl⟩:=UU a;exact⟨b.1,_,rfl,d _ (by simp),rfl⟩
def Vk{all:List (List Au)}(h:w∈Fd ss ord all l):w∈l:=(Mk.mp h).1
def Px(c:Cc W)(h:DY W.ss w):Ls W.gs.length W.as.length (DL W.ss w):=by obtain⟨v,m,rfl,⟨n,k,s,d,f,a,g⟩,i⟩:=h;rcases g with⟨e,_⟩|⟨_,b⟩;exact absurd (i.symm.trans e) R8;rw[NW,Sm d f a (AM b)];exact c.tl s (Bq a) _ (Eo b)
def Vl{l:Addr}{v:List Au}(h:Cs F H l (v++[m])):∃(a:G')(t:Addr),H l=some (.lst (a.map V.ref))/\BW (a.map V.ref) (-1)=some (.ref t)/\H t=some (.tup (Gw m)):=by
 obtain⟨a,f,b,_⟩:=h;have g:=b.len;rw[AY,FM] at g;have d:v.length<a.length:=(by lia);have i:=AM d;refine⟨a,a[v.length],f,?_,b.at_ v.length _ m i (by simp)⟩
 have e:a.map V.ref=(a.take v.length).map V.ref++[V.ref a[v.length]]:=by
  have:a=a.take v.length++[a[v.length]]:=(by have c:=List.take_append_drop v.length a;rw[Ml d,List.drop_eq_nil_of_le (by lia)] at c;exact c.symm)
  conv=>lhs;rw[this]
  rw[Bh];rfl
 rw[e];exact Pe _ _
def Sr (F:Addr->Prop) (H:Hp) (v:V):Option Ow->Prop
 |none=>v=.non
 |some o=>∃p l,v=.ref p/\H p=some (.tup [.ref l,.int o.2])/\Cs F H l o.1
def Fq.way{t:Addr}{p:Ow}(h:Fq F H t p):∃l,H t=some (.tup [.ref l,.int p.2])/\Cs F H l p.1:=by obtain⟨l,a,b,c,d,e⟩:=h;exact⟨l,b,a,c,d,e⟩
variable {α:Type}
def Jh{l:List α}{x:α}(h:l[i]?=some x):l.drop i=x::l.drop (i+1):=by obtain⟨a,rfl⟩:=Bi.mp h;exact Ml a
def YL{ws:List (List Au)}(h:(ws.any λv=>Eg ss ord v o.1)=false):GA ss ord ws (o::os)=some o:=by unfold GA;rw[h,Ag Ce]
def YM{ws:List (List Au)}(h:(ws.any λv=>Eg ss ord v o.1)=true):GA ss ord ws (o::os)=GA ss ord ws os:=by
 conv=>lhs;unfold GA
 rw[h,Ap rfl]
variable {q:Int}
def Ss{ws:List (List Au)}(h:Je W w=some q):F3 W (w::ws)=some (w,q):=by unfold F3;rw[h]
def MO{ws:List (List Au)}(h:Je W w=none):F3 W (w::ws)=F3 W ws:=by
 conv=>lhs;unfold F3
 rw[h]
theorem Vm{W:Wd}:∀{ws:List (List Au)},F3 W ws=none->∀w∈ws,Je W w=none
 |[],_,w,h=>by cases h
 | x :: ws,e,w,h=>by
   cases ex:Je W x with
   |some q=>rw[Ss ex] at e;cases e
   |none=>rw[MO ex] at e;rcases BB.mp h with rfl|h;exact ex;exact Vm e w h
def AL.two{m:Addr}{d e:Dt}(h:AL F H (.ref m) (.tup [d,e])):∃x y,H m=some (.tup [x,y])/\AL F H x d/\AL F H y e:=by
 cases h with
 | tup h t=>
  cases t with
  |cons a t=>
   cases t with
   |cons b t=>
    cases t with|nil=>exact⟨_,_,h,a,b⟩
def AL.ansN(h:AL F H v (Bb none)):v=.non:=by cases h;rfl
def AL.ansS{p:Str×Int}(h:AL F H v (Bb (some p))):∃t,v=.ref t/\H t=some (.tup [.str p.1,.int p.2]):=by
 have c:AL F H v (.tup [.str p.1,.int p.2]):=h;cases v with|ref m=>obtain⟨x,y,e,a,b⟩:=c.two;cases a;cases b;exact⟨m,rfl,e⟩|_=>cases c
def Vn:j2≠f':=by decide +kernel
def Vo:j6≠f':=by decide +kernel
set_option tactic.hygienic true in
def YN{seen:List (List Au)}{at_ n:Int}(h:CU W seen at_=(f',n)):∃w∈seen,B1 W w=some n:=by unfold CU at h;split at h;exact absurd (By Prod.fst h) Vn;split at h;exact absurd (By Prod.fst h) Vn;rename_i w r _;split at h;rename_i m a;split at h;refine⟨w,BS,?_⟩;have e:m=n:=By Prod.snd h;rw[a,e];exact absurd (By Prod.fst h) Vo;exact absurd (By Prod.fst h) Vo
set_option tactic.hygienic true in
def YO(ok:Cj W)(b:Cc W)(c:DY W.ss w){n:Int}(h:B1 W w=some n):0<=n/\n<W.gs.length:=by have d:=Px b c;unfold B1 at h;split at h;rename_i f;have e:=BU h;rcases d with⟨_,g⟩|⟨a,_⟩;rw[<-e];exact g;rw[f] at a;exact absurd a (by decide +kernel);split at h;rename_i p i;split at h;rename_i j;rw[<-BU h];exact ok.an p (Bq i) j;cases h;cases h
def Py(ok:Cj W)(a:Cc W){ws:List (List Au)}{at_ n:Int}{w:Option Wt}(b:∀w∈ws,DY W.ss w)(h:Bp W ord ws os at_=(some (f',n),w)):0<=n/\n<W.gs.length:=by unfold Bp at h;split at h;cases By Prod.fst h;obtain⟨w,c,d⟩:=YN (BU (By Prod.fst h));exact YO ok a (b w (Vk c)) d
def YQ(b:J')(a:List (C'))(q:Int):(DV b a q).1=i3\/(DV b a q).1=i7\/(DV b a q).1=i4:=by unfold DV;split;split;split;split;exact .inl rfl;exact .inr (.inr rfl);exact .inr (.inr rfl);exact .inr (.inr rfl);exact .inr (.inl rfl);exact .inr (.inr rfl)
def YR(b:J')(a:List (C'))(p:Str×Int):(Fp b a p).1=i3\/(Fp b a p).1=i7\/(Fp b a p).1=i4:=by unfold Fp;split;exact .inl rfl;split;exact YQ b a p.2;exact .inr (.inr rfl)
structure LC (K:Aj) (F:Addr->Prop) (H:Hp) (nt A t:Addr) (W:Wd) (qs:V') (inn:Int) (ord:A'):Prop where
 net:∃(S T R:Addr)(us Gs Es ts qt:G'),H nt=some (.tup [.ref S,.ref T,.ref R])/\ED H S T R us Gs Es ts qt W.ss W.gs qs
 ans:Ih K H A W.as
 tab:F1 K F H t W.sts inn ord
structure NX (W:Wd) (qs:V') (inn:Int) (ord:A'):Prop where
 ok:Cj W
 sm:Cc W
 ol:ord.length<=40
 irr:∀x,(x,x)∉ord
 inn:0<=inn/\inn<W.sts.length
 q:∀q∈qs,(0<=q.1/\q.1<W.ss.length)/\(0<=q.2.1/\q.2.1<W.sts.length)/\1<=q.2.2.length/\q.2.2.length<=8
variable {inn:Int}
def LC.caseH{K:Aj}{a A t:Addr}{d:V'}(h:LC K F H a A t W d inn ord):Bm K H a A t W:=by obtain⟨⟨S,T,R,e,f,g,i,j,k,l⟩,b,c⟩:=h;exact⟨⟨S,T,R,e,f,g,i,j,d,k,l⟩,b,c.caseT⟩
abbrev LG (l:Lk):Dt:=.lst (l.2.2.map Bn.D)
def AL.look{l:Lk}(h:AL F H v (Jg l)):∃t x y z,v=.ref t/\H t=some (.tup [x,y,z])/\AL F H z (LG l):=by
 cases h with
 | tup h t=>
  cases t with
  |cons a t=>
   cases t with
   |cons b t=>
    cases t with
    |cons c t=>
     cases t with|nil=>exact⟨_,_,_,_,rfl,h,c⟩
def AL.look'{t:Addr}{x y z:V}{l:Lk}(e:H t=some (.tup [x,y,z]))(h:AL F H (.ref t) (Jg l)):AL F H z (LG l):=by obtain⟨u,a,b,c,f,d,g⟩:=h.look;have:=V.ref.inj f;subst this;rw[e] at d;have i:=HO.tup.inj (BU d);cases i;exact g
variable {a:C'}{ls:W'}{ts:E'}
def Hz{at_:Int}{p:I'}{w:Option Wt}(h:LU W inn ord sc st p at_ a w ls ts):ls.length<=p.length:=by
 induction h with|stop=>simp|opn=>simp|no=>simp|go _ _ _ _ b=>simpa using b
def Dn:Nat->Dt->Prop
 |0,_=>False
 |_+1,.non=>True
 |_+1,.bl _=>False
 |_+1,.int _=>True
 |_+1,.str _=>True
 |n+1,.tup l=>∀d∈l,Dn n d
 |n+1,.lst l=>∀d∈l,Dn n d
def Pz{l m:Lk}{a:X'}(h:C7 W ord sc st x l os)(k:C7 W ord sc st x m a):l=m/\os=a:=by have b:=h.b.uniq k.b;have c:=h.f;have d:=h.o;rw[b] at c d;have e:=c.uniq k.f;have f:l.2.2=m.2.2:=(by rw[h.s,k.s,e]);exact⟨Prod.ext b (Prod.ext e f),d.uniq k.o⟩
def LU.inv{at_:Int}{r:I'}{w:Option Wt}(k:LU W inn ord sc st (x::r) at_ a w ls ts):∃l os,C7 W ord sc st x l os /\
 (∀b d,Bp W ord l.2.1 os at_=(b,d)->((∀k,b≠some (f',k))\/r=[])->b=a/\d=w/\ls=[l]/\ts=[]) /\
 ∀n d,Bp W ord l.2.1 os at_=(some (f',n),d)->r≠[]->∀s q,B8 W n=(s,q)->(s=i7->a=none/\w=some (at_,[],q)/\ls=[l]/\ts=[n])/\(s=i4->a=some (j2,at_+1)/\w=none/\ls=[l]/\ts=[n])/\(s=i3->∃p t,LU W inn ord q inn r (at_+1) a w p t/\ls=l::p/\ts=n::t):=by
 have g:i7≠i4:=(by decide +kernel);have j:i7≠i3:=(by decide +kernel);have o:i4≠i3:=(by decide +kernel);cases k with|stop h e n=>exact⟨_,_,h,λb d c ζ=>(by rw[e] at c;cases c;exact⟨rfl,rfl,rfl,rfl⟩),λm d c u=>(by rw[e] at c;cases c;exact(n.elim (λn=>n _ rfl) u).elim)⟩|opn h e i=>exact⟨_,_,h,λb d c n=>(by rw[e] at c;cases c;exact(n.elim (λn=>n _ rfl) nofun).elim),λm d c ζ s q f=>(by rw[e] at c;cases c;rw[i] at f;cases f;exact⟨λζ=>⟨rfl,rfl,rfl,rfl⟩,λz=>absurd z g,λz=>absurd z j⟩)⟩|no h e i=>exact⟨_,_,h,λb d c n=>(by rw[e] at c;cases c;exact(n.elim (λn=>n _ rfl) nofun).elim),λm d c ζ s q f=>(by rw[e] at c;cases c;rw[i] at f;cases f;exact⟨λz=>absurd z.symm g,λζ=>⟨rfl,rfl,rfl,rfl⟩,λz=>absurd z o⟩)⟩|go h e i k=>exact⟨_,_,h,λb d c n=>(by rw[e] at c;cases c;exact(n.elim (λn=>n _ rfl) nofun).elim),λm d c ζ s q f=>(by rw[e] at c;cases c;rw[i] at f;cases f;exact⟨λz=>absurd z.symm j,λz=>absurd z.symm o,λζ=>⟨_,_,k,rfl,rfl⟩⟩)⟩
def MP{at_:Int}{p:I'}{w:Option Wt}(h:LU W inn ord sc st p at_ a w ls ts):∀{d:C'}{f:Option Wt}{g:W'}{j:E'},LU W inn ord sc st p at_ d f g j->a=d/\w=f/\ls=g/\ts=j:=by
 induction h with|stop h e n=>intro d f g j k;obtain⟨l,os,b,c,_⟩:=k.inv;obtain⟨rfl,rfl⟩:=Pz h b;obtain⟨rfl,rfl,rfl,rfl⟩:=c _ _ e n;exact⟨rfl,rfl,rfl,rfl⟩|opn h e i=>intro d f g j k;obtain⟨l,os,b,_,c⟩:=k.inv;obtain⟨rfl,rfl⟩:=Pz h b;obtain⟨rfl,rfl,rfl,rfl⟩:=(c _ _ e nofun _ _ i).1 rfl;exact⟨rfl,rfl,rfl,rfl⟩|no h e i=>intro d f g j k;obtain⟨l,os,b,_,c⟩:=k.inv;obtain⟨rfl,rfl⟩:=Pz h b;obtain⟨rfl,rfl,rfl,rfl⟩:=(c _ _ e nofun _ _ i).2.1 rfl;exact⟨rfl,rfl,rfl,rfl⟩|go h e i u m=>intro d f g j k;obtain⟨l,os,b,_,c⟩:=k.inv;obtain⟨rfl,rfl⟩:=Pz h b;obtain⟨_,_,o,rfl,rfl⟩:=(c _ _ e nofun _ _ i).2.2 rfl;obtain⟨q,r,s,t⟩:=m o;exact⟨q,r,by rw[s],by rw[t]⟩
section
variable {ss:List BC} {ord:A'}
end
section
variable {ths:J'} {as f:List (C')}
end
section
variable {W:Wd} {f:List (C')} {sc st:Int}
end
section
variable {W:Wd} {sc st:Int}
end
section
variable {W:Wd} {f:List (C')} {ord:A'} {sc st:Int}
def LH(ok:Cj W){n:Int}(b:0<=n/\n<W.gs.length)(h:B8 W n=(i3,q)):0<=q/\q<W.ss.length:=by
 obtain⟨j,c⟩:=DJ b.1;have a:j<W.gs.length:=(by lia);have d:B8 W n=Fp W.gs W.as W.gs[j]:=by unfold B8;rw[c,BF,AM a]
 rw[d] at h;have:=R7 ok (Eo a) rfl (By Prod.fst h);rw[By Prod.snd h] at this;exact this
def PB(ok:Cj W)(c:0<=sc/\sc<W.ss.length)(d:0<=st/\st<W.sts.length){l:Lk}(a:C7 W ord sc st x l os):∀w∈l.2.1,DY W.ss w:=λw b=>Vj ok c d a.b (a.f.perm.mem_iff.mp b)
end
section
variable {ths:J'} {as:List (C')}
end
section
variable {W:Wd} {ord:A'} {sc st:Int}
end
def F4 (xs:R'):Prop:=xs.toList.Pairwise (· < ·)
variable {xs:R'}
def F4.lt(h:F4 xs){a b:Nat}(e:a<b)(c:b<xs.size):xs.getD a 0<xs.getD b 0:=by have d:a<xs.size:=(by lia);have:=(List.pairwise_iff_getElem.mp h) a b (by simpa using d) (by simpa using c) e;rw[n5,n5,Array.getElem?_eq_getElem d,Array.getElem?_eq_getElem c];simpa using this
def F4.le(h:F4 xs){a b:Nat}(d:a<=b)(c:b<xs.size):xs.getD a 0<=xs.getD b 0:=by rcases Nat.lt_or_eq_of_le d with e|e;exact CT (h.lt e c);rw[e];exact AK _
def Ji{d:Nat}(h:i<xs.size):xs.getD i d=xs.getD i 0:=by rw[n5,n5,Array.getElem?_eq_getElem h];rfl
theorem Su{xs:R'}(e:F4 xs)(j:Nat):∀(b lo a:Nat),a<=xs.size->lo<=a->a-lo<=b->(∀i,i<lo->xs.getD i 0<j)->(∀i,a<=i->i<xs.size->j<=xs.getD i 0) ->
 SetTable.below.go xs j b lo a<=xs.size/\(∀i,i<SetTable.below.go xs j b lo a->xs.getD i 0<j)/\∀i,SetTable.below.go xs j b lo a<=i->i<xs.size->j<=xs.getD i 0
 |0,lo,a,f,m,n,g,h=>by have:lo=a:=(by lia);subst this;exact⟨f,g,h⟩
 |b+1,lo,a,f,m,n,g,h=>by unfold SetTable.below.go;by_cases c:lo<a;rw[Ap c];dsimp only;have k:(lo+a)/2<xs.size:=(by lia);rw[Ji k];by_cases d:xs.getD ((lo+a)/2) 0<j;rw[Ap d];exact Su e j b _ a f (by lia) (by lia) (λi l=>Nat.lt_of_le_of_lt (e.le (by lia) k) d) h;rw[Ag d];exact Su e j b lo _ (by lia) (by lia) (by lia) g (λi l o=>Ea (Nat.le_of_not_lt d) (e.le l o));rw[Ag c];have:lo=a:=(by lia);subst this;exact⟨f,g,h⟩
def Sv(a:F4 xs)(j:Nat):SetTable.below xs j<=xs.size/\(∀i,i<SetTable.below xs j->xs.getD i 0<j)/\∀i,SetTable.below xs j<=i->i<xs.size->j<=xs.getD i 0:=
 Su a j xs.size 0 xs.size (AK _) (Dp _) (by lia) (λi h=>by lia) (λi b c=>by lia)
def YS(a:F4 xs):SetTable.below xs 0=0:=by
 obtain⟨_,b,_⟩:=Sv a 0;cases e:SetTable.below xs 0 with|zero=>rfl|succ n=>have:=b 0 (by lia);lia
variable {j:Nat}
def YT(a:F4 xs)(h:xs[i]?=some j):SetTable.below xs (j+1)=i+1:=by
 obtain⟨f,b,d⟩:=Sv a (j+1);have e:i<xs.size:=(Array.getElem?_eq_some_iff.mp h).1;have g:xs.getD i 0=j:=by rw[n5,h];rfl
 rcases Nat.lt_trichotomy (SetTable.below xs (j+1)) (i+1) with c|c|c;have:=d i (by lia) e;lia;exact c;have k:=b (i+1) c;have l:xs.getD i 0<xs.getD (i+1) 0:=a.lt (Qt i) (show i+1<xs.size by lia);lia
def YU(xs:Array α)(p:Nat)(x:α)(a:p<=xs.size):(SetTable.insertAt xs p x).toList=xs.toList.take p++[x]++xs.toList.drop p:=by unfold SetTable.insertAt;simp[Array.toList_extract];exact List.take_of_length_le (by simp)
def YV(e:F4 xs)(n:xs[SetTable.below xs j]?≠some j):F4 (SetTable.insertAt xs (SetTable.below xs j) j):=by
 obtain⟨o,f,q⟩:=Sv e j;generalize SetTable.below xs j=p at o f q n;unfold F4;rw[YU xs p j o]
 have g:∀{i:Nat}(c:i<xs.toList.length),xs.toList[i]=xs.getD i 0:=λ{i}c=>by
  have m:i<xs.size:=(by simpa using c);rw[n5,Array.getElem?_eq_getElem m];simp
 refine List.pairwise_append.mpr ⟨List.pairwise_append.mpr ⟨e.sublist (List.take_sublist _ _),List.pairwise_singleton _ _,λa d b h=>?_⟩,e.sublist (List.drop_sublist _ _),λa d b h=>?_⟩;rw[AX.mp h];obtain⟨i,c,rfl⟩:=List.getElem_of_mem d;rw[Dx] at c;rw[List.getElem_take,g (by lia)];exact f i (by lia);obtain⟨i,c,rfl⟩:=List.getElem_of_mem h;rw[Qr] at c;rw[List.getElem_drop,g (by lia)];have m:p+i<xs.size:=by simp at c;lia
 have s:j<xs.getD p 0:=(by have l:p<xs.size:=(by lia);have:=q p (AK _) l;have ne:xs.getD p 0≠j:=λz=>n (by rw[Array.getElem?_eq_getElem l];rw[n5,Array.getElem?_eq_getElem l] at z;exact By some z);lia);have t:=e.le (show p<=p+i by lia) m;rcases BI.mp d with d|d;obtain⟨k,r,rfl⟩:=List.getElem_of_mem d;rw[Dx] at r;rw[List.getElem_take,g (by lia)];have:=f k (by lia);lia;rw[AX.mp d];lia
structure Gc (led:Bool) (t:SetTable):Prop where
 ris:F4 t.place
 dum:t.dummies=#[]
 led:t.led=led
theorem Vp{t:SetTable}{hashAt:Nat->Int}{h:Int}(hd:t.dummies=#[]):∀(a:Nat)(p:SetTable.Probe){j:Nat}{d:Option Nat},p.dummy=none->SetTable.probe.go t hashAt h a p=some (.empty j d)->t.slot j=.empty/\d=none
 |0,p,j,d,_,e=>by cases e
 |a+1,p,j,d,b,e=>by
   unfold SetTable.probe.go at e
   have l:∀q:SetTable.Probe,q.dummy=none->(t.advance q).dummy=none:=λq f=>by
    unfold SetTable.advance;split;exact f;exact f
   cases c:t.slot p.j with
   |empty=>rw[c] at e;cases e;exact⟨c,b⟩
   |dummy=>
    exfalso;have k:SetTable.has t.dummies p.j=false:=by rw[hd];unfold SetTable.has;simp
    unfold SetTable.slot at c;dsimp only at c;rw[k] at c;by_cases g:(t.place[SetTable.below t.place p.j]?==some p.j)=true;rw[Ap g] at c;cases c;rw[Ag g] at c;cases c
   |live i=>rw[c] at e;dsimp only at e;split at e;cases e;exact Vp hd a _ (l p b) e
def YW{t:SetTable}(h:t.slot j=.empty):t.place[SetTable.below t.place j]?≠some j:=λe=>by unfold SetTable.slot at h;simp only[e] at h;simp at h
variable {led:Bool}
def PD{t:SetTable}(h:Gc led t)(n:Nat):Gc led (t.standIn n):=⟨by
 show F4 (Array.range n);unfold F4;rw[Array.toList_range];exact List.pairwise_lt_range,rfl,h.led⟩
def LI{t:SetTable}(h:Gc led t)(a:t.slot j=.empty):Gc led (t.put j).1:=by
 refine⟨YV h.ris (YW a),?_,h.led⟩;show(if SetTable.has t.dummies j then SetTable.eraseAt t.dummies (SetTable.below t.dummies j) else t.dummies)=#[];rw[h.dum];have:SetTable.has #[] j=false:=by unfold SetTable.has;simp
 rw[this];rfl
def YX {t:SetTable} (h:Gc led t) (es:Array (Int × Value)) (k:Int) (x:Value):Gc led (layNew t es k x).2.1:=by
 unfold layNew
 cases e:t.freeSlot k with
 |none=>exact PD h _
 | some r=>
  obtain⟨i,l⟩:=r;dsimp only
  have b:t.slot i=.empty:=by
   unfold SetTable.freeSlot at e
   cases c:t.probe (λζ=>k+1) k (t.probeStart k) with
   |none=>rw[c] at e;cases e
   |some m=>
    rw[c] at e;cases m with|candidate=>cases e|empty j d=>obtain⟨f,g⟩:=Vp h.dum _ _ rfl c;subst g;cases e;exact f
  have a:=LI h b;unfold SetTable.orStandIn;split;exact a;exact PD a _
def Jj{e l k:Nat}{plain:Bool}{f:Array Int}{r:SetTable×Array Nat}(h:SetTable.laid e l k led plain f=some r):Gc led r.1:=by
 unfold SetTable.laid at h
 cases c:SetTable.layClean e f with
 |none=>rw[c] at h;cases h
 |some owner=>
  rw[c] at h;cases h;refine⟨?_,rfl,rfl⟩;unfold F4;dsimp only;have:(List.map (λx=>x.1) (List.filterMap (λj=>Option.map (λx=>(j,x)) (owner.getD j none)) (List.range (e+1)))).Pairwise (· < ·):=(by rw[List.pairwise_map];refine List.Pairwise.filterMap _ (λa b i c g d hd=>?_) (List.pairwise_lt_range (n:=e+1));obtain⟨x,_,rfl⟩:=E5.mp g;obtain⟨y,_,rfl⟩:=E5.mp hd;exact i);exact this
def YY{t:SetTable}(h:Gc led t)(es:Array (Int×Value))(a:Nat):Gc led (relayAll t es a).2.1:=by
 unfold relayAll;cases c:t.relaid (es.map (·.1)) a with|none=>exact PD h _|some r=>obtain⟨b,order⟩:=r;dsimp only;split;have:=Jj c;rw[h.led] at this;exact this;exact PD h _
section
variable {prog:Program} {w:World} {α:Type} [DecidableEq α] [BEq α] [LawfulBEq α]
def BQ (knd:KeyKind prog w α) (f:Bool) (hp:Heap) (D:Addr) (M:α->Bool) (n:Nat):Prop:=
 ∃(ob:Obj)(es:Array (Int×Value))(ep:Nat)(tb:SetTable),hp.get? D=some ob/\ob.ExactSet/\ob.data=.set es ep tb/\ElemsOf knd es.toList/\(∀y,M y=true↔∃e∈es.toList,knd.is y e.2=true)/\es.size<scanBound/\tb.fits es.size=true/\es.size=n/\Gc f tb
variable {knd:KeyKind prog w α} {f:Bool} {A:Around} {E:D'} {s:Shared} {D:Addr}
variable {M:α->Bool}
def BQ.keep{a b:Heap}(x:BQ knd f a D M n)(k:∀ob,a.get? D=some ob->b.get? D=some ob):BQ knd f b D M n:=by obtain⟨ob,c,d,e,g,x⟩:=x;exact⟨ob,c,d,e,k _ g,x⟩
def BQ.cong{a:Heap}{b:α->Bool}{c:Nat}(x:BQ knd f a D M n)(d:∀y,b y=M y)(e:c=n):BQ knd f a D b c:=by obtain⟨g,h,i,j,k,l,m,o,p,q,r,s,t⟩:=x;exact⟨g,h,i,j,k,l,m,o,λy=>by rw[d];exact p y,q,r,by rw[e];exact s,t⟩
variable {tb:SetTable}
def LJ(x:Gc f tb):Gc f {tb with plain:=false}:=⟨x.ris,x.dum,x.led⟩
def Vq{ob:Obj}{es a:Array (Int×Value)}{ep:Nat}{b:SetTable}(i:s.heap.get? D=some ob)(d:ob.ExactSet)(j:ob.data=.set es ep tb)(k:ElemsOf knd a.toList)(l:∀y,M y=true↔∃e∈a.toList,knd.is y e.2=true)(g:a.size<scanBound)(m:b.fits a.size=true)(o:Gc f b){Q:Unit->Shared->Prop}
 (q:∀c,Heap.SameBut D s.heap c->(∃h,c.get? D=some h/\h.ExactSet/\h.data=.set a (ep+1) b)->BQ knd f c D M a.size->Q () {s with heap:=c}):wpAny (model prog w) A (storeSet D a b) Q E s:=by
 obtain⟨n,_⟩:=SetOf_store (knd:=knd) i d j k l g m;exact wpAny_storeSet_of i j (q _ (o4 ..) ⟨_,n,d,rfl⟩ ⟨_,a,ep+1,b,n,d,rfl,k,l,g,m,rfl,o⟩) (fits_of_scanBound g)
def Vr{l:Array (Int×Value)}{m:List (Int×Value)}(p:l.toList.Perm m):l.size=m.length:=by rw[<-Array.length_toList,p.length_eq]
def Sw(b:Bool){u:Shared}{Q:Unit->Shared->Prop}(q:Q () u):wpAny (model prog w) A (match b with|true=>rule "set.scan.the-table-gave-way"|false=>pure ()) Q E u:=by cases b;exact Ay q;exact H0 q
def Vs{ob:Obj}{es c:Array (Int×Value)}{ep:Nat}{d:SetTable}(v:s.heap.get? D=some ob)(x:ob.ExactSet)(z:ob.data=.set es ep tb)(j:ElemsOf knd c.toList)(k:∀y,M y=true↔∃e∈c.toList,knd.is y e.2=true)(l:c.size<scanBound)(B:d.fits c.size=true)(m:Gc f d){C:Bool}{Q:Option Bool->Shared->Prop}
 {g:Bool->Sem Unit} (F:∀(b:Bool)(u:Shared)(n:Unit->Shared->Prop),n () u->wpAny (model prog w) A (g b) n E u)
 (q:∀h,Heap.SameBut D s.heap h->BQ knd f h D M c.size->Q (some true) {s with heap:=h}) :
 wpAny (model prog w) A (storeSet D c d >>= λζ=>if(!C && d.tooFull)=true then g (relayAll d c (SetTable.grown c.size)).2.2 >>= λζ=>storeSet D (relayAll d c (SetTable.grown c.size)).1 (relayAll d c (SetTable.grown c.size)).2.1 >>= λζ=>pure (some true) else pure (some true)) Q E s:=by
 refine Ae (Vq v x z j k l B m λh o⟨T,G,H,I⟩J=>?_);split;have i:=relayAll_perm d c (SetTable.grown c.size);have p:=relayAll_fits d c (SetTable.grown c.size);have r:=YY m c (SetTable.grown c.size);generalize relayAll d c (SetTable.grown c.size)=K at i p r;obtain⟨L,R,S⟩:=K;have t:L.size=c.size:=(Vr i).trans (Array.length_toList ..);refine Ae (F _ _ _ (Ae ?_));refine Vq (s:={s with heap:=h}) G H I (j.perm i) (λy=>(k y).trans ⟨λ⟨e,a,b⟩=>⟨e,i.mem_iff.mpr a,b⟩,λ⟨e,a,b⟩=>⟨e,i.mem_iff.mp a,b⟩⟩) (by rw[t];exact l) p r λN O ζ P=>?_;exact Ay (q N (o.trans O) (P.cong (λζ=>rfl) t.symm));exact Ay (q h o J)
def Jk{y:α}{x:Value}{Q:Bool->Shared->Prop}(B:knd.is y x=true)(C:x.scannable=true)(T:BQ knd f s.heap D M n)(aa:n+1<scanBound)
 (q:∀a,Heap.SameBut D s.heap a->BQ knd f a D (λz=>M z || decide (z=y)) (if M y then n else n+1)->Q (!M y) {s with heap:=a}):wpAny (model prog w) A (setAddHashed D x (knd.hash y)) Q E s:=by
 obtain⟨U,d,V,tb,h,F,i,r,t,I,G,J,K⟩:=T;unfold setAddHashed setAddHashedIn;refine Fl (Ae (wpAny_setState_of h i G ?_));dsimp only;rw[byScan_of C I r,Ap rfl];unfold setAddByScan;refine Ae (Ae (H0 (Ae (wpAny_setScan_of B h i G r ?_))))
 cases fd:List.findIdx? (λe=>knd.is y e.2) d.toList with
 |some j=>
  obtain⟨W,X,_⟩:=List.findIdx?_eq_some_iff_getElem.mp fd;have k:M y=true:=(t y).mpr ⟨_,Eo W,X⟩;dsimp only;refine Ay (Ay ?_)
  have R:=q s.heap (Heap.SameBut.refl ..) ⟨U,d,V,tb,h,F,i,r,λz=>by
   rw[<-t z,Bool.or_eq_true,decide_eq_true_eq];refine⟨λc=>?_,.inl⟩;rcases c with c|c;exact c;rw[c];exact k,I,G,by rw[k];exact J,K⟩
  rw[k] at R;exact R
 |none=>
  have k:M y=false:=by
   cases c:M y with|false=>rfl|true=>obtain⟨e,Y,Z⟩:=(t y).mp c;have:=List.findIdx?_eq_none_iff.mp fd e Y;rw[Z] at this;cases this
  dsimp only;have g:=layNew_perm tb d (knd.hash y) x;have l:=layNew_fits tb d (knd.hash y) x;have m:=YX K d (knd.hash y) x;generalize layNew tb d (knd.hash y) x=ly at g l m;obtain⟨v,t1,wd,gv⟩:=ly;dsimp only at g l m;rw[Array.toList_push] at g;have L:v.size=n+1:=by rw[Vr g,AY,Array.length_toList,J];rfl
  have N:ElemsOf knd v.toList:=(r.push B C).perm g;have O:=mem_push_iff B t g;have P:v.size<scanBound:=by rw[L];exact aa
  have S:∀a,Heap.SameBut D s.heap a->BQ knd f a D (λz=>M z || decide (z=y)) v.size->Q true {s with heap:=a}:=λa o p=>by
   have:=q a o;rw[k] at this;exact this (p.cong (λζ=>rfl) L.symm)
  refine Ae (Sw _ ?_);split;rw[hashByValue_scannable 8 C];refine Ae (Ay ?_);refine Vs h F i N O P (by split;exact l;exact SetTable.fits_plain_off l) (by split;exact m;exact LJ m) (λb u Q' H=>Sw b H) λa o p=>?_;exact Ay (S a o p);refine Ae (Ay ?_);rw[Ap rfl];exact Vs h F i N O P l m (λb u Q' H=>Sw b H) λa o p=>Ay (S a o p)
end
abbrev BL (w:World):Bool:=!(w.params.followText "set-order")
abbrev HA (b:Bool):Obj:={cls:=.type "set",dict:=none,data:=.set #[] 0 (.fresh 0 0 b)}
section
variable {prog:Program} {w:World} {A:Around} {E:D'} {s:Shared}
theorem Jl(x:Value)(q:Q (.ref s.heap.objs.size) {s with heap:=s.heap.push (HA (BL w))}) :
 codeAny (model prog w) A (.call (.builtin "set.__new__") ⟨[.type "set",x],[]⟩) (wants Q E) s:=by
 refine codeAny_of_tree ?_;show wpAny _ A.in1 (checkBuiltinCall "set.__new__" ⟨[.type "set",x],[]⟩ >>= λζ=>again (.builtin "set.__new__" ⟨[.type "set",x],[]⟩)) _ _ s;refine Ae (wpAny_of_eq (F.newCall_set_1 x) (Ay ⟨plainId_quiet F.plain_set_new _,codeAny_builtin F.entry_set_new ?_⟩));rw[o6 F.plain_set_new _];have a:=sub_set_self;unfold Builtin.«set.__new__» Builtin.Frozenset.newClass
 cases s with
 |mk b g d c os=>
  dsimp only at q ⊢
  wp_walk
  refine wpAny_askSetting (Ay ?_);dsimp only;simp only[newObj];exact Ae (wpAny_alloc (Ay (Ay q)))
end
def BR (f:Nat->Int) (i:Nat):E':=((List.range i).map f).foldl step_dedup []
def NY(f:Nat->Int)(i:Nat):BR f (i+1)=step_dedup (BR f i) (f i):=by unfold BR;rw[List.range_succ,Bh,M4];rfl
def HB(l:E')(x:Int):(step_dedup l x).length=if l.any (·==x) then l.length else l.length+1:=by unfold step_dedup;split<;>simp
def HC(l:E')(x y:Int):(step_dedup l x).any (·==y)=(l.any (·==y) || decide (y=x)):=by
 unfold step_dedup;by_cases h:l.any (·==x)=true;rw[Ap h];by_cases e:y=x;subst e;rw[h];rfl;rw[DS e,Bool.or_false];rw[Ag h,List.any_append];congr 1;by_cases e:y=x;subst e;simp;rw[DS e];simp;exact λz=>e z.symm
theorem Vt(f:Nat->Int):∀i,(BR f i).length<=i
 |0=>AK _
 |i+1=>by have:=Vt f i;rw[NY,HB];split<;>lia
theorem Vu(f:Nat->Int):∀(i:Nat)(y:Int),(BR f i).any (·==y)=true↔∃j,j<i/\f j=y
 |0,y=>by constructor;intro h;cases h;rintro⟨j,h,_⟩;lia
 |i+1,y=>by rw[NY,HC,Bool.or_eq_true,Vu f i y,decide_eq_true_iff];constructor;rintro(⟨j,h,e⟩|e);exact⟨j,by lia,e⟩;exact⟨i,by lia,e.symm⟩;rintro⟨j,h,e⟩;by_cases a:j=i;subst a;exact .inr e.symm;exact .inl ⟨j,by lia,e⟩
section
variable {prog:Program} {w:World} {A:Around} {R:Result->Shared->Prop} {It:Addr} {fp r:G'} {G:Array GenState->Array GenState->Prop} {n:Nat} {Pn:Nat->Value->Prop} {Sn:Nat->Shared->Prop}
theorem YZ(c:WalksS prog w A.in1 It fp r G n Pn Sn)(D:Addr)(m:D∉fp)(f:Nat->Int)(x:∀i v,Pn i v->∃t,v=.int (f i) t)(S:n+1<scanBound) :
 ∀(k i:Nat)(s:Shared),n-i=k->i<=n->Sn i s->BQ (intKind prog w) (BL w) s.heap D (λy=>(BR f i).any (·==y)) (BR f i).length ->
  (∀g,Moved (D::r) G s g->BQ (intKind prog w) (BL w) g.heap D (λy=>(BR f n).any (·==y)) (BR f n).length->R (.ok (.ret .none)) g) ->
  codeAny (model prog w) A (.builtin "set.update.loop" ⟨[.ref D,.ref It],[]⟩) R s:=by
 have q:D∉r:=λz=>m (c.sub _ z);have sub:∀b∈r,b∈D::r:=λb z=>Du _ z;intro k
 induction k with
 |zero=>
  intro i s B C st h l;obtain rfl:i=n:=by lia
  refine codeAny_builtin F.entry_set_update_loop ?_;rw[o6 F.plain_set_update_loop _];show wpAny _ A.in1 (pyNext (.ref It) >>= _) _ _ s;refine Ae (c.done s _ _ st λa d=>?_);show wpAny _ A.in1 (ret Value.none) _ _ a;refine Ay (l a (d.mono sub) ?_);exact h.keep λE e=>d.heap D _ q e
 |succ k H=>
  intro i s B C st h l;have lt:i<n:=(by lia);refine codeAny_builtin F.entry_set_update_loop ?_;rw[o6 F.plain_set_update_loop _];show wpAny _ A.in1 (pyNext (.ref It) >>= _) _ _ s;refine Ae (c.item i s _ _ lt st λv a pv K d=>?_);obtain⟨t,rfl⟩:=x i v pv;have L:BQ (intKind prog w) (BL w) a.heap D (λy=>(BR f i).any (·==y)) (BR f i).length:=h.keep λE e=>d.heap D _ q e;show wpAny _ A.in1 (holding [Value.int (f i) t] (setAdd D (.int (f i) t)) >>= _) _ _ a;refine Ae (Fl ?_);unfold setAdd;refine Fl ?_;have u:(intKind prog w).is (f i) (.int (f i) t)=true:=intKind_is _ _ _ _;refine Ae ((intKind prog w).pyHash (k:=f i) u ?_);have Q:(BR f i).length+1<scanBound:=by have:=Vt f i;lia
  refine Jk (knd:=intKind prog w) (s:={a with toks:=a.toks+1}) u rfl L Q λI p M=>?_
  have N:BQ (intKind prog w) (BL w) I D (λy=>(BR f (i+1)).any (·==y)) (BR f (i+1)).length:=
   M.cong (λy=>by rw[NY,HC]) (by rw[NY,HB])
  refine Ay ⟨plainId_quiet F.plain_set_update_loop _,H (i+1) _ (by lia) lt (c.frame _ a _ _ K (Nat.le_succ _) λb j o e=>?_) N λJ O P=>?_⟩;rw[p.2 b λz:b=D=>m (by rw[<-z];exact j)];exact e;refine l J (Moved.trans c.gtrans ((d.mono sub).then_heap (Nat.le_succ _) λb o j e=>?_) O) P;rw[p.2 b λz:b=D=>j (by rw[z];exact BS)];exact e
end
section
variable {prog:Program} {w:World} {A:Around} {E:D'} {s:Shared}
set_option maxRecDepth 100000 in
set_option maxHeartbeats 3200000 in
theorem Y0 {l:Addr} {a:M'} {f:Nat->Int} {Q:D'} (K:A.handled=none) (L:s.heap.IsList l a) (M:∀ (i:Nat) (v:Value),a[i]? = some v -> ∃ t,v=.int (f i) t) (d:a.size + 1 < scanBound)
 (h:∀(h':Heap)(g:Nat),BQ (intKind prog w) (BL w) h' s.heap.objs.size (λy=>(BR f a.size).any (·==y)) (BR f a.size).length ->
  (∀b o,b<s.heap.objs.size->s.heap.get? b=some o->h'.get? b=some o)->Q (.ref s.heap.objs.size) {s with heap:=h',toks:=g}) :
 wpAny (model prog w) A (call (.type "set") [.ref l]) Q E s:=by
 obtain⟨c,tl,aq⟩:=F.called_set.mro;have aw:=F.called_set.made;have ar:=F.called_set.sub;refine wpAny_call (codeAny_of_tree ?_);show wpAny _ _ (callAny (.type "set") _) _ _ _;refine Ay ⟨Code.quiet_builtin _ (by decide +kernel),codeAny_builtin F.entry_type_call ?_⟩;rw[Around.under_plain (weight_type_call_type "set" [.ref l] []) rfl];have h1:=F.called_set.notType;have h2:=F.called_set.canCreate;have aj:=F.typeCall_set_1 (.ref l)
 repeat (any_goals (first|assumption|wp_step))
 refine codeAny_mono (Jl (.ref l) (E:=E) (Q:=λp q=>p=.ref s.heap.objs.size/\q={s with heap:=s.heap.push (HA (BL w))}) ⟨rfl,rfl⟩) λr q k=>?_
 cases r with
 |error e=>exact k
 | ok N=>
  cases N with
  | ret p=>
   obtain⟨rfl,rfl⟩:=k;have u:(s.heap.push (HA (BL w))).get? s.heap.objs.size=some (HA (BL w)):=Cb _ rfl;have O:Shared.TypeIs {s with heap:=s.heap.push (HA (BL w))} (.ref s.heap.objs.size) "set" :=⟨_,u,rfl⟩;have ak:=F.called_set.init.lookup;have al:=F.called_set.init.bind (.ref s.heap.objs.size)
   repeat (any_goals (first|assumption|wp_step))
   refine codeAny_mono (codeAny_call_builtin (R:=wants (λr x=>r=.none/\∃h' g,x={s with heap:=h',toks:=g}/\BQ (intKind prog w) (BL w) h' s.heap.objs.size (λy=>(BR f a.size).any (·==y)) (BR f a.size).length /\
    (∀b o,b<s.heap.objs.size->s.heap.get? b=some o->h'.get? b=some o)) E) F.called_set.init.plain F.entry_set_init (check_set_init_1 O ?_)) λP x m=>?_
   . obtain⟨⟨oc,S,an,X⟩,D,G,B,H⟩:=L
     simp only at G H;subst G;subst H;have ai:(s.heap.push (HA (BL w))).get? l=some {cls:=.type "list",dict:=S,data:=.seq a B,slots:=X}:=Ba _ D;have au:=F.sub_list_set;have av:=F.sub_list_frozenset;have ao:(Value.type "list" == Value.type "dict")=false:=(by decide);have I:(s.heap.push (HA (BL w))).IsList l a:=⟨_,ai,rfl,B,rfl⟩;unfold Builtin.«set.__init__» noKeywords Builtin.Frozenset.updateFrom;generalize Y:pyIter=PI
     wp_walk
     subst Y;refine wpAny_pyIter_list I (Ae (wpAny_runValue ?_));have J:l<s.heap.objs.size:=Bg D;have Z:A.in1.in1.in1.handled=none:=(by simp[K]);have aa:l≠(s.heap.push (HA (BL w))).objs.size:=(by rw[n7];exact Ch (Nat.lt_succ_of_lt J));have ab:s.heap.objs.size∉[(s.heap.push (HA (BL w))).objs.size,l]:=(by rw[n7];intro z;rcases BB.mp z with z|z;exact absurd z (Ch (Qt _));exact absurd (AX.mp z) (Nat.ne_of_gt J));refine YZ ((Walks.list Z _ l aa a).toS) s.heap.objs.size ab f M d (a.size-0) 0 _ (by lia) (Dp _) ⟨⟨_,Cb _ rfl,rfl,rfl⟩,(I.push _)⟩ ?hS0 ?hR
     case hS0 =>
      have T:((s.heap.push (HA (BL w))).push {cls:=.type "list_iterator",data:=.fields #[.ref l,.int 0 0]}).get? s.heap.objs.size=some (HA (BL w)):=Ba _ u;exact⟨_,#[],0,_,T,⟨rfl,rfl,rfl⟩,rfl,(λe U=>by simp at U),(λy=>by simp[BR]),by decide,rfl,rfl,⟨List.Pairwise.nil,rfl,rfl⟩⟩
     case hR =>
      rintro⟨h',V,W,ae,af⟩ j n;obtain rfl:V=s.gens:=j.gens;obtain rfl:W=s.drawn:=j.drawn;obtain rfl:af=s.os:=j.os;show wpAny _ _ _ _ _ _;refine Ay ?_;show wpAny _ _ (ret Value.none) _ _ _;refine Ay ⟨rfl,h',ae,rfl,n,λb o d e=>?_⟩;refine j.heap b o (λz=>?_) (Ba _ (Ba _ e));rcases BB.mp z with z|z;exact absurd z (Ch d);have C:=AX.mp z;rw[n7] at C;exact absurd C (Ch (Nat.lt_succ_of_lt d))
   . cases P with
     |error e=>exact m
     |ok ag=>
      cases ag with
      |ret r=>
       obtain⟨rfl,h',g,rfl,n,ah⟩:=m
       repeat (any_goals (first|assumption|wp_step))
       exact h _ _ n ah
      |_=>exact m.elim
  |_=>exact k.elim
end
def Y1:entryFor table "set.__iter__" = some Builtin.«frozenset.__iter__»:=entryFor_alias (id':= "frozenset.__iter__") (by kernel_rfl) rfl (by decide +kernel) (by kernel_rfl)
def Bv:Slot "set_iterator" "__next__" "set_iterator.__next__" :=.of (owner:= "set_iterator") (n:= "__next__") (by rw[typeLookup_type,builtinLookup_eq_fast];kernel_rfl) (by decide +kernel) (by decide +kernel) (by decide +kernel) (by first|exact .inl (by decide +kernel)|exact .inr (by decide +kernel)) (by rw[isSubtype_type];kernel_rfl)
def PH:entryFor table "set_iterator.__next__" = some Builtin.«set_iterator.__next__»:=entryFor_of_tree (by kernel_rfl)
def Vv:Manifest.owners.lookup (String.ofList ['r','o','t','a','r','e','t','i','_','t','e','s'].reverse)=some Manifest.sig_set_iterator:=by kernel_rfl
def PJ(a:Value):argsOk "set_iterator.__next__" ⟨[a],[]⟩:=by unfold argsOk;rw[signature?_of (id:= "set_iterator.__next__") (n:=['_','_','t','x','e','n','_','_']) (o:=['r','o','t','a','r','e','t','i','_','t','e','s']) (by kernel_rfl) Vv];kernel_rfl
abbrev Eh (f:Value) (i n ep:Nat) (D:Addr):Obj:={cls:=.type "set_iterator",data:=.fields #[f,rawInt i,.ref D,rawInt n,rawInt ep]}
structure EQ (hp:Heap) (D:Addr) (es:Array (Int×Value)) (ep:Nat) (tb:SetTable):Prop where
 ex:∃ob,hp.get? D=some ob/\ob.ExactSet/\ob.data=.set es ep tb
 fit:tb.fits es.size=true
section
variable {prog:Program} {w:World} {A:Around} {E:D'} {s:Shared} {It D:Addr} {es:Array (Int×Value)} {ep:Nat} {tb:SetTable}
def EQ.entries(x:EQ s.heap D es ep tb){Q:Array (Int×Value)->Shared->Prop}(q:Q es s):wpAny (model prog w) A (setEntries D) Q E s:=by obtain⟨b,a,_,c⟩:=x.ex;exact wpAny_setEntries_of a c x.fit q
def EQ.state(x:EQ s.heap D es ep tb){Q:(Array (Int×Value)×Nat×SetTable)->Shared->Prop}(q:Q (es,ep,tb) s):wpAny (model prog w) A (setState D) Q E s:=by obtain⟨b,a,_,c⟩:=x.ex;exact wpAny_setState_of a c x.fit q
def EQ.keep{c d:Heap}(x:EQ c D es ep tb)(k:∀ob,c.get? D=some ob->d.get? D=some ob):EQ d D es ep tb:=by obtain⟨ob,a,b⟩:=x.ex;exact⟨⟨ob,k _ a,b⟩,x.fit⟩
def Y2{d a:Nat}{v:Value}{Q:K'->Shared->Prop}(b:s.heap.get? It=some (Eh (rawInt d) i es.size ep D))(h:EQ s.heap D es ep tb)
 (j:∀(B:Around)(k:D')(e:Option (Value×Nat)->Shared->Prop),e (some (v,a)) s->wpAny (model prog w) B (setNext D d i ep) e k s)
 (q:∀c,c.get? It=some (Eh (rawInt a) (i+1) es.size ep D)->Heap.SameBut It s.heap c->Q (some v) {s with heap:=c}):wpAny (model prog w) A (pyNext (.ref It)) Q E s:=by
 have f:s.TypeIs (.ref It) "set_iterator" :=⟨_,b,rfl⟩;unfold pyNext;refine Ae (wpAny_attempt (wpAny_callSpecial?_slot (name:=Str.ofString "__next__") f Bv (wpAny_call_entry Bv f PH ?_ (PJ _))));unfold Builtin.«set_iterator.__next__» slotArgs;simp only[List.isEmpty_nil,Bool.not_true,Fk,↓reduceIte,GI,bne_self_eq_false];refine Ae (Ay ?_);refine Ae (wpAny_fieldsOf b rfl ?_);show wpAny _ _ (setEntries D >>= _) _ _ s;refine Ae (h.entries ?_);rw[Ag (by simp)];refine Ae (j _ _ _ ?_);show wpAny _ _ (setField (Value.ref It) 0 (rawInt a) >>= _) _ _ s;refine Ae (wpAny_setField b rfl (by simp) ?_);have g:(s.heap.update It (Obj.mapFields (·.setIfInBounds 0 (rawInt a)))).get? It=some (Eh (rawInt a) i es.size ep D):=o2 _ b rfl;refine Ae (wpAny_setField g rfl (by simp) ?_);have l:=o2 (Obj.mapFields (·.setIfInBounds 1 (rawInt ((i:Int)+1)))) g rfl;exact Ay ⟨_,rfl,Ay (q _ l ((o4 ..).trans (o4 ..)))⟩
def Vw{vs:M'}{ob:Obj}{Q:K'->Shared->Prop}(f:A.handled=none)(g:s.heap.get? It=some ob)(hd:ob.data=.fields vs)(hz:2<vs.size)
 (q:∀d,Heap.ExtBut It s.heap d->Q none {s with heap:=d}):wpAny (model prog w) A.in1 (setField (Value.ref It) 2 Value.none >>= λζ=>newExc (Value.type "StopIteration") [] >>= λe=>raiseNew (α:=Fin) e) (λh c=>∃v,h=Fin.done (Flow.ret v)/\wpAny (model prog w) A (pure (some v)) Q E c)
  (λe c=>wpAny (model prog w) A (isInstance e (Value.type "StopIteration") >>= λb=>if b=true then pure none else throw e) Q E c) s:=by
 refine Ae (wpAny_setField g hd hz ?_);refine Ae ?_;simp only[newExc,newTuple];refine Ae (wpAny_newObj_type ?_ (by size_fits));refine Ae (m:=firstArgMember _ _) (wpAny_of_eq (a:=Value.none) (by first|rfl|(simp only[firstArgMember];rfl)) ?_);refine wpAny_newObj_type ?_ (by size_fits);simp only[raiseNew];refine Ae (wpAny_handled ?_);rw[show A.in1.handled=none from f];refine Ae (Ay (wpAny_throw ?_));refine Ae (wpAny_isInstance (T:= "StopIteration") (b:=true) ⟨_,Cb _ rfl,rfl⟩ isSubtype_stop ?_);exact Ay (q _ (((o4 ..).extBut.push _).push _))
def Y3{b:Nat}{Q:K'->Shared->Prop}(f:A.handled=none)(a:s.heap.get? It=some (Eh (rawInt b) i es.size ep D))(g:EQ s.heap D es ep tb)
 (h:∀(B:Around)(j:D')(c:Option (Value×Nat)->Shared->Prop),c none s->wpAny (model prog w) B (setNext D b i ep) c j s)
 (q:∀d,Heap.ExtBut It s.heap d->Q none {s with heap:=d}):wpAny (model prog w) A (pyNext (.ref It)) Q E s:=by
 have e:s.TypeIs (.ref It) "set_iterator" :=⟨_,a,rfl⟩;unfold pyNext;refine Ae (wpAny_attempt (wpAny_callSpecial?_slot (name:=Str.ofString "__next__") e Bv (wpAny_call_entry Bv e PH ?_ (PJ _))));unfold Builtin.«set_iterator.__next__» slotArgs;simp only[List.isEmpty_nil,Bool.not_true,Fk,↓reduceIte,GI,bne_self_eq_false];refine Ae (Ay ?_);refine Ae (wpAny_fieldsOf a rfl ?_);show wpAny _ _ (setEntries D >>= _) _ _ s;refine Ae (g.entries ?_);rw[Ag (by simp)];refine Ae (h _ _ _ ?_);exact Vw f a rfl (by simp) q
def Y4{c:M'}{p:Nat}{t:Tok}{v:Value}{hv:Int}{Q:K'->Shared->Prop}(b:s.heap.get? It=some (Eh (.ref T) i es.size ep D))(d:EQ s.heap D es ep tb)(h:s.heap.IsTuple T c)(a:c[i]?=some (.int p t))(hv:es[p]?=some (hv,v))
 (q:∀a,a.get? It=some (Eh (.ref T) (i+1) es.size ep D)->Heap.SameBut It s.heap a->Q (some v) {s with heap:=a}):wpAny (model prog w) A (pyNext (.ref It)) Q E s:=by
 have e:s.TypeIs (.ref It) "set_iterator" :=⟨_,b,rfl⟩;obtain⟨j,f,k,l,dt⟩:=h;unfold pyNext;refine Ae (wpAny_attempt (wpAny_callSpecial?_slot (name:=Str.ofString "__next__") e Bv (wpAny_call_entry Bv e PH ?_ (PJ _))));unfold Builtin.«set_iterator.__next__» slotArgs;simp only[List.isEmpty_nil,Bool.not_true,Fk,↓reduceIte,GI,bne_self_eq_false];refine Ae (Ay ?_);refine Ae (wpAny_fieldsOf b rfl ?_);show wpAny _ _ (setEntries D >>= _) _ _ s;refine Ae (d.entries ?_);rw[Ag (by simp)];show wpAny _ _ (seqItems? (.ref T) >>= _) _ _ s;refine Ae (F8 f dt ?_);show wpAny _ _ (match c[i]? with|some (Value.int place tok)=>_|some val=>_|none=>_) _ _ s
 rw[a];show wpAny _ _ (setNextDrawn D p ep >>= _) _ _ s;refine Ae ?_;unfold setNextDrawn;refine Ae (d.state ?_);dsimp only;rw[Ag (by simp)];rw[hv];refine Ay ?_;show wpAny _ _ (setField (Value.ref It) 1 (rawInt ((i:Int)+1)) >>= _) _ _ s;refine Ae (wpAny_setField b rfl (by simp) ?_);have g:=o2 (Obj.mapFields (·.setIfInBounds 1 (rawInt ((i:Int)+1)))) b rfl;exact Ay ⟨_,rfl,Ay (q _ g (o4 ..))⟩
def Y5{c:M'}{Q:K'->Shared->Prop}(e:A.handled=none)(b:s.heap.get? It=some (Eh (.ref T) i es.size ep D))(f:EQ s.heap D es ep tb)(j:s.heap.IsTuple T c)(a:c[i]?=none)
 (q:∀a,Heap.ExtBut It s.heap a->Q none {s with heap:=a}):wpAny (model prog w) A (pyNext (.ref It)) Q E s:=by
 have d:s.TypeIs (.ref It) "set_iterator" :=⟨_,b,rfl⟩;obtain⟨k,g,l,m,dt⟩:=j;unfold pyNext;refine Ae (wpAny_attempt (wpAny_callSpecial?_slot (name:=Str.ofString "__next__") d Bv (wpAny_call_entry Bv d PH ?_ (PJ _))));unfold Builtin.«set_iterator.__next__» slotArgs;simp only[List.isEmpty_nil,Bool.not_true,Fk,↓reduceIte,GI,bne_self_eq_false];refine Ae (Ay ?_);refine Ae (wpAny_fieldsOf b rfl ?_);show wpAny _ _ (setEntries D >>= _) _ _ s;refine Ae (f.entries ?_);rw[Ag (by simp)];show wpAny _ _ (seqItems? (.ref T) >>= _) _ _ s;refine Ae (F8 g dt ?_);show wpAny _ _ (match c[i]? with|some (Value.int place tok)=>_|some val=>_|none=>_) _ _ s
 rw[a];show wpAny _ _ (setField (Value.ref It) 0 (rawInt 0) >>= _) _ _ s;refine Ae (wpAny_setField b rfl (by simp) ?_);have h:=o2 (Obj.mapFields (·.setIfInBounds 0 (rawInt 0))) b rfl;exact Vw e h rfl (by simp) λa ex=>q a ((o4 ..).extBut.trans ex)
def HD{v:Value}{n:Int}(h:(intKind prog w).is n v=true):∃t,v=.int n t:=by have a:Value.isInt n v=true:=h;cases v<;>simp[Value.isInt] at a;subst a;exact⟨_,rfl⟩
theorem Sx{α:Type}:∀{l:List α}{i:Nat}(h:i<l.length),(l[i]::l.eraseIdx i).Perm l
 |x::l,0,_=>List.Perm.refl _
 |x::l,i+1,h=>(List.Perm.swap x _ _).trans (List.Perm.cons x (Sx (l:=l) (i:=i) (by simpa using h)))
theorem Vx{α:Type}(nx:Nat->Nat):∀(a k:Nat)(left:List α)(out:Array α),left.length=a->(pickOrder.go nx a k left out).toList.Perm (out.toList++left)
 |0,k,left,out,h=>by
   rw[List.length_eq_zero_iff.mp h];unfold pickOrder.go;simp
 |a+1,k,left,out,h=>by have b:nx k%left.length<left.length:=Nat.mod_lt _ (by lia);unfold pickOrder.go;rw[AM b];dsimp only;refine(Vx nx a (k+1) _ _ (by rw[List.length_eraseIdx,Ap b];lia)).trans ?_;rw[Array.toList_push,Fv];refine List.Perm.append_left _ ?_;exact Sx b
def Y6{c:Source}{Q:Nat->Shared->Prop}(a:n≠0)(q:∀i b,i<n->Q i {s with drawn:=b}):wpAny (model prog w) A (choose c n) Q E s:=
 λζ ζ ζ=>⟨a,q _ _ (Nat.mod_lt _ (Nat.pos_of_ne_zero a))⟩
theorem Vy{α:Type}:∀(n:Nat)(xs:List α){A:Around}{E:D'}{s:Shared}{Q:List α->Shared->Prop},xs.length=n->(∀ys b,ys.Perm xs->Q ys {s with drawn:=b})->wpAny (model prog w) A (drawOrder n xs) Q E s
 |0,xs,A,E,s,Q,h,q=>by have e:=List.length_eq_zero_iff.mp h;subst e;unfold drawOrder;exact Ay (q [] s.drawn (List.Perm.refl _))
 |n+1,[],A,E,s,Q,h,q=>by cases h
 |n+1,x::xs,A,E,s,Q,h,q=>by unfold drawOrder;refine Ae (Y6 (by simp) λi b a=>?_);rw[AM a];dsimp only;refine Ae (Vy n _ (by rw[List.length_eraseIdx,Ap a];lia) λys d c=>?_);exact Ay (q _ d ((List.Perm.cons _ c).trans (Sx a)))
end
def Vz:Slot "set_iterator" "__iter__" "set_iterator.__iter__" :=.of (owner:= "set_iterator") (n:= "__iter__") (by rw[typeLookup_type,builtinLookup_eq_fast];kernel_rfl) (by decide +kernel) (by decide +kernel) (by decide +kernel) (by first|exact .inl (by decide +kernel)|exact .inr (by decide +kernel)) (by rw[isSubtype_type];kernel_rfl)
def Y7:entryFor table "set_iterator.__iter__" = some Builtin.«dict_keyiterator.__iter__»:=entryFor_alias (id':= "dict_keyiterator.__iter__") (by kernel_rfl) rfl (by decide +kernel) (by kernel_rfl)
def Y8(a:Value):argsOk "set_iterator.__iter__" ⟨[a],[]⟩:=by unfold argsOk;rw[signature?_of (id:= "set_iterator.__iter__") (n:=['_','_','r','e','t','i','_','_']) (o:=['r','o','t','a','r','e','t','i','_','t','e','s']) (by kernel_rfl) Vv];kernel_rfl
section
variable {prog:Program} {w:World} {A:Around} {E:D'} {s:Shared} {It D:Addr} {es:Array (Int×Value)} {ep:Nat} {tb:SetTable}
def VA{f:Value}(b:s.heap.get? It=some (Eh f i n ep D))(q:Q (.ref It) s):wpAny (model prog w) A (pyIter (.ref It)) Q E s:=by have a:s.TypeIs (.ref It) "set_iterator" :=⟨_,b,rfl⟩;refine wpAny_pyIter_slot a Vz (wpAny_call_entry Vz a Y7 ?_ (Y8 _));show wpAny _ _ (ret (.ref It)) _ _ s;exact Ay ⟨_,rfl, "set_iterator",_,a,Bv.lookup,q⟩
def LL{b:Addr}(h:b∈[It]):b∈[It,D]:=by rw[AX.mp h];exact BS
def VB(p:A.handled=none)(r:It≠D)(f:Nat->Nat)(vs:F')(H:vs.length=es.size)
 (t:∀(i:Nat)(v:Value)(s:Shared)(B:Around)(d:D')(c:Option (Value×Nat)->Shared->Prop),vs[i]?=some v->EQ s.heap D es ep tb->c (some (v,f (i+1))) s->wpAny (model prog w) B (setNext D (f i) i ep) c d s)
 (u:∀(s:Shared)(B:Around)(d:D')(c:Option (Value×Nat)->Shared->Prop),EQ s.heap D es ep tb->c none s->wpAny (model prog w) B (setNext D (f es.size) es.size ep) c d s) :
 Walks prog w A It [It,D] [It] es.size (λi v=>vs[i]?=some v) (λi h=>h.get? It=some (Eh (rawInt (f i)) i es.size ep D)/\EQ h D es ep tb) where
 sub:=λb y=>LL y
 frame:=λi h I⟨a,b⟩k=>⟨k It BS _ a,b.keep λC e=>k D (by simp) _ e⟩
 item:=λi s Q E J⟨a,b⟩q=>by have G:i<vs.length:=(by lia);have m:=AM G;refine Y2 (v:=vs[i]) a b (λB d c g=>t i _ s B d c m b g) λj F n=>?_;have:=q vs[i] j s.toks m ⟨F,b.keep λC e=>(n.2 D (Ne.symm r)).trans e⟩ λx o l e=>(n.2 x (λz=>l (by rw[z];exact BS))).trans e;exact this
 done:=λs Q E⟨a,b⟩q=>Y3 p a b (λB d c g=>u s B d c b g) λj ex=>q j s.toks λx o l e=>ex x o (λz=>l (by rw[z];exact BS)) e
 self:=λi s Q E⟨a,_⟩q=>VA a q
def Y9(m:A.handled=none)(n:It≠D)(r:It≠T)(f:P')(vs:F')(H:vs.length=es.size)(hv:∀(i:Nat)(v:Value),vs[i]?=some v->∃(p:Nat)(x:Int),f[i]?=some p/\es[p]?=some (x,v))(d:f.length=es.size) :
 Walks prog w A It [It,D,T] [It] es.size (λi v=>vs[i]?=some v) (λi h=>h.get? It=some (Eh (.ref T) i es.size ep D)/\EQ h D es ep tb/\h.IsTuple T (f.map λp:Nat=>rawInt (p:Int)).toArray) where
 sub:=λb u=>by rw[AX.mp u];exact BS
 frame:=λi h I⟨a,b,c⟩k=>⟨k It BS _ a,b.keep λy e=>k D (by simp) _ e,let ⟨o,e,x⟩:=c;⟨o,k T (by simp) _ e,x⟩⟩
 item:=λi s Q E J⟨a,b,c⟩q=>by have G:i<vs.length:=(by lia);have l:=AM G;obtain⟨p,x,B,C⟩:=hv i _ l;refine Y4 (v:=vs[i]) (hv:=x) (t:=0) a b c (by simp[B,rawInt]) C λd F g=>?_;exact q vs[i] d s.toks l ⟨F,b.keep λy e=>(g.2 D (Ne.symm n)).trans e,let ⟨o,e,x⟩:=c;⟨o,(g.2 T (Ne.symm r)).trans e,x⟩⟩ λx o j e=>(g.2 x (λz=>j (by rw[z];exact BS))).trans e
 done:=λs Q E⟨a,b,c⟩q=>Y5 m a b c (by simp[d]) λd ex=>q d s.toks λx o j e=>ex x o (λz=>j (by rw[z];exact BS)) e
 self:=λi s Q E⟨a,_⟩q=>VA a q
structure ER (prog:Program) (w:World) (A:Around) (h0 hp:Heap) (D It:Addr) (ks:E'):Prop where
 walk:∃(fp:G')(St:Nat->Heap->Prop),Walks prog w A It fp [It] ks.length (λi v=>∃t,v=.int (ks.getD i 0) t) St/\St 0 hp/\∀b∈fp,b=D\/h0.objs.size<=b
 keep:∀b o,h0.get? b=some o->hp.get? b=some o
 new:h0.objs.size<=It
def Walks.weaker{a r:G'}{P b:Nat->Value->Prop}{St:Nat->Heap->Prop}(W:Walks prog w A It a r n P St)(h:∀i v,P i v->b i v):Walks prog w A It a r n b St where
 sub:=W.sub
 frame:=W.frame
 item:=λi s Q E c st q=>W.item i s Q E c st λv d e pv=>q v d e (h i v pv)
 done:=W.done
 self:=W.self
def Sy{M:Int->Bool}{vs:F'}(s:ElemsOf (intKind prog w) es.toList)(u:∀y,M y=true↔∃e∈es.toList,(intKind prog w).is y e.2=true)(f:vs.Perm (es.toList.map (·.2))):∃ks:E',ks.length=vs.length/\(∀(i:Nat)(v:Value),vs[i]?=some v->∃t,v=.int (ks.getD i 0) t)/\∀y,M y=true↔y∈ks:=by
 have z:∀v∈vs,∃n t,v=Value.int n t:=λv g=>by
  obtain⟨e,c,rfl⟩:=AN.mp (f.mem_iff.mp g);obtain⟨⟨k,A,_⟩,_⟩:=s e c;obtain⟨t,j⟩:=HD A;exact⟨k,t,j⟩
 have B:∀l:F',(∀v∈l,∃n t,v=Value.int n t)->∃ks:E',ks.length=l.length/\∀(i:Nat)(v:Value),l[i]?=some v->∃t,v=.int (ks.getD i 0) t:=λl=>by
  induction l with
  |nil=>exact λζ=>⟨[],rfl,λi v h=>by cases h⟩
  |cons x l C=>
   intro q;obtain⟨ks,a,b⟩:=C λv g=>q v (Du _ g);obtain⟨n,t,e⟩:=q x BS;refine⟨n::ks,by simp[a],λi v h=>?_⟩;cases i with|zero=>simp at h;subst h;exact⟨t,e⟩|succ i=>simpa using b i v (by simpa using h)
 obtain⟨ks,a,b⟩:=B vs z;refine⟨ks,a,b,λy=>?_⟩;rw[u y];constructor;rintro⟨e,c,m⟩;obtain⟨t,j⟩:=HD m;have D:e.2∈vs:=f.mem_iff.mpr (AN.mpr ⟨e,c,rfl⟩);obtain⟨i,o,p⟩:=List.getElem_of_mem D;obtain⟨G,d⟩:=b i _ (AM o);rw[p,j] at d;have E:y=ks.getD i 0:=(by injection d);rw[E,Dv,AM (show i<ks.length by lia)];exact Eo _;intro m;obtain⟨i,o,p⟩:=List.getElem_of_mem m;have r:i<vs.length:=(by lia);obtain⟨t,d⟩:=b i _ (AM r);obtain⟨e,c,F⟩:=AN.mp (f.mem_iff.mp (Eo r));refine⟨e,c,?_⟩;rw[F,d,Dv,AM o];show(intKind prog w).is y (.int ks[i] t)=true;rw[p];exact intKind_is _ _ _ _
def VC{ks:E'}:∀{vs:F'},vs.length=ks.length->(∀(i:Nat)(v:Value),vs[i]?=some v->∃t,v=.int (ks.getD i 0) t)->IntsAre vs ks:=by
 induction ks with
 |nil=>intro vs a _;cases vs with
   |nil=>exact .nil
   |cons _ _=>simp at a
 |cons x r b=>
  intro vs a h;cases vs with|nil=>simp at a|cons v vs=>obtain⟨t,e⟩:=h 0 v rfl;obtain rfl:v=.int x t:=e;exact .cons _ _ (b (by simpa using a) λi u c=>h (i+1) u (by simpa using c))
def ER.of{a c:Heap}{d:G'}{m:Nat}{vs:F'}{St:Nat->Heap->Prop}{ks:E'}(W:Walks prog w A It d [It] m (λi v=>vs[i]?=some v) St)(e:ks.length=m)(f:∀(i:Nat)(v:Value),vs[i]?=some v->∃t,v=.int (ks.getD i 0) t)(st:St 0 c)(lt:∀b∈d,b=D\/a.objs.size<=b)(g:∀b o,a.get? b=some o->c.get? b=some o)(h:a.objs.size<=It):ER prog w A a c D It ks:=
 ⟨⟨d,St,by rw[e];exact Walks.weaker W f,st,lt⟩,g,h⟩
def Sz{f:Value}(b:EQ s.heap D es ep tb)(q:Q (.ref s.heap.objs.size) {s with heap:=s.heap.push (Eh f 0 es.size ep D)}) :
 wpAny (model prog w) A (setEpoch D >>= λe=>newFields "set_iterator" [f,rawInt 0,Value.ref D,rawInt ↑es.size,rawInt ↑e] >>= λv=>ret v) (λh d=>∃v,h=Fin.done (Flow.ret v)/\∃g r,d.TypeIs v g/\typeLookup (Value.type g) (Str.ofString "__next__")=pure (some r)/\Q v d) E s:=by
 obtain⟨i,a,_,c⟩:=b.ex;refine Ae (wpAny_setEpoch_of a c b.fit ?_);refine Ae (wpAny_newObj_type (Ay ⟨_,rfl, "set_iterator",_,⟨_,Cb _ rfl,rfl⟩,Bv.lookup,?_⟩));exact q
def VD{nx:Nat->Nat}{a:Nat}{v:Option (Value×Nat)}(d:w.params.followText "set-order" = true)(f:w.params.setOrder D ep=nx)(hv:((pickOrder nx es)[i]?).map (λe=>(e.2,a))=v)(b:EQ s.heap D es ep tb){Q:Option (Value×Nat)->Shared->Prop}(q:Q v s):wpAny (model prog w) A (setNext D a i ep) Q E s:=by unfold setNext;refine Ae (b.state ?_);dsimp only;unfold setsByText;refine Ae (Ae (wpAny_askSetting (Ay ?_)));have c:(model prog w).w.params.followText "set-order" = true:=d;dsimp only;rw[c,Ap rfl];rw[Ag (by simp)];refine Ae ?_;unfold setWalk setsByText;refine Ae (b.state ?_);dsimp only;refine Ae (Ae (wpAny_askSetting (Ay ?_)));dsimp only;rw[c,Ap rfl];refine Ae (wpAny_askSetting ?_);refine Ay ?_;have g:(model prog w).w.params.setOrder D ep=nx:=f;dsimp only;rw[g,hv];exact Ay q
def VE{a:Nat}{v:Option (Value×Nat)}(c:w.params.followText "set-order" = false)(d:(!tb.plain && decide (es.size > 1))=false)(e:tb.led=true)(hv:(∃h x j,es[SetTable.below tb.place a]?=some (h,x)/\tb.place[SetTable.below tb.place a]?=some j/\v=some (x,j+1))\/(es[SetTable.below tb.place a]?=none/\v=none))(f:EQ s.heap D es ep tb){Q:Option (Value×Nat)->Shared->Prop}(q:Q v s):wpAny (model prog w) A (setNext D a i ep) Q E s:=by
 unfold setNext;refine Ae (f.state ?_);dsimp only;unfold setsByText;refine Ae (Ae (wpAny_askSetting (Ay ?_)));have k:(model prog w).w.params.followText "set-order" = false:=c;dsimp only;rw[k,Ag Ce];refine wpAny_ite_split (λh=>absurd (show(!tb.plain && decide (es.size > 1))=true from h) (by rw[d];exact Ce)) (λζ=>?_);refine Ae ?_;show wpAny _ _ (if(!tb.led && !es.isEmpty)=true then _ else _) _ _ _;rw[e];simp only[Bool.not_true,Bool.false_and,Fk,↓reduceIte];refine Ay ?_;rcases hv with⟨h,x,j,b,g,rfl⟩|⟨b,rfl⟩;rw[b,g];exact Ay q;rw[b];exact Ay q
theorem Za {M:Int->Bool}(I:A.handled=none) (hS:BQ (intKind prog w) (BL w) s.heap D M n)
 (q:∀(It:Addr)(m:Heap)(J:Drawn)(ks:E'),ks.length=n->(∀y,M y=true↔y∈ks)->ER prog w A s.heap m D It ks->Q (.ref It) {s with heap:=m,drawn:=J}):wpAny (model prog w) A (pyIter (.ref D)) Q E s:=by
 obtain⟨r,es,ep,tb,K,Y,x3,L,N,x6,Z,O,P⟩:=hS;have j:EQ s.heap D es ep tb:=⟨⟨r,K,Y,x3⟩,Z⟩;have hT:s.TypeIs (.ref D) "set" :=⟨r,K,Y.1⟩;have aa:D<s.heap.objs.size:=Bg K;refine wpAny_pyIter_slot hT F.slot_set_iter (wpAny_call_entry F.slot_set_iter hT Y1 ?_ (F.args_set_iter_1 _));unfold Builtin.«frozenset.__iter__» Builtin.Frozenset.slot0 slotArgs;simp only[List.isEmpty_nil,Bool.not_true,Fk,↓reduceIte,bind_assoc,GI,bne_self_eq_false];unfold Builtin.Frozenset.addrOf Builtin.Frozenset.sizeOf;refine Ae (Ay ?_);dsimp only;refine Ae (Ay ?_);refine Ae (Ae (j.entries (Ay ?_)));unfold setDrawn setsByText;refine Ae (Ae (j.state ?_));dsimp only;refine Ae (Ae (wpAny_askSetting (Ay ?_)));refine Ay ?_;dsimp only;have n0:s.heap.objs.size≠D:=Nat.ne_of_gt aa
 have ab:∀{b:Addr},b∈[s.heap.objs.size,D]->b=D\/s.heap.objs.size<=b:=λ{b}a=>by
  rcases BB.mp a with rfl|a;exact .inr (AK _);exact .inl (AX.mp a)
 cases z:(model prog w).w.params.followText "set-order" with
 |true=>
  simp only[Bool.not_true,Bool.false_and,Fk,↓reduceIte];refine Ae (Ay ?_);refine Sz j ?_;have R:((pickOrder (w.params.setOrder D ep) es).toList).Perm es.toList:=(by have:=Vx (w.params.setOrder D ep) es.size 0 es.toList #[] (by simp);show(pickOrder.go (w.params.setOrder D ep) es.size 0 es.toList #[]).toList.Perm es.toList;simpa using this);obtain⟨ks,d,t,u⟩:=Sy L N (R.map (·.2));have lv:((pickOrder (w.params.setOrder D ep) es).toList.map (·.2)).length=es.size:=by rw[An,R.length_eq];simp
  have W:=VB (prog:=prog) (w:=w) (A:=A) (It:=s.heap.objs.size) (D:=D) (es:=es) (ep:=ep) (tb:=tb) I n0 (λζ=>0) _ lv
   (λi v S B U V f k l=>VD (nx:=w.params.setOrder D ep) z rfl (by
    rw[Bf] at f;obtain⟨e,c,rfl⟩:=E5.mp f;rw[<-Array.getElem?_toList,c];rfl) k l)
   (λS B U V k l=>VD (nx:=w.params.setOrder D ep) z rfl (by
    have hz:(pickOrder (w.params.setOrder D ep) es).toList.length=es.size:=by rw[R.length_eq];simp
    rw[<-Array.getElem?_toList,GH (by lia)];rfl) k l)
  refine q _ _ s.drawn ks (by rw[d,lv,O]) u (ER.of W (d.trans lv) t ⟨Cb _ rfl,j.keep λr e=>Ba _ e⟩ (λb a=>ab a) (λb o e=>Ba _ e) (AK _))
 |false=>
  have ae:tb.led=true:=(by rw[P.led];unfold BL;have:w.params.followText "set-order" = false:=z;rw[this];rfl);simp only[Bool.not_false,Bool.true_and]
  cases H:(!tb.plain && decide (es.size > 1)) with
  |true=>
   refine wpAny_ite_split (λζ=>?_) (λh=>absurd (show(!tb.plain && decide (es.size > 1))=true from H) h);refine Ae (Vy es.size _ m5 λg J m=>?_);have X:g.length=es.size:=by rw[m.length_eq];exact m5
   refine Ae (wpAny_newObj_type ?_ (by show(List.map (λi:Nat=>rawInt (i:Int)) g).toArray.size<=sizeLine;rw[Cq,An,X];exact fits_of_scanBound x6));have af:EQ (s.heap.push {cls:=.type "tuple",data:=.seq (g.map λi:Nat=>rawInt (i:Int)).toArray}) D es ep tb:=j.keep λr e=>Ba _ e;refine Sz af ?_;have ah:∀p∈g,p<es.size:=λp h=>List.mem_range.mp (m.mem_iff.mp h)
   have vp:(g.map λp=>(es.getD p (0,.none)).2).Perm (es.toList.map (·.2)):=by
    have c:es.toList.map (·.2)=(List.range es.size).map λp=>(es.getD p (0,.none)).2:=(by refine List.ext_getElem (by simp) λi h1 h2=>?_;simp at h1;simp[h1]);rw[c];exact m.map _
   obtain⟨ks,d,t,u⟩:=Sy L N vp;have lv:(g.map λp=>(es.getD p (0,.none)).2).length=es.size:=(by rw[An,X])
   have W:=Y9 (prog:=prog) (w:=w) (A:=A) (It:=(s.heap.push {cls:=.type "tuple",data:=.seq (g.map λi:Nat=>rawInt (i:Int)).toArray}).objs.size) (D:=D) (T:=s.heap.objs.size) (es:=es) (ep:=ep) (tb:=tb) I (by rw[n7];exact Nat.ne_of_gt (Nat.lt_succ_of_lt aa)) (by rw[n7];exact Nat.succ_ne_self _) g _ lv (λi v f=>by
    rw[Bf] at f;obtain⟨p,c,rfl⟩:=E5.mp f;have ai:=ah p (Bq c);refine⟨p,(es.getD p (0,.none)).1,c,?_⟩;simp[ai]) X
   refine q _ _ J ks (by rw[d,lv,O]) u (ER.of W (d.trans lv) t ⟨Cb _ rfl,af.keep λr e=>Ba _ e,⟨_,Ba _ (Cb _ rfl),rfl,_,rfl⟩⟩ (λb a=>?_) (λb o e=>Ba _ (Ba _ e)) (by rw[n7];exact Nat.le_succ _));rcases BB.mp a with rfl|a;rw[n7];exact .inr (Nat.le_succ _);rcases BB.mp a with rfl|a;exact .inl rfl;rw[AX.mp a];exact .inr (AK _)
  |false=>
   refine wpAny_ite_split (λh=>absurd (show(!tb.plain && decide (es.size > 1))=true from h) (by rw[H];exact Ce)) (λζ=>?_);refine Ae (Ay ?_);refine Sz j ?_;obtain⟨ks,d,t,u⟩:=Sy L N (List.Perm.refl _);have lv:(es.toList.map (·.2)).length=es.size:=by simp
   have C:tb.place.size=es.size:=(by have:=Z;unfold SetTable.fits at this;simp at this;exact this.1)
   have ag:∀i,i<=tb.place.size->SetTable.below tb.place (if i=0 then 0 else tb.place.getD (i-1) 0+1)=i:=λi G=>by
    cases i with|zero=>exact YS P.ris|succ i=>have aj:i<tb.place.size:=G;simp only[Nat.add_eq_zero_iff,Nat.one_ne_zero,and_false,↓reduceIte,Nat.add_sub_cancel];refine YT P.ris ?_;rw[n5,Array.getElem?_eq_getElem aj];rfl
   have W:=VB (prog:=prog) (w:=w) (A:=A) (It:=s.heap.objs.size) (D:=D) (es:=es) (ep:=ep) (tb:=tb) I n0 (λi=>if i=0 then 0 else tb.place.getD (i-1) 0+1) _ lv
    (λi v S B U V f k l=>VE z H ae (.inl (by
     rw[Bf] at f;obtain⟨⟨h,x⟩,c,rfl⟩:=E5.mp f;rw[Array.getElem?_toList] at c;have G:i<tb.place.size:=by rw[C];exact(Array.getElem?_eq_some_iff.mp c).1
     have a:=ag i (CT G);refine⟨h,x,tb.place.getD i 0,by rw[a];exact c,?_,by simp⟩;rw[a,n5,Array.getElem?_eq_getElem G];rfl)) k l)
    (λS B U V k l=>VE z H ae (.inr ⟨by
     rw[ag es.size (Nat.le_of_eq C.symm)];simp,rfl⟩) k l)
   refine q _ _ s.drawn ks (by rw[d,lv,O]) u (ER.of W (d.trans lv) t ⟨Cb _ rfl,j.keep λr e=>Ba _ e⟩ (λb a=>ab a) (λb o e=>Ba _ e) (AK _))
end
section
variable {prog:Program} {w:World} {A:Around} {E:D'} {s:Shared} {D:Addr}
theorem Zb(a:s.TypeIs (.ref D) "set"){Q:Bool->Shared->Prop}(q:∀b,Q b s):wpAny (model prog w) A (Builtin.List.listLengthHint (.ref D)) Q E s:=by
 unfold Builtin.List.listLengthHint;refine Ae (wpAny_specialOf a F.slot_set_len.lookup ?_);generalize AZ:("set.__len__" : String)=c
 wp_delta
 rw[show splitId c=some ("set", "__len__") by subst AZ;decide +kernel];subst AZ;refine Ae (wpAny_isInstance (T:= "set") (b:=true) a (by rw[isSubtype_type];kernel_rfl) (wpAny_ite_split (λh=>absurd h (by decide)) λζ=>?_));refine wpAny_ite_split (λζ=>Ae (OL a (Ay (q _)))) λh=>absurd (by decide +kernel) h
theorem Jm{M:Int->Bool}{R:Result->Shared->Prop}(O:A.handled=none)(u:BQ (intKind prog w) (BL w) s.heap D M n){S:Addr}(x:S≠D)(res:Value)(B:s.heap.get? S=some {cls:=.type "list",data:=.seq #[]})(P:n<=sizeLine)
 (q:∀h' j Q acc c(ks:E'),(∀b o,b≠S->s.heap.get? b=some o->h'.get? b=some o)->h'.get? S=some {cls:=.type "list",dict:=none,data:=.seq acc c,slots:=#[]}->ItemsOf (λi v=>∃t,v=.int (ks.getD i 0) t) acc ks.length->ks.length=n->(∀y,M y=true↔y∈ks)->R (.ok (.ret res)) {s with heap:=h',drawn:=j,toks:=Q}) :
 wpAny (model prog w) A.in1 (Builtin.List.listExtendWith (.ref S) (.ref D) res)
  (λab d=>match ab with|.done f=>R (.ok f) d|.again C=>C.quiet=true/\codeAny (model prog w) A C R d) (λe d=>R (.error e) d) s:=by
 have E:s.TypeIs (.ref D) "set" :=by obtain⟨l,_,_,_,a,b,_⟩:=u;exact⟨l,a,b.1⟩
 have ae:S<s.heap.objs.size:=Bg B;unfold Builtin.List.listExtendWith;refine Ae (OL E ?_);rw[Ag (by simp[Builtin.List.listSameRef,x])];refine Ae (Za (A:=A.in1) O u λIt m j ks G T U=>?_);obtain⟨⟨V,St,W,st,af⟩,k,X⟩:=U;have p:=k _ _ B;have H:S∉V:=λz=>(af S z).elim x λy=>absurd ae (Nat.not_lt_of_le y)
 have L:∀(h:Heap)(r:Nat),St 0 h->(∀b o,b≠S->s.heap.get? b=some o->h.get? b=some o)->h.get? S=some {cls:=.type "list",data:=.seq #[] r} ->
  codeAny (model prog w) A (.builtin "list.extend.loop" ⟨[.ref S,.ref It,res],[]⟩) R {s with heap:=h,drawn:=j}:=λh r ag Y Z=>by
  refine codeAny_extend_loopS W.toS (by rw[G];exact P) S H res ks.length 0 _ #[] r rfl (Dp _) ag Z (ItemsOf.nil _) λd acc c I e1 ah=>?_;rw[Moved.eq_with I];refine q d.heap j d.toks acc c ks (λb o J e=>I.heap b o (λz=>?_) (Y b o J e)) e1 ah G T;rcases BB.mp z with y|y;exact J y;have:=Bg e;rw[AX.mp y] at this;exact absurd this (Nat.not_lt_of_le X)
 have quiet:(Code.builtin "list.extend.loop" ⟨[.ref S,.ref It,res],[]⟩).quiet=true:=plainId_quiet F.plain_extend_loop _;refine Ae (Fl (Zb (s:={s with heap:=m,drawn:=j}) (by obtain⟨l,a,b⟩:=E;exact⟨l,k _ _ a,b⟩) λb=>?_));refine wpAny_ite_split (λζ=>?_) λζ=>Ay ⟨quiet,L _ 0 st (λb o ζ e=>k b o e) p⟩;refine Ae (H0 (Ae ?_));show wpAny _ _ (updateSeq S (·.push .none) >>= λζ=>updateSeq S (·.pop)) _ _ _;refine Ae (wpAny_updateSeq p rfl ?_);have K:=o2 (Obj.mapSeq (·.push Value.none)) p rfl;refine wpAny_updateSeq (hz:=by seq_fits) K rfl ?_;have aa:=o2 (Obj.mapSeq (·.pop)) K rfl;have N:∀b,b≠S->((m.update S (Obj.mapSeq (·.push Value.none))).update S (Obj.mapSeq (·.pop))).get? b=m.get? b:=λb g=>(Heap.get?_update_other _ _ (Ne.symm g)).trans (Heap.get?_update_other _ _ (Ne.symm g));exact Ay ⟨quiet,L _ _ (W.frame 0 _ _ st λb g o e=>(N b λz=>H (z▸g)).trans e) (λb o g e=>(N b g).trans (k b o e)) aa⟩
theorem Zc{M:Int->Bool}{Q:F'->Shared->Prop}(z:A.handled=none)(u:BQ (intKind prog w) (BL w) s.heap D M n)(B:n<=sizeLine)
 (q:∀h' d g acc(ks:E'),(∀b o,s.heap.get? b=some o->h'.get? b=some o)->IntsAre acc ks->ks.length=n->(∀y,M y=true↔y∈ks)->Q acc {s with heap:=h',drawn:=d,toks:=g}):wpAny (model prog w) A (collect (.ref D)) Q E s:=by
 have I:D<s.heap.objs.size:=by obtain⟨C,_,_,_,a,_⟩:=u;exact Bg a
 unfold collect;refine Ae (wpAny_runValue (codeAny_builtin entry_proto_collect' ?_));rw[o6 F.plain_proto_collect _];show wpAny _ A.in1 (newList [] >>= λl=>again (.builtin "list.__iadd__" ⟨[l,.ref D],[]⟩)) _ _ s;refine Ae (wpAny_newObj_type (Ay ⟨plainId_quiet F.plain_list_iadd _,codeAny_builtin entry_list_iadd' ?_⟩));rw[o6 F.plain_list_iadd _];show wpAny _ A.in1 (Builtin.List.listExtendWith (.ref s.heap.objs.size) (.ref D) (.ref s.heap.objs.size)) _ _ _
 refine Fw (Jm (A:=A) (s:={s with heap:=s.heap.push {cls:=.type "list",data:=.seq ([]:F').toArray}}) (S:=s.heap.objs.size)
  (R:=λr t=>∃h' d g acc c,∃ks:E',r=.ok (.ret (.ref s.heap.objs.size))/\t={s with heap:=h',drawn:=d,toks:=g}/\(∀b o,s.heap.get? b=some o->h'.get? b=some o)/\h'.get? s.heap.objs.size=some {cls:=.type "list",dict:=none,data:=.seq acc c,slots:=#[]}/\IntsAre acc.toList ks/\ks.length=n/\∀y,M y=true↔y∈ks)
  z (u.keep λC e=>Ba _ e) (Nat.ne_of_gt I) _ (Cb _ rfl) B λh' d g acc c ks j k h m p=>⟨h',d,g,acc,c,ks,rfl,rfl,λb o e=>j b o (Ch (Bg e)) (Ba _ e),k,?_,m,p⟩) (λJ t x=>?_) λe t x=>?_
 exact VC (by rw[Array.length_toList,h.1]) λi v G=>h.2 i v (by rw[<-Array.getElem?_toList];exact G)
 . cases J with
   |done f=>obtain⟨h',d,g,acc,c,ks,e,rfl,j,k,h,m,p⟩:=x;cases e;show wpAny _ A (load s.heap.objs.size >>= _) _ _ _;exact Ae (wpAny_load k (Ay (q h' d g acc.toList ks j h m p)))
   |again K=>refine⟨x.1,codeAny_mono x.2 λr L y=>?_⟩;obtain⟨h',d,g,acc,c,ks,rfl,rfl,j,k,h,m,p⟩:=y;show wpAny _ A (load s.heap.objs.size >>= _) _ _ _;exact Ae (wpAny_load k (Ay (q h' d g acc.toList ks j h m p)))
 obtain⟨_,_,_,_,_,_,H,_⟩:=x;cases H
end
def LM{l:E'}:∀{m:E'},l.Nodup->(∀x∈l,x∈m)->m.length<=l.length->m.Nodup:=by
 induction l with
 |nil=>intro m _ _ h;rw[List.length_eq_zero_iff.mp (Nat.le_zero.mp h)];exact List.nodup_nil
 |cons a l g=>
  intro m d f i;obtain⟨j,k⟩:=Fh.mp d;have c:=List.perm_cons_erase (f a BS);have n:(m.erase a).length<=l.length:=(by have:=c.length_eq;simp at this i;lia)
  have sub:∀x∈l,x∈m.erase a:=λx b=>by
   have:=c.mem_iff.mp (f x (Du _ b));rcases BB.mp this with e|e;exact absurd (e▸b) j;exact e
  refine c.nodup_iff.mpr (Fh.mpr ⟨λo=>?_,g k sub n⟩)
  have:(a::l).length<=(m.erase a).length:=Ord.nodup_sub_length d λx b=>by
   rcases BB.mp b with e|e;rw[e];exact o;exact sub x e
  simp at this;lia
def VF{l:E'}(h:l.Pairwise (·<=·))(c:l.Nodup):l.Pairwise (· < ·):=(h.and c).imp λ{a b}⟨x,y⟩=>by lia
set_option tactic.hygienic true in
def NZ{l:E'}{x:Int}(h:l.Nodup):(step_dedup l x).Nodup:=by unfold step_dedup;split;exact h;rename_i c;refine List.nodup_append.mpr ⟨h,List.pairwise_singleton _ _,λa d b f e=>c ?_⟩;rw[AX.mp f] at e;rw[KC];exact⟨a,d,by rw[e];simp⟩
theorem VG(f:Nat->Int):∀i,(BR f i).Nodup
 |0=>List.nodup_nil
 |i+1=>by rw[NY];exact NZ (VG f i)
def LN (P:Program) (w:World) (a:Addr) (ns:E'):HO:=.ext λh=>∃ds:E',ds.Nodup/\(∀y,y∈ds↔y∈ns)/\BQ (intKind P w) (BL w) h a (λy=>ds.any (·==y)) ds.length
section
variable {prog:Program} {w:World} {A:Around} {E:D'} {s:Shared} {D:Addr}
def Zd{M:Int->Bool}(r:A.handled=none)(t:BQ (intKind prog w) (BL w) s.heap D M n)(C:n<64)
 (q:∀(R:Addr)h' c d k out(ks:E'),(∀b o,s.heap.get? b=some o->h'.get? b=some o)->(∀b o,s.heap.get? b=some o->b≠R)->h'.get? R=some {cls:=.type "list",data:=.seq out k}->IntsAre out.toList ks->ks.length=n->(∀y,M y=true↔y∈ks)->ks.Pairwise (·<=·)->Q (.ref R) {s with heap:=h',drawn:=c,toks:=d}) :
 wpAny (model prog w) A (call (.builtin "sorted") [.ref D]) Q E s:=by
 refine Calls.call_function_entry kind_sorted plain_sorted entry_sorted (args_sorted1 _) ?_;unfold Builtin.«sorted»;refine Ae (m:=checkCount "sorted" 1 1 _) (Ay ?_);refine Ae (Zc (A:=A.in1) r t (CT (BX (by lia))) λf c d a ks g i j u=>?_);have v:a.length<64:=by rw[i.length,j];exact C
 refine Ae (wpAny_newList ?_ (CT (BX (by lia))));have h:(f.push {cls:=.type "list",data:=.seq a.toArray}).get? f.objs.size=some (seqObj "list" a.toArray 0):=Cb _ rfl;refine Ae (Fl (wpAny_call_entry slot_list_sort ⟨_,h,rfl⟩ entry_list_sort (list_sort_tree h i v λout F x l z=>⟨_,rfl,?_⟩) (args_list_sort _)));obtain⟨k,B⟩:=sortedHeap_at (vs:=a) (out:=out) h;refine Ay ⟨_,rfl,q f.objs.size _ c d k out F (λb o e=>?_) (λb o e=>Ch (Bg (g b o e))) B x (by rw[l.length_eq,j]) (λy=>by rw[u,l.mem_iff]) z⟩;have p:=Bg (g b o e);rw[sortedHeap_old (Ch p) (by rw[n7];exact Nat.lt_succ_of_lt p)];exact Ba _ (g b o e)
end
section
variable {X:Cx} {pins:B'} {σ:L2.St} {H:Hp} {s:Shared}
def Inv.drew(I:Inv X pins σ H s)(a:Drawn):Inv X pins σ H {s with drawn:=a}:=
 I.step (h':=s.heap) (H':=H) (g':=s.gens) (t':=s.toks) (d':=a) (ch:=[]) (λζ z=>nomatch z) (λζ ζ ζ ζ ζ e ζ=>e) (λζ o ζ ζ ζ e ζ=>⟨o.slots,e⟩) (λζ ζ ζ ζ n=>n) (λζ o ζ e=>⟨o,e⟩) (λζ ζ e=>e) (λζ ζ ζ e=>e) (λζ b e=>⟨#[],by rw[e];simp⟩) (λζ h=>h) I.hok I.bare
def N0 (P:Program) (w:World) (K:Aj):S'->Hp->VK->Prop:=λvs H Q=>∃(p:Addr)(ns:E'),vs=[.ref p]/\Ai K H p (ns.map V.int)/\ns.length<=4000/\∀q,H q=none->Q (.ref q) (upd H q (LN P w q ns))
def Ze{ns:E'}{a:F'}(r:Aw (ns.map V.int) a):∀(i:Nat)(v:Value),a.toArray[i]?=some v->∃t,v=.int (ns.getD i 0) t:=λi v e=>by
 have d:a[i]?=some v:=(by simpa using e);have f:=r.length;rw[An] at f;have b:i<ns.length:=by have:=(Bi.mp d).1;lia
 obtain⟨u,c,g⟩:=r.get (i:=i) (x:=.int ns[i]) (by rw[Bf,AM b];rfl);rw[d] at c;cases c;rw[Dv,AM b];exact g
def Zf(v:X.calm=true):Br X (.type "set") (N0 X.prog X.w X.K):=by intro pins s σ H M N Q I r h;obtain⟨p,c,rfl,w,O,q⟩:=h;obtain⟨u,rfl,z⟩:=F9 r;obtain rfl:u=Value.ref p:=z;obtain⟨g,l,A,_⟩:=I.list w;have m:=l.length;rw[An] at m;have t:g.toArray.size=c.length:=(by rw[Cq,m]);refine Y0 (f:=λi=>c.getD i 0) (I.ok.hd v) A.isList (Ze l) (by rw[t];unfold scanBound;lia) λB C n k=>?_;have Y:∀b u,s.heap.get? b=some u->B.get? b=some u:=λb u e=>k b u (Bg e) e;refine⟨.ref s.heap.objs.size,upd H s.heap.objs.size (LN X.prog X.w s.heap.objs.size c),I.laid (t':=C) Y (AK _) ?_,rfl,q _ I.fresh⟩;refine⟨⟨_,VG _ _,λy=>?_,n⟩,?_,λP R⟨D,E,F,G⟩J=>⟨D,E,F,G.keep λK e=>J K e⟩⟩;have:=Vu (λi=>c.getD i 0) g.toArray.size y;rw[KC] at this;have e:(∃x,x∈BR (λi=>c.getD i 0) g.toArray.size/\(x==y)=true)↔y∈BR (λi=>c.getD i 0) g.toArray.size:=⟨λ⟨x,a,b⟩=>by rw[<-eq_of_beq b];exact a,λa=>⟨y,a,by simp⟩⟩;rw[<-e,this,t];constructor;rintro⟨j,d,rfl⟩;rw[Dv,AM d];exact Eo d;intro L;obtain⟨j,d,e⟩:=List.getElem_of_mem L;exact⟨j,d,by rw[Dv,AM d];exact e⟩;obtain⟨o,_,_,_,e,_⟩:=n;exact⟨o,e⟩
def LO (P:Program) (w:World):S'->Hp->VK->Prop:=λvs H Q=>∃(d:Addr)(ns:E'),vs=[.ref d]/\H d=some (LN P w d ns)/\(∀ds:E',ds.Nodup->(∀y∈ds,y∈ns)->ds.length<64)/\∀D(ms:E'),ms.Pairwise (· < ·)->(∀y,y∈ms↔y∈ns)->H D=none->Q (.ref D) (upd H D (.lst (ms.map V.int)))
def Zg(n:X.calm=true):Br X (.builtin "sorted") (LO X.prog X.w):=by
 intro pins s σ H J K Q I r h;obtain⟨d,L,rfl,hd,E,q⟩:=h;obtain⟨u,rfl,o⟩:=F9 r;obtain rfl:u=Value.ref d:=o;obtain⟨⟨f,g,i,p⟩,_,_⟩:=I.hok d _ hd;have t:=E f g λy e=>(i y).mp e;refine Zd (I.ok.hd n) p t λR M v w k F c Y j z A l B C=>?_
 have m:∀y,y∈c↔y∈f:=λy=>by
  rw[<-B y,KC];exact⟨λ⟨x,a,b⟩=>by rw[<-eq_of_beq b];exact a,λa=>⟨y,a,by simp⟩⟩
 have D:c.Nodup:=LM g (λy e=>(m y).mpr e) (Nat.le_of_eq l);have G:(c.map V.int).length<=sizeLine:=by rw[An,l];exact CT (BX (by lia))
 exact⟨.ref R,upd H R (.lst (c.map V.int)),(I.drew v).laidN (t':=w) Y j ⟨G,F.toList,k,O3 A,by rw[Array.toArray_toList];exact z⟩,rfl,q R c (VF C D) (λy=>(m y).trans (i y)) (I.freshN j)⟩
end
def Ft (gs:J') (n:Int):E':=match gs[n.toNat]? with
 |some p=>if p.1=i9 then[p.2] else[]
 |none=>[]
def HE (gs:J') (as:List (C')) (q:Int):E':=match as[q.toNat]? with
 |some (some w)=>if w.1=f' then Ft gs w.2 else[]
 |_=>[]
def Gd (W:Wd) (st:Int) (p:CF):E':=if p.2.1=i6/\(EK (D8 W st) p.1).isSome=true then p.2.2::HE W.gs W.as p.2.2 else[]
def BA (W:Wd) (b:AO):E':=(B2 W b.2.1).flatMap (Gd W b.2.2)
def F5 (ss:List BC) (w:List Au):E':=if(DL ss w).2.2.1=i6 then[(DL ss w).2.2.2] else[]
def ES (W:Wd) (l:Lk):E':=l.1.flatMap (BA W)++l.2.1.flatMap (F5 W.ss)
def Bu (W:Wd) (ls:W') (ts:E'):E':=ls.flatMap (ES W)++ts.flatMap (Ft W.gs)
section
variable {ths:J'} {as f:List (C')}
end
section
variable {W:Wd} {f:List (C')} {ord:A'} {sc st:Int}
end
section
variable {X:Cx}
end
abbrev EF:Type:=C'
section
variable {W:Wd} {qs:V'} {inn:Int} {ord:A'} {n:Nat} {as f:List EF} {ts:E'}
end
def qA (gs:J'):C'->E'
 |some w=>if w.1=f' then Ft gs w.2 else[]
 |none=>[]
def Jn{gs:J'}{a:List (C')}{k:Nat}{o:C'}(h:a[k]?=some o):HE gs a (k:Int)=qA gs o:=by unfold HE;rw[BF,h];cases o<;>rfl
section
variable {F:Addr->Prop} {H:Hp} {v:V} {d e f:Dt}
def PK{i:Int}(h:AL F H v (.int i)):v=.int i:=by cases h;rfl
def LP(h:AL F H v (.str x)):v=.str x:=by cases h;rfl
def N1(h:AL F H v (.tup [d,e,f])):∃t x y z,v=.ref t/\H t=some (.tup [x,y,z])/\AL F H x d/\AL F H y e/\AL F H z f:=by
 cases h with
 | tup h t=>
  cases t with
  |cons a t=>
   cases t with
   |cons b t=>
    cases t with
    |cons c t=>
     cases t with|nil=>exact⟨_,_,_,_,rfl,h,a,b,c⟩
def PM{b:List Dt}(h:AL F H v (.lst b)):∃a vs,v=.ref a/\H a=some (.lst vs)/\Am F H vs b:=by
 cases h with|lst h f t=>exact⟨_,_,rfl,h,t⟩
def HF(h:AL F H v (DD.D b)):∃t x,v=.ref t/\H t=some (.tup [x,.int b.2.1,.int b.2.2]):=by obtain⟨t,x,y,z,c,a,_,d,e⟩:=N1 (show AL F H v (.tup [Bn.D b.1,.int b.2.1,.int b.2.2]) from h);rw[PK d,PK e] at a;exact⟨t,x,c,a⟩
def N2(h:AL F H v (Pd m)):∃t,v=.ref t/\H t=some (.tup (Gw m)):=by obtain⟨t,x,y,z,b,a,c,d,e⟩:=N1 h;rw[PK c,LP d,PK e] at a;exact⟨t,b,a⟩
theorem Am.app_inv:∀{es b:List Dt}{vs:S'},Am F H vs (es++b)->∃xs ys,vs=xs++ys/\Am F H ys b
 |[],_,vs,h=>⟨[],vs,rfl,h⟩
 |_::es,_,_,.cons a t=>by obtain⟨xs,ys,e,h⟩:=Am.app_inv (es:=es) t;exact⟨_::xs,ys,by rw[e];rfl,h⟩
def Jo(h:AL F H v (Bn.D (w++[m]))):∃a vs t,v=.ref a/\H a=some (.lst vs)/\BW vs (-1)=some (.ref t)/\H t=some (.tup (Gw m)):=by
 obtain⟨a,vs,c,d,b⟩:=PM (show AL F H v (.lst ((w++[m]).map Pd)) from h);rw[Bh] at b;obtain⟨xs,g,rfl,e⟩:=b.app_inv
 cases e with
 |cons a t=>
  cases t with|nil=>obtain⟨t,rfl,f⟩:=N2 a;exact⟨_,_,t,c,d,Pe _ _,f⟩
def MQ{f:α->Dt}{l:List α}{vs:S'}(h:Am F H vs (l.map f))(hv:vs[i]?=some v):∃b,l[i]?=some b/\AL F H v (f b):=by obtain⟨d,a,c⟩:=h.get hv;rw[Bf] at a;obtain⟨b,e,rfl⟩:=E5.mp a;exact⟨b,e,c⟩
end
def MR(h:n<=9000):n<sizeLine:=Nat.lt_of_le_of_lt h (by decide)
def N4{β:Type}{f:α->List β}{l:List α}{a:α}(h:l[i]?=some a):(l.take (i+1)).flatMap f=(l.take i).flatMap f++f a:=by
 rw[En,h];show(l.take i++[a]).flatMap f=_;rw[List.flatMap_append];simp
def N5{β:Type}{f:α->List β}{l:List α}(i:Nat):((l.take i).flatMap f).length<=(l.flatMap f).length:=by have:l.flatMap f=(l.take i).flatMap f++(l.drop i).flatMap f:=(by rw[<-List.flatMap_append,List.take_append_drop]);rw[this,AY];lia
def Zh(gs:J')(n:Int):(Ft gs n).length<=1:=by
 unfold Ft;split;split<;>simp;simp
def LQ(gs:J')(o:C'):(qA gs o).length<=1:=by
 unfold qA;split;split;exact Zh _ _;simp;simp
def Zi{b:Int}{p:CF}(a:p∈B2 W b):∃s∈W.ss,p∈s.1:=by
 unfold B2 at a;cases e:W.ss[b.toNat]? with|none=>rw[e] at a;cases a|some s=>rw[e] at a;exact⟨s,Bq e,a⟩
structure Jp (W:Wd) (l:Lk):Prop where
 b:l.1.length<=62
 f:l.2.1.length<=62
 bo:∀b∈l.1,C5 W b
 en:∀w∈l.2.1,DY W.ss w
def PP(ok:Cj W)(d:Cc W){l:Lk}(a:0<=sc/\sc<W.ss.length)(c:0<=st/\st<W.sts.length)(h:C7 W ord sc st x l os):Jp W l:=by refine⟨h.b.few,?_,λb e=>((h.b.mem b).mp e).ok ok a c,PB ok a c h⟩;have f:=h.f.perm.length_eq;have g:=d.fnd x sc st _ a c h.b;lia
def VH(ok:Cj W)(f:Cc W)(r:0<=inn/\inn<W.sts.length){at_:Int}{p:I'}{w:Option Wt}(k:LU W inn ord sc st p at_ a w ls ts) :
 0<=sc/\sc<W.ss.length->0<=st/\st<W.sts.length->(∀l∈ls,Jp W l)/\(∀n∈ts,0<=n/\n<W.gs.length)/\ts.length<=ls.length:=by
 induction k with
 |stop h e n=>exact λb c=>⟨λl d=>by rw[AX.mp d];exact PP ok f b c h,(λζ z=>by cases z),Dp _⟩
 |opn h e i=>exact λb c=>⟨λl d=>by rw[AX.mp d];exact PP ok f b c h,λn g=>by rw[AX.mp g];exact Py ok f (PB ok b c h) e,AK _⟩
 |no h e i=>exact λb c=>⟨λl d=>by rw[AX.mp d];exact PP ok f b c h,λn g=>by rw[AX.mp g];exact Py ok f (PB ok b c h) e,AK _⟩
 |go h e i s m=>intro b c;have g:=Py ok f (PB ok b c h) e;obtain⟨o,q,t⟩:=m (LH ok g i) r;refine⟨λl d=>?_,λn j=>?_,by rw[CV,CV];lia⟩;rcases BB.mp d with rfl|d;exact PP ok f b c h;exact o l d;rcases BB.mp j with rfl|j;exact g;exact q n j
set_option tactic.hygienic true in
def VI(ok:Cj W){n:Int}(h:q∈Ft W.gs n):0<=q/\q<W.as.length:=by
 unfold Ft at h;cases e:W.gs[n.toNat]? with|none=>rw[e] at h;cases h|some p=>rw[e] at h;dsimp only at h;split at h;rename_i a;rw[AX.mp h];exact ok.net.q p (Bq e) a;cases h
set_option tactic.hygienic true in
def Jq(ok:Cj W)(f:Cc W)(g:∀l∈ls,Jp W l)(h:q∈Bu W ls ts):0<=q/\q<W.as.length:=by
 unfold Bu at h;rcases BI.mp h with h|h;obtain⟨l,i,c⟩:=List.mem_flatMap.mp h;unfold ES at c;rcases BI.mp c with c|c;obtain⟨b,_,d⟩:=List.mem_flatMap.mp c;unfold BA at d;obtain⟨p,j,a⟩:=List.mem_flatMap.mp d;obtain⟨s,k,m⟩:=Zi j;unfold Gd at a;split at a;rename_i o;rcases BB.mp a with rfl|a;exact ok.by_ k m λz=>by rw[o.1] at z;exact absurd z (by decide +kernel)
 unfold HE at a;split at a;split at a;exact VI ok a;cases a;cases a;cases a;obtain⟨w,r,d⟩:=List.mem_flatMap.mp c;unfold F5 at d;split at d;rename_i t;rw[AX.mp d];rcases Px f ((g l i).en w r) with⟨e,_⟩|⟨_,e⟩;rw[t] at e;exact absurd e (by decide +kernel);exact e;cases d;obtain⟨n,_,c⟩:=List.mem_flatMap.mp h;exact VI ok c
def Jr:∀{a:E'},a.Nodup->(∀y∈a,0<=y/\y<(n:Int))->a.length<=n:=λhd h=>Lw n _ hd h
section
variable {K:Aj} {F:Addr->Prop} {H H':Hp} {nt A t:Addr} {W:Wd} {qs:V'} {inn:Int} {ord:A'} {as:List EF}
abbrev LR:Addr->Prop:=λζ=>False
variable {H'':Hp} {kvs kvs':List (A3×V)} {ds:E'} {fs:List (Int×(Str×Int))} {k:Nat} {q:Qu}
end
def AZ{G:Prop}(h:∀N:Prop,(G->N)->N):G:=h G λz=>z
def Kj{g:TG}{σ:St}{t:TS}{D:Ends}(h:let N:=D.nx;let C:=D.ct;g v σ H λσ2 Z=>t {D with nx:=N,ct:=C} σ2 Z):g v σ H (λσ2 Z=>t D σ2 Z):=h
section
variable {W:Wd} {qs:V'} {inn:Int} {ord:A'} {H H':Hp} {kvs kvs':List (A3×V)} {n:Nat} {as:List EF} {ts:E'} {due:E'} {fs:Fnds} {X:Addr->Prop}
end
section
variable {X:Cx}
end
def LS{k:Nat}(h:n.testBit k=false):n ||| 2 ^ k=n+2 ^ k:=by
 have e:n/2 ^ k%2=0:=(by rw[Nat.testBit_eq_decide_div_mod_eq] at h;have:=of_decide_eq_false h;lia);have c:=Nat.mod_lt n (Nat.two_pow_pos k);have a:=Nat.div_add_mod n (2 ^ k);have p:2 ^ (k+1)=2 ^ k*2:=Nat.pow_succ _ _;obtain⟨q,d⟩:∃q,n/2 ^ k=2*q:=⟨n/2 ^ k/2,by lia⟩;rw[d,<-Nat.mul_assoc,<-p] at a;generalize n%2 ^ k=b at c a;rw[<-a,Nat.two_pow_add_eq_or_of_lt (by lia),Nat.or_assoc,Nat.or_two_pow_eq_add_of_lt c,<-Nat.two_pow_add_eq_or_of_lt (by lia),<-Nat.two_pow_add_eq_or_of_lt (by lia)];lia
def LV (n k:Nat):Nat:=n ||| 2 ^ k
theorem VJ(j:Nat):∀(l:P')(n:Nat),(l.foldl LV n).testBit j=true↔n.testBit j=true\/j∈l
 |[],n=>by simp
 |k::l,n=>by rw[List.foldl_cons,VJ j l];unfold LV;rw[Nat.testBit_or,Nat.testBit_two_pow,Bool.or_eq_true,decide_eq_true_iff,BB,or_assoc];exact or_congr Iff.rfl (or_congr ⟨Eq.symm,Eq.symm⟩ Iff.rfl)
theorem SA(j:Nat):∀l:P',l.Nodup->((l.map λk=>2 ^ k).sum.testBit j=true↔j∈l)
 |[],_=>by simp
 |k::l,b=>by obtain⟨c,a⟩:=Fh.mp b;have d:(l.map λk=>2 ^ k).sum.testBit k=false:=Bool.eq_false_iff.mpr λz=>c ((SA k l a).mp z);rw[Do,List.sum_cons,Nat.add_comm,<-LS d,Nat.testBit_or,Nat.testBit_two_pow,Bool.or_eq_true,decide_eq_true_iff,SA j l a,BB];exact⟨λz=>z.elim .inr λe=>.inl e.symm,λz=>z.elim (λe=>.inr e.symm) .inl⟩
def Zj(a b:Nat):Builtin.bitOr a b=((a ||| b:Nat):Int):=by
 have c:∀x:Int,Builtin.bitNot (Builtin.bitNot x)=x:=λx=>by unfold Builtin.bitNot;lia
 have d:∀x:Nat,decide (0<=Builtin.bitNot (x:Int))=false:=λx=>DS (by unfold Builtin.bitNot;lia);unfold Builtin.bitOr Builtin.bitAnd;rw[d,d];dsimp only;rw[c,c,c];rfl
def N6 (n:Int) (b:AO):Int:=Builtin.bitOr n (1*2 ^ b.2.1.toNat)
def GR (n:Int) (l:Lk):Int:=l.1.foldl N6 n
def N7 (ls:W'):P':=ls.flatMap λl=>l.1.map λb=>b.2.1.toNat
def Js(n:Nat)(b:AO):N6 (n:Int) b=((LV n b.2.1.toNat:Nat):Int):=by unfold N6 LV;rw[Int.one_mul,show(2:Int) ^ b.2.1.toNat=((2 ^ b.2.1.toNat:Nat):Int) by push_cast;rfl,Zj]
theorem VL:∀(l:List AO)(n:Nat),l.foldl N6 (n:Int)=(((l.map λb=>b.2.1.toNat).foldl LV n:Nat):Int)
 |[],n=>rfl
 |b::l,n=>by rw[List.foldl_cons,Js,VL l];rfl
theorem VM:∀(ls:W')(n:Nat),ls.foldl GR (n:Int)=(((N7 ls).foldl LV n:Nat):Int)
 |[],n=>rfl
 |l::ls,n=>by rw[List.foldl_cons,show GR (n:Int) l=_ from VL l.1 n,VM ls];unfold N7;rw[List.flatMap_cons,M4]
def Jt{ks:P'}(a:ks.Nodup)(h:∀j,j∈ks↔j∈N7 ls):(ks.map λk=>(1:Int)*2 ^ k).sum=ls.foldl GR 0:=by
 have e:(N7 ls).foldl LV 0=(ks.map λk=>2 ^ k).sum:=Nat.eq_of_testBit_eq λj=>by
  rw[Bool.eq_iff_iff,VJ,SA j ks a,h j];simp
 have:=VM ls 0;rw[e] at this;rw[show(0:Int)=((0:Nat):Int) from rfl,this];clear this e h a
 induction ks with|nil=>rfl|cons k ks b=>rw[Do,List.sum_cons,Do,List.sum_cons,b,Int.one_mul];push_cast;rfl
section
variable {ss ss':List BC} {ord:A'}
end
section
variable {W:Wd} {ss':List BC} {ord:A'} {sc st:Int}
end
section
variable {X:Cx}
end
section
variable {ws:List (L')} {f:Int} {row R:E'}
end
section
variable {W:Wd} {inn:Int} {ord:A'} {qs:V'} {ws:List (L')}
end
section
variable {W:Wd} {sc st:Int} {x:Str}
def VN(a:∀s∈W.ss,s.1=[])(b:AO):Gx W b.2.1 b.2.2=[]:=by
 have:B2 W b.2.1=[]:=by
  unfold B2;cases e:W.ss[b.2.1.toNat]? with|none=>rfl|some s=>exact a s (Bq e)
 unfold Gx;rw[this];rfl
def SD(a:∀s∈W.ss,s.1=[])(h:B4 W sc st b):b=([],sc,st):=by
 induction h with|root=>rfl|kid h k c=>unfold DC at k;rw[VN a] at k;cases k
def VO(g:∀s∈W.ss,s.1=[]){bs:List AO}(h:DE W sc st bs):bs=[([],sc,st)]:=by
 have d:([],sc,st)∈bs:=(h.mem _).mpr .root;have a:∀b∈bs,b=([],sc,st):=λb i=>SD g ((h.mem b).mp i);have f:=h.nd
 match bs,d,a,f with
 |[],d,_,_=>cases d
 |[b],_,a,_=>rw[a b (by simp)]
 |b::c::r,_,a,f=>have e:b=c:=(a b (by simp)).trans (a c (by simp)).symm;exact absurd (by rw[e];simp) (Fh.mp f).1
def VP(a:∀s∈W.ss,s.1=[])(bs:List AO):Gz W bs=[]:=by unfold Gz;rw[List.flatMap_eq_nil_iff];intro b _;rw[VN a];rfl
end
section
variable {W:Wd} {qs:V'} {lb:Str} {nm nm':Nat->Str} {hr:Nat->Nat} {c:Nat->Bool} {ls:J'}
end
section
variable {ls:J'} {i d d':Nat} {p R:Str×Int}
end
section
variable {W:Wd} {qs:V'} {lb:Str} {nm nm':Nat->Str} {hr:Nat->Nat} {c:Nat->Bool} {ls:J'} {n:Nat} {as f:List EF} {ts:E'}
end
section
variable {ls:J'} {ws:List (L')}
end
section
variable {W:Wd} {qs:V'} {lb:Str} {nm nm':Nat->Str} {hr:Nat->Nat} {c:Nat->Bool} {ls:J'} {n:Nat} {as:List EF} {ts:E'}
end
def EG:4<=sizeLine:=by decide
section
variable {σ:List (U')} {F:Addr->Prop} {f:Hp}
def B9 (F:Addr->Prop) (f:Hp) (σ:List (U')) (te:TE) (d:Dt):Prop:=∀(H:Hp)(Q:V->Hp->Prop),Ad f H->(∀v H',Ad H H'->AL F H' v d->Q v H')->te σ H Q
def FG (F:Addr->Prop) (f:Hp) (σ:List (U')) (ta:TA) (ds:List Dt):Prop:=∀(H:Hp)(Q:S'->Hp->Prop),Ad f H->(∀vs H',Ad H H'->Am F H' vs ds->Q vs H')->ta σ H Q
def B9.str(x:Str):B9 F f σ (tC (.str x)) (.str x):=λH Q ζ k=>k _ _ (λζ ζ e=>e) (.str x)
def B9.int(i:Int):B9 F f σ (tC (.int i)) (.int i):=λH Q ζ k=>k _ _ (λζ ζ e=>e) (.int i)
def B9.non:B9 F f σ (tC .non) .non:=λH Q ζ k=>k _ _ (λζ ζ e=>e) .non
def B9.var{d:Dt}(h:σ[i]?=some (some v))(o:AL F f v d):B9 F f σ (Bj i) d:=λH Q s k=>by show mV σ[i]? λv=>Q v H;rw[h];exact k _ _ (λζ ζ e=>e) (o.same s)
def FG.nil:FG F f σ Cg []:=λH Q ζ k=>k _ _ (λζ ζ e=>e) .nil
def FG.cons{te:TE}{c:TA}{d:Dt}{e:List Dt}(a:B9 F f σ te d)(b:FG F f σ c e):FG F f σ (Cr te c) (d::e):=λH Q s k=>a H _ s λv U g i=>b U _ (s.trans g) λl Z h j=>k _ _ (g.trans h) (.cons (i.same h) j)
def B9.tup{c:TA}{b:List Dt}(a:FG F f σ c b)(g:b.length<=sizeLine):B9 F f σ (C3 c) (.tup b):=λH Q s k=>a H _ s λi U h d=>⟨by rw[d.length];exact g,λp e=>k _ _ (h.trans (A9 e)) (.tup Ab (d.same (A9 e)))⟩
def B9.lst(h:∀p,f p=none->F p){d:TA}{b:List Dt}(a:FG F f σ d b)(i:b.length<=sizeLine):B9 F f σ (Gq d) (.lst b):=λH Q s k=>a H _ s λj U e g=>⟨by rw[g.length];exact i,λp c=>k _ _ (e.trans (A9 c)) (.lst Ab (h p ((s.trans e).free c)) (g.same (A9 c)))⟩
def B9.pur{te:TE}{d:Dt}(h:∀(H:Hp)(Q:V->Hp->Prop),Ad f H->Q v H->te σ H Q)(o:AL F f v d):B9 F f σ te d:=λH Q s k=>h H Q s (k _ _ (λζ ζ e=>e) (o.same s))
theorem Am.at_{H:Hp}:∀{a:List Dt}{vs:S'}{n:Nat}{d:Dt},Am F H vs a->a[n]?=some d->∃v,vs[n]?=some v/\AL F H v d
 |_::_,_::_,0,_,.cons h _,e=>⟨_,rfl,BU e▸h⟩
 |_::_,_::_,n+1,_,.cons _ t,e=>Am.at_ (n:=n) t e
def B9.ixl{K:Aj}{c:TA}{e:TE}{b:List Dt}{d:Dt}(a:FG F f σ c b)(i:b.length<=sizeLine)(j:∀(H:Hp)(Q:V->Hp->Prop),Q (.int n) H->e σ H Q)(hd:b[n]?=some d):B9 F f σ (EI (Ie K) (Gq c) e) d:=λH Q s k=>a H _ s λq U l g=>⟨by rw[g.length];exact i,λp h=>j _ _ (by
 obtain⟨v,m,o⟩:=g.at_ hd;exact j9 ⟨_,v,Ai.of Ab,BJ m,k _ _ (l.trans (A9 h)) (o.same (A9 h))⟩)⟩
end
structure Ij where
 b0:Str×Int
 b1:Str×Int
 k0:EF
 k1:EF
 ms:J'
 wd:Str
abbrev PQ (l:Ij):Dt:=.tup [.lst [Cz l.b0,Cz l.b1],.lst [Bb l.k0,Bb l.k1],.lst (l.ms.map Cz),.str l.wd]
def LW (k t u q th:Int):Ij:=
 if k=2 then⟨("sort",q),("part",th),none,none,[("thing",t)], "wait"⟩
 else if k=3 then⟨("sort",q),("part",th),some ("none",0),none,[("thing",t)], "no"⟩
 else if k=4 then⟨("sort",q),("part",th),some ("torn",0),none,[("thing",t)], "no"⟩
 else if k=5 then⟨("sort",q),("plain",0),some ("thing",u),none,[("thing",t)], "no"⟩
 else⟨("sort",q),("part",th),some ("thing",u),none,[("thing",t)], "on"⟩
def DH (k t u q r th:Int):Ij:=
 if k=0 then⟨("part",th),("plain",0),none,none,[], "none"⟩
 else if k=1 then⟨("plain",0),("part",th),none,none,[("thing",t)], "no"⟩
 else if(2<=k/\k<=5)\/k=10 then LW k t u q th
 else if k=6 then⟨("part",th),("plain",0),none,some ("none",0),[("by",q)], "by"⟩
 else if k=7 then⟨("part",th),("plain",0),some ("none",0),none,[("by",q)], "none"⟩
 else if k=8 then⟨("part",th),("plain",0),none,none,[("thing",t),("thing",u)], "torn"⟩
 else if k=9 then⟨("part",th),("plain",0),some ("thing",t),none,[("thing",t),("by",q)], "on"⟩
 else if k=11 then⟨("part",th),("plain",0),some ("thing",t),none,[("by",q)], "on"⟩
 else if k=13 then⟨("part",th),("plain",0),none,some ("none",0),[("by",r),("thing",u)], "torn"⟩
 else if k=14 then⟨("part",th),("plain",0),some ("none",0),some ("torn",0),[("by",q),("by",r)], "none"⟩
 else⟨("part",th),("plain",0),none,none,[("thing",t)], "on"⟩
section
variable {H:Hp}
def RT.put{f:α->S'}{ts:G'}{l:List α}{t:Addr}{p:α}(h:RT f H ts l)(d:H t=some (.tup (f p)))(n:Nat):RT f H (ts.set n t) (l.set n p):=by
 refine⟨by rw[Er,Er,h.len],λm g r a b=>?_⟩;by_cases e:n=m;subst e;have c:n<ts.length:=by have:=(Bi.mp a).1;rwa [Er] at this
 rw[o8 c] at a;rw[o8 (h.len▸c)] at b;cases a;cases b;exact d;rw[n8 e] at a b;exact h.at_ m g r a b
def GT.put{ts:G'}{l:J'}{t:Addr}{p:Str×Int}(h:GT H ts l)(a:H t=some (.tup [.str p.1,.int p.2]))(n:Nat):GT H (ts.set n t) (l.set n p):=by have:=RT.put (f:=λp:Str×Int=>[.str p.1,.int p.2]) ⟨h.len,h.at_⟩ a n;exact⟨this.len,this.at_⟩
def QT.put{ts:G'}{l:V'}{t u:Addr}{p:Qu}(h:QT H ts l)(d:H t=some (.tup [.int p.1,.int p.2.1,.ref u]))(f:H u=some (.tup (p.2.2.map V.str)))(n:Nat):QT H (ts.set n t) (l.set n p):=by
 refine⟨by rw[Er,Er,h.len],λm g r a b=>?_⟩;by_cases e:n=m;subst e;have c:n<ts.length:=by have:=(Bi.mp a).1;rwa [Er] at this
 rw[o8 c] at a;rw[o8 (h.len▸c)] at b;cases a;cases b;exact⟨u,d,f⟩;rw[n8 e] at a b;exact h.at_ m g r a b
theorem Am.put{F:Addr->Prop}{v:V}{d:Dt}(o:AL F H v d):∀{vs:S'}{a:List Dt}(n:Nat),Am F H vs a->Am F H (vs.set n v) (a.set n d)
 |_,_,_,.nil=>.nil
 |_,_,0,.cons _ t=>.cons o t
 |_,_,n+1,.cons h t=>.cons h (Am.put o n t)
def RT.app{f:α->S'}{ts c:G'}{d e:List α}(h:RT f H ts d)(k:RT f H c e):RT f H (ts++c) (d++e):=by refine⟨by rw[AY,AY,h.len,k.len],λn t r a b=>?_⟩;rcases o5 n ts.length with g|g;rw[Ez g] at a;rw[Ez (h.len▸g)] at b;exact h.at_ n t r a b;rw[Ep g] at a;rw[Ep (h.len▸g),<-h.len] at b;exact k.at_ _ t r a b
def C4.tells{D:Addr}{p g b:G'}(h:C4 H D p g b ss)(y:(D::(g++b)).Nodup){E:Addr}{ts zs:G'}{q:List CA}(r:i<ss.length)(c:b[i]?=some E)(A:H E=some (.lst (ts.map V.ref)))(T:RT CB H ts ss[i].2)(Z:RT CB H zs q) :
 C4 (upd H E (.lst (ts.map V.ref++zs.map V.ref))) D p g b (ss.set i (ss[i].1,ss[i].2++q)):=by
 have k:Keeps (·=E) H (upd H E (.lst (ts.map V.ref++zs.map V.ref))):=Keeps.one A;obtain⟨B,K⟩:=Fh.mp y;obtain⟨N,ne,L⟩:=List.nodup_append.mp K;have t:E∈b:=Bq c;refine⟨k.at_ _ _ h.top λz=>B (z▸DI _ t),by rw[Er];exact h.lu,by rw[Er];exact h.lg,by rw[Er];exact h.le,λj u G v s w l d f=>?_⟩;have x:G≠E:=λz=>L G (Bq l) E t z;by_cases e:i=j;subst e;rw[c] at d;cases d;rw[o8 r] at f;cases f;obtain⟨a,⟨m,n,o⟩,_⟩:=h.at_ i u G E _ w l c (AM r);exact⟨k.tup a,⟨m,k.at_ _ _ n x,o.keeps k⟩,⟨ts++zs,by rw[Ab,Bh],(T.keeps k).app (Z.keeps k)⟩⟩;rw[n8 e] at f;obtain⟨a,⟨m,n,o⟩,⟨fs,C,F⟩⟩:=h.at_ j u G v s w l d f
 have M:v≠E:=λz=>by
  obtain⟨O,I⟩:=Bi.mp c;obtain⟨P,J⟩:=Bi.mp d;exact e ((List.getElem_inj ne).mp (by rw[I,J,z]))
 exact⟨k.tup a,⟨m,k.at_ _ _ n x,o.keeps k⟩,⟨fs,k.at_ _ _ C M,F.keeps k⟩⟩
def PR{a:Addr}{xs:S'}(n:Nat)(v:V)(e:H a=some (.lst xs)):∃H',upd H a (.lst (xs.set n v))=H'/\H' a=some (.lst (xs.set n v))/\(∀b,b≠a->H' b=H b)/\Keeps (·=a) H H':=⟨_,rfl,Ab,λb h=>AI h,Keeps.one e⟩
def AL.ansNo{a:EF}(h:AL F H v (Bb a)):AL LR H v (Bb a):=by
 cases a with|none=>rw[h.ansN];exact .non|some p=>obtain⟨t,rfl,e⟩:=h.ansS;exact .tup e (.cons (.str _) (.cons (.int _) .nil))
def AL.go1{p:Str×Int}(h:AL F H v (Cz p)):∃t,v=.ref t/\H t=some (.tup [.str p.1,.int p.2]):=h.ansS (p:=p)
theorem Am.gos{F:Addr->Prop}:∀{c:J'}{vs:S'},Am F H vs (c.map Cz)->∃b:G',vs=b.map V.ref/\GT H b c
 |[],_,.nil=>⟨[],rfl,GT.nil⟩
 |p::c,_,.cons h t=>by
   obtain⟨a,rfl,e⟩:=h.go1;obtain⟨b,rfl,g⟩:=Am.gos t;refine⟨a::b,rfl,by rw[CV,CV,g.len],λn t q d f=>?_⟩;cases n with|zero=>cases d;cases f;exact e|succ n=>exact g.at_ n t q d f
def AL.lv {l:Ij} (h:AL F H v (PQ l)):∃ (r B e M i j:Addr) (m n:V) (k:G'),v=.ref r/\H r=some (.tup [.ref B,.ref e,.ref M,.str l.wd])/\H B=some (.lst [.ref i,.ref j])/\H i=some (.tup [.str l.b0.1,.int l.b0.2])/\H j=some (.tup [.str l.b1.1,.int l.b1.2])/\H e=some (.lst [m,n])/\AL LR H m (Bb l.k0)/\AL LR H n (Bb l.k1)/\H M=some (.lst (k.map V.ref))/\GT H k l.ms/\F B/\F e/\F M:=by
 cases h with
 |@tup r _ _ h t=>
  cases t with
  |cons a t=>
   cases t with
   |cons b t=>
    cases t with
    |cons c t=>
     cases t with
     |cons d t=>
      cases t;cases d
      cases a with
      |@lst B _ _ o p tB=>
       cases tB with
       | cons x tB=>
        cases tB with
        |cons y tB=>
         cases tB
         cases b with
         |@lst e _ _ q s f=>
          cases f with
          |cons u f=>
           cases f with
           |cons w f=>
            cases f;cases c with|@lst M _ _ z A C=>obtain⟨i,rfl,D⟩:=x.go1;obtain⟨j,rfl,E⟩:=y.go1;obtain⟨k,rfl,g⟩:=Am.gos C;exact⟨r,B,e,M,i,j,_,_,k,rfl,h,o,D,E,q,u.ansNo,w.ansNo,z,g,p,s,A⟩
end
section
variable {prog:Program} {w:World} {A:Around} {E:D'} {s:Shared}
def Zk{d:Addr}{kvs:List (A3×Value)}{ks:E'}(G:A.handled=none)(H:s.heap.DictOf (Eu prog w) d kvs)(lo:(d==sysModules)=false)
 (u:kvs.map (·.1)=ks.map Sum.inl) (W:ks.length<64)
 (h:∀(D:Addr)(h':Heap)(g n:Nat)(out:F')(a:E'),(∀b o,s.heap.get? b=some o->h'.get? b=some o)->(∀b o,s.heap.get? b=some o->b≠D)->h'.get? D=some {cls:=.type "list",data:=.seq out.toArray n}->Aw (a.map V.int) out->a.Perm ks->a.Pairwise (·<=·)->Q (.ref D) {s with heap:=h',toks:=g}) :
 wpAny (model prog w) A (call (.builtin "sorted") [.ref d]) Q E s:=by
 have X:kvs.length=ks.length:=by have:=By List.length u;simpa using this
 have I:kvs.length<=sizeLine:=CT (BX (by lia));obtain⟨ep,Y⟩:=H.dictAt;refine Calls.call_function_entry kind_sorted plain_sorted entry_sorted (args_sorted1 _) ?_;unfold Builtin.«sorted»;refine Ae (m:=checkCount "sorted" 1 1 _) (Ay ?_);refine Ae (PySem.W.kdu_collect (A:=A.in1) (PySem.W.kdl_dict (knd:=Eu prog w) (kvs:=kvs) (ep:=ep) lo) G Y I λf g c l F=>?_);have p:c.toList.length=ks.length:=(by rw[Array.length_toList,F.1,X])
 have J:IntsAre c.toList ks:=VC p λi v K=>by
  obtain⟨k,x,L,M⟩:=F.2 i v (by rw[<-Array.getElem?_toList];exact K);have y:(kvs.map (·.1))[i]?=some k:=by rw[Bf,L];rfl
  rw[u,Bf] at y;obtain⟨z,N,O⟩:=E5.mp y;have C:KD k v=true:=M;rw[<-O] at C;rcases H2 C with⟨j,t,q,P⟩|⟨_,_,q,_⟩;cases q;exact⟨t,by rw[P,Dv,N];rfl⟩;cases q
 refine Ae (wpAny_newList ?_ (by rw[p];exact CT (BX (by lia))));have r:(f.push {cls:=.type "list",data:=.seq c.toList.toArray}).get? f.objs.size=some (seqObj "list" c.toList.toArray 0):=Cb _ rfl;refine Ae (Fl (wpAny_call_entry slot_list_sort ⟨_,r,rfl⟩ entry_list_sort (list_sort_tree r J (by rw[p];exact W) λout a R S T=>⟨_,rfl,?_⟩) (args_list_sort _)));obtain⟨n,U⟩:=sortedHeap_at (vs:=c.toList) (out:=out) r;have Z:∀b o,s.heap.get? b=some o->b≠f.objs.size:=λb o e=>Ch (Bg (l b o e));refine Ay ⟨_,rfl,h f.objs.size _ g n _ a (λb o e=>?_) Z (by rw[Array.toArray_toList];exact U) (O3 R) S T⟩;have B:=Bg (l b o e);rw[sortedHeap_old (Ch B) (by rw[n7];exact Nat.lt_succ_of_lt B)];exact Ba _ (l b o e)
end
section
variable {X:Cx}
def VQ:S'->Hp->VK->Prop:=λvs H Q=>∃(d:Addr)(kvs:List (A3×V))(ks:E'),vs=[.ref d]/\H d=some (.dK kvs)/\kvs.map (·.1)=ks.map Sum.inl/\ks.Nodup/\ks.length<64/\∀D(ks':E'),ks'.Pairwise (· < ·)->(∀y,y∈ks'↔y∈ks)->H D=none->Q (.ref D) (upd H D (.lst (ks'.map V.int)))
def SE(e:X.calm=true):Br X (.builtin "sorted") VQ:=by
 intro F s σ H A B Q I r h;obtain⟨d,E,ks,rfl,hd,f,g,t,q⟩:=h;obtain⟨u,rfl,i⟩:=F9 r;obtain rfl:u=Value.ref d:=i;obtain⟨z,j,ws,v,k⟩:=J5 I.hok hd;refine Zk (I.ok.hd e) k j (ks:=ks) (by rw[<-v.keys];exact f) t λD C l n w b Y c m o a p=>?_;have x:(b.map V.int).length<=sizeLine:=by rw[An,a.length_eq];exact CT (BX (by lia))
 exact⟨.ref D,upd H D (.lst (b.map V.int)),I.laidN (t':=l) Y c ⟨x,w,n,o,m⟩,rfl,q D b (VF p (a.nodup_iff.mpr g)) (λy=>a.mem_iff) (I.freshN c)⟩
end
section
variable {W:Wd} {ord:A'}
abbrev Ck (sc:Int) (f m:Nat):List (List Au):=(List.range m).map λk=>[(sc,i0,((f+k:Nat):Int))]
theorem VR{b:AO}{x:Str}:∀{l:List CA}{i:Nat},(∀p∈l,¬(p.2.1=x/\p.1∈FS W b.2.2))->CC W b x l i=[]
 |[],_,_=>rfl
 |p::l,i,h=>by show EN W b x p i++CC W b x l (i+1)=[];rw[VR λq a=>h q (Du _ a)];unfold EN;rw[Ag (h p BS)];rfl
theorem VS{b:AO}{x:Str}:∀{l m:List CA}{i:Nat},CC W b x (l++m) i=CC W b x l i++CC W b x m (i+l.length)
 |[],m,i=>by simp[CC]
 |p::l,m,i=>by show EN W b x p i++CC W b x (l++m) (i+1)=(EN W b x p i++CC W b x l (i+1))++_;rw[VS,Fv,CV,show i+1+l.length=i+(l.length+1) by lia]
theorem VT{sc st:Int}{x:Str}:∀{l:List CA}{i:Nat},(∀p∈l,p.2.1=x/\p.1∈FS W st)->CC W ([],sc,st) x l i=Ck sc i l.length
 |[],_,_=>rfl
 |p::l,i,h=>by show EN W ([],sc,st) x p i++CC W ([],sc,st) x l (i+1)=_;rw[VT λq a=>h q (Du _ a)];unfold EN;rw[Ap (h p BS),CV];unfold Ck;rw[List.range_succ_eq_map,Do,D1];refine By (_::·) (List.map_congr_left λk ζ=>?_);show[(sc,i0,((i+1+k:Nat):Int))]=[(sc,i0,((i+(k+1):Nat):Int))];rw[show i+1+k=i+(k+1) by lia]
def Ju(sc:Int)(f m:Nat):(Ck sc f m).Pairwise Bn.O.kle:=by
 refine List.pairwise_map.mpr (List.pairwise_lt_range.imp λ{i j}e=>?_);refine KeyOrd.kle_of_klt ?_;have c:decide (((f+i:Nat):Int)<((f+j:Nat):Int))=true:=A5 (by lia);have a:∀x:Int,decide (x<x)=false:=λx=>DS (by lia);have d:=Hf.irrefl i0;have b:Ke.O.blt (sc,i0,((f+i:Nat):Int)) (sc,i0,((f+j:Nat):Int))=true:=(by show(decide (sc<sc) || (!decide (sc<sc) && (Hf.blt i0 i0 || (!Hf.blt i0 i0 && decide (((f+i:Nat):Int)<((f+j:Nat):Int))))))=true;rw[a,d,c];rfl);show EE Ke.O [(sc,i0,((f+i:Nat):Int))] [(sc,i0,((f+j:Nat):Int))]=true;rw[Kb,b];rfl
structure CG (W:Wd) (sc:Nat) (st:Int) (x lab:Str) (pre:List CA) (ms:J'):Prop where
 s:W.ss[sc]?=some ([],pre++ms.map λg=>(lab,x,g.1,g.2))
 np:∀p∈pre,¬(p.2.1=x/\p.1∈FS W st)
 le:lab∈FS W st
section
variable {sc:Nat} {st:Int} {x lab:Str} {pre:List CA} {ms:J'}
def CG.tl(h:CG W sc st x lab pre ms){k:Nat}{g:Str×Int}(a:ms[k]?=some g):(pre++ms.map λg=>((lab,x,g.1,g.2):CA))[pre.length+k]?=some (lab,x,g.1,g.2):=by rw[Ep (Nat.le_add_right _ _),Nat.add_sub_cancel_left,Bf,a];rfl
def CG.tell(h:CG W sc st x lab pre ms){k:Nat}{g:Str×Int}(a:ms[k]?=some g):DL W.ss [((sc:Int),i0,((pre.length+k:Nat):Int))]=(lab,x,g.1,g.2):=(NW W.ss [] _).trans (Sm rfl rfl h.s (h.tl a))
def CG.lbl(h:CG W sc st x lab pre ms){k:Nat}{g:Str×Int}(a:ms[k]?=some g):Fs W.ss ((sc:Int),i0,((pre.length+k:Nat):Int))=lab:=UX rfl rfl h.s (by show ¬i0=j0;decide +kernel) (h.tl a)
def CG.seen(h:CG W sc st x lab pre ms)(f:∀y,(y,y)∉ord):Fd W.ss ord (Ck sc pre.length ms.length) (Ck sc pre.length ms.length)=Ck sc pre.length ms.length:=by unfold Fd;rw[List.filter_eq_self];intro w c;obtain⟨k,a,rfl⟩:=AN.mp c;rw[Bool.not_eq_true',o7];intro v d;obtain⟨j,b,rfl⟩:=AN.mp d;rw[List.mem_range] at a b;by_cases e:k=j;rw[e,UY,R9 _ _ (.inl rfl)];exact Ce;rw[UZ _ _ _ _ (λz=>e (by have:=By (λm:Au=>m.2.2) z;dsimp only at this;lia)),h.lbl (AM b),h.lbl (AM a),FR (f _)];exact Ce
def CG.look(h:CG W sc st x lab pre ms)(c:∀s∈W.ss,s.1=[])(i:∀y,(y,y)∉ord):C7 W ord sc st x ([([],(sc:Int),st)],Ck sc pre.length ms.length,Ck sc pre.length ms.length) []:=by
 refine⟨⟨λb=>⟨λa=>by rw[AX.mp a];exact .root,λa=>by rw[SD c a];exact BS⟩,Fh.mpr ⟨List.not_mem_nil,List.nodup_nil⟩,List.pairwise_singleton _ _,by show 1<=62;decide⟩,⟨?_,Ju _ _ _⟩,(h.seen i).symm,⟨by rw[VP c],List.Pairwise.nil⟩⟩;have d:FD W (sc:Int)=pre++ms.map λg=>(lab,x,g.1,g.2):=(by unfold FD;rw[BF,h.s])
 have e:DF W x [([],(sc:Int),st)]=Ck sc pre.length ms.length:=by
  unfold DF;rw[List.flatMap_cons,List.flatMap_nil,DR];show CC W ([],(sc:Int),st) x (FD W (sc:Int)) 0=_
  rw[d,VS,VR h.np,VT (λp f=>by
   obtain⟨g,_,rfl⟩:=AN.mp f;exact⟨rfl,h.le⟩),An,Nat.zero_add];rfl
 show(Ck sc pre.length ms.length).Perm (DF W x [([],(sc:Int),st)]);rw[e]
end
def Kk (W:Wd) (g:Str×Int):L':=if g.1=i6/\W.as[g.2.toNat]?=some none then some g.2 else none
def FU (W:Wd) (g:Str×Int):L':=if g.1=f' then some g.2 else match W.as[g.2.toNat]? with
 |some (some p)=>if p.1=f' then some p.2 else none
 |_=>none
section
variable {sc:Nat} {st:Int} {x lab:Str} {pre:List CA} {ms:J'}
def CG.op(h:CG W sc st x lab pre ms){k:Nat}{g:Str×Int}(a:ms[k]?=some g):Je W [((sc:Int),i0,((pre.length+k:Nat):Int))]=Kk W g:=by unfold Je;rw[h.tell a];rfl
def CG.me(h:CG W sc st x lab pre ms){k:Nat}{g:Str×Int}(a:ms[k]?=some g):B1 W [((sc:Int),i0,((pre.length+k:Nat):Int))]=FU W g:=by unfold B1;rw[h.tell a];rfl
theorem CG.met(h:CG W sc st x lab pre ms)(a:∀y,(y,y)∉ord)(at_:Int):Bp W ord (Ck sc pre.length ms.length) [] at_=match F3 W (Ck sc pre.length ms.length) with
 |some o=>(none,some (at_,o.1,o.2))
 |none=>(some (CU W (Ck sc pre.length ms.length) at_),none):=by
 unfold Bp Ii GA;dsimp only;rw[h.seen a]
 all_goals rfl
def CG.met0(h:CG W sc st x lab pre [])(b:∀y,(y,y)∉ord)(at_:Int):Bp W ord (Ck sc pre.length 0) [] at_=(some (j2,at_),none):=(h.met b at_).trans (by
 show(some (CU W [] at_),none)=_;rw[Pw λw a=>by cases a])
theorem CG.met1{g:Str×Int}(h:CG W sc st x lab pre [g])(i:∀y,(y,y)∉ord)(at_:Int):Bp W ord (Ck sc pre.length 1) [] at_=match Kk W g with
 |some q=>(none,some (at_,[((sc:Int),i0,((pre.length+0:Nat):Int))],q))
 |none=>(some (match FU W g with
   |some n=>(f',n)
   |none=>(j2,at_)),none):=by
 refine(h.met i at_).trans ?_;have b:=h.op (k:=0) rfl;have a:=h.me (k:=0) rfl
 show(match F3 W [[((sc:Int),i0,((pre.length+0:Nat):Int))]] with
  |some o=>(none,some (at_,o.1,o.2))
  |none=>(some (CU W [[((sc:Int),i0,((pre.length+0:Nat):Int))]] at_),none))=_
 cases o:Kk W g with
 |some q=>rw[Ss (b.trans o)]
 |none=>
  rw[MO (b.trans o)];show(some (CU W [[((sc:Int),i0,((pre.length+0:Nat):Int))]] at_),none)=_
  cases m:FU W g with
  |none=>rw[Pw λw d=>by rw[AX.mp d,a,m]]
  |some n=>
   obtain⟨j,c,e⟩:=Sq (W:=W) (r:=[]) (at_:=at_) (w:=[((sc:Int),i0,((pre.length+0:Nat):Int))]) (λz=>by have:=z _ BS;rw[a,m] at this;cases this) λv f=>by rw[AX.mp f]
   rw[a,m] at c;cases c;rw[e]
def CG.met2{g g':Str×Int}(h:CG W sc st x lab pre [g,g'])(t:∀y,(y,y)∉ord)(at_:Int)(o:Kk W g=none)(p:Kk W g'=none):Bp W ord (Ck sc pre.length 2) [] at_=(some (if FU W g=none/\FU W g'=none then(j2,at_) else if FU W g'=FU W g then(f',(FU W g).getD 0) else(j6,at_)),none):=by
 refine(h.met t at_).trans ?_;have q:=h.op (k:=0) rfl;have f:=h.me (k:=0) rfl;have r:=h.op (k:=1) rfl;have i:=h.me (k:=1) rfl
 show(match F3 W [[((sc:Int),i0,((pre.length+0:Nat):Int))],[((sc:Int),i0,((pre.length+1:Nat):Int))]] with
  |some o=>(none,some (at_,o.1,o.2))
  |none=>(some (CU W [[((sc:Int),i0,((pre.length+0:Nat):Int))],[((sc:Int),i0,((pre.length+1:Nat):Int))]] at_),none))=_
 rw[MO (q.trans o),MO (r.trans p)];show(some (CU W [[((sc:Int),i0,((pre.length+0:Nat):Int))],[((sc:Int),i0,((pre.length+1:Nat):Int))]] at_),none)=_
 have two:∀{P:List Au->Prop},(∀w∈[[((sc:Int),i0,((pre.length+0:Nat):Int))],[((sc:Int),i0,((pre.length+1:Nat):Int))]],P w)↔P [((sc:Int),i0,((pre.length+0:Nat):Int))]/\P [((sc:Int),i0,((pre.length+1:Nat):Int))]:=⟨λz=>⟨z _ BS,z _ (Du _ BS)⟩,λ⟨a,b⟩w j=>by
  rcases BB.mp j with e|j;rw[e];exact a;rw[AX.mp j];exact b⟩
 by_cases c:FU W g=none/\FU W g'=none;rw[Ap c,Pw (two.mpr ⟨f.trans c.1,i.trans c.2⟩)];rw[Ag c];have l:¬∀v∈[[((sc:Int),i0,((pre.length+0:Nat):Int))],[((sc:Int),i0,((pre.length+1:Nat):Int))]],B1 W v=none:=λz=>c ⟨f.symm.trans (two.mp z).1,i.symm.trans (two.mp z).2⟩;by_cases d:FU W g'=FU W g;obtain⟨n,m,s⟩:=Sq (at_:=at_) l (two.mpr ⟨rfl,by rw[f,i,d]⟩);rw[Ap d,s];rw[f] at m;rw[m];rfl;rw[Ag d,Vh l λz=>d (by have:=(two.mp z).2;rw[f,i] at this;exact this)]
end
def N8(n:Int):Kk W ("thing",n)=none:=Ag λz=>absurd z.1 (by show ¬f'=i6;decide +kernel)
def MS{p:Str×Int}(h:W.as[q.toNat]?=some (some p)):Kk W ("by",q)=none:=Ag λz=>by have:=z.2;rw[h] at this;cases this
def LX(h:W.as[q.toNat]?=some none):Kk W ("by",q)=some q:=Ap ⟨rfl,h⟩
def N9(n:Int):FU W ("thing",n)=some n:=Ap rfl
theorem HG(q:Int):FU W ("by",q)=match W.as[q.toNat]? with
 |some (some p)=>if p.1=f' then some p.2 else none
 |_=>none:=Ag (by show ¬i6=f';decide +kernel)
def PU{p:Str×Int}(h:W.as[q.toNat]?=some (some p))(a:p.1≠f'):FU W ("by",q)=none:=by rw[HG,h];exact Ag a
def HH{n:Int}(h:W.as[q.toNat]?=some (some (f',n))):FU W ("by",q)=some n:=by rw[HG,h];exact Ap rfl
def PV{t a:Int}(h:W.gs[t.toNat]?=some (i8,a)):B8 W t=(i3,a):=by unfold B8;rw[h];exact Ap rfl
def Zl{t:Int}(h:W.gs[t.toNat]?=some (j3,0)):B8 W t=(i4,0):=by unfold B8;rw[h];exact(Ag (by show ¬j3=i8;decide +kernel)).trans (Ag (by show ¬j3=i9;decide +kernel))
def Oa{t:Int}(h:W.gs[t.toNat]?=some (i9,q)):B8 W t=DV W.gs W.as q:=by unfold B8;rw[h];exact(Ag (by show ¬i9=i8;decide +kernel)).trans (Ap rfl)
def Jv(h:W.as[q.toNat]?=some none):DV W.gs W.as q=(i7,q):=by unfold DV;rw[h]
def VU{p:Str×Int}(h:W.as[q.toNat]?=some (some p))(a:p.1≠f'):DV W.gs W.as q=(i4,0):=by unfold DV;rw[h];exact Ag a
def VV{u:Int}{k:Str×Int}(h:W.as[q.toNat]?=some (some (f',u)))(g:W.gs[u.toNat]?=some k):DV W.gs W.as q=if k.1=i8 then(i3,k.2) else(i4,0):=by
 unfold DV;rw[h];refine(Ap rfl).trans ?_
 show(match W.gs[u.toNat]? with
  |some k=>if k.1=i8 then(i3,k.2) else(i4,0)
  |none=>(i4,0))=_
 rw[g]
structure VW (W:Wd) (l:Ij) (t u q r:Int):Prop where
 ne:t≠u
 gt:W.gs[t.toNat]?=some l.b0
 gu:W.gs[u.toNat]?=some l.b1
 aq:W.as[q.toNat]?=some l.k0
 ar:W.as[r.toNat]?=some l.k1
inductive SG (W:Wd) (ord:A') (sc:Int) (f:Nat) (l:Ij) (t q th:Int):Prop where
 |end_ (hw:l.wd=j2\/l.wd=j6) (m:∀at_,Bp W ord (Ck sc f l.ms.length) [] at_=(some (l.wd,at_),none))
 |by_ (hw:l.wd=i6) (hm:l.ms.length=1) (m:∀at_,Bp W ord (Ck sc f l.ms.length) [] at_=(none,some (at_,[(sc,i0,((f+0:Nat):Int))],q)))
 |on (hw:l.wd=("on":Str)) (m:∀at_,Bp W ord (Ck sc f l.ms.length) [] at_=(some (f',t),none)) (i:B8 W t=(i3,th))
 |no (hw:l.wd=i4) (m:∀at_,Bp W ord (Ck sc f l.ms.length) [] at_=(some (f',t),none)) (i:B8 W t=(i4,0))
 |wait (hw:l.wd=j7) (m:∀at_,Bp W ord (Ck sc f l.ms.length) [] at_=(some (f',t),none)) (i:B8 W t=(i7,q))
section
variable {sc:Nat} {st:Int} {x lab:Str} {pre:List CA}
def Kl{t:Int}(h:CG W sc st x lab pre [("thing",t)])(a:∀y,(y,y)∉ord)(at_:Int):Bp W ord (Ck sc pre.length 1) [] at_=(some (f',t),none):=by rw[h.met1 a,N8,N9]
def LY{k t u r b:Int}(f:0<=k/\k<16)(F:VW W (DH k t u q r b) t u q r)(h:CG W sc st x lab pre (DH k t u q r b).ms)(a:∀y,(y,y)∉ord):SG W ord sc pre.length (DH k t u q r b) t q b:=by have e:k=0\/k=1\/k=2\/k=3\/k=4\/k=5\/k=6\/k=7\/k=8\/k=9\/k=10\/k=11\/k=12\/k=13\/k=14\/k=15:=(by lia);have c:¬j2=f':=(by decide +kernel);have d:¬j6=f':=(by decide +kernel);rcases e with rfl|rfl|rfl|rfl|rfl|rfl|rfl|rfl|rfl|rfl|rfl|rfl|rfl|rfl|rfl|rfl;exact .end_ (.inl rfl) (h.met0 a);exact .no rfl (Kl h a) (Zl F.gt);exact .wait rfl (Kl h a) ((Oa F.gt).trans (Jv F.aq));exact .no rfl (Kl h a) ((Oa F.gt).trans (VU F.aq c));exact .no rfl (Kl h a) ((Oa F.gt).trans (VU F.aq d));exact .no rfl (Kl h a) ((Oa F.gt).trans ((VV F.aq F.gu).trans (Ag (by show ¬j3=i8;decide +kernel))));exact .by_ rfl rfl λat_=>(CG.met1 h a at_).trans (by rw[LX F.aq]);exact .end_ (.inl rfl) λat_=>(CG.met1 h a at_).trans (by rw[MS F.aq,PU F.aq c];rfl);refine .end_ (.inr rfl) λat_=>(CG.met2 h a at_ (N8 _) (N8 _)).trans ?_;rw[N9,N9,Ag (λz=>by cases z.1),Ag (λz=>F.ne (BU z).symm)];rfl;refine .on rfl (λat_=>(CG.met2 h a at_ (N8 _) (MS F.aq)).trans ?_) (PV F.gt);rw[N9,HH F.aq,Ag (λz=>by cases z.1),Ap rfl];rfl;exact .on rfl (Kl h a) ((Oa F.gt).trans ((VV F.aq F.gu).trans (Ap rfl)));exact .on rfl (λat_=>(CG.met1 h a at_).trans (by rw[MS F.aq,HH F.aq])) (PV F.gt);exact .on rfl (Kl h a) (PV F.gt);refine .end_ (.inr rfl) λat_=>(CG.met2 h a at_ (MS F.ar) (N8 _)).trans ?_;rw[N9,PU F.ar c,Ag (λz=>by cases z.2),Ag (λz=>by cases z)];rfl;refine .end_ (.inl rfl) λat_=>(CG.met2 h a at_ (MS F.aq) (MS F.ar)).trans ?_;rw[PU F.aq c,PU F.ar d,Ap ⟨rfl,rfl⟩];rfl;exact .on rfl (Kl h a) (PV F.gt)
end
end
end L2
abbrev L2.SF (n:List (PySem.Str×PySem.NameKind)):PySem.Scope:={kind:=.function,names:=n,isGenerator:=false,isCoroutine:=false,more:=[]}
def L2.new_at{H:L2.Hp}{a:PySem.Addr}{o:L2.HO}(h:H a=none):∃H':L2.Hp,H'=L2.upd H a o/\L2.Ad H H'/\H' a=some o:=⟨_,rfl,L2.A9 h,L2.Ab⟩
variable {α β:Type}{i:Nat}
def L2.getm{f:α->β}{l:List α}{x:β}(h:(l.map f)[i]?=some x):∃z,l[i]?=some z/\f z=x:=by rw[Bf] at h;exact E5.mp h
namespace K32
open PySem PySem.Spec PyProof.Rows L2 Ord
local macro_rules | `(tactic| trivial) => `(tactic| exact ⟨rfl, rfl, rfl, by decide +kernel, rfl, by decide +kernel, by decide +kernel⟩)
local macro_rules | `(tactic| trivial) => `(tactic| exact ⟨rfl, by decide +kernel, by decide +kernel, by decide +kernel, rfl, by decide +kernel, by decide +kernel⟩)
local macro_rules | `(tactic| rfl') => `(tactic| try dsimp only[AF,Cx.nox,Cx.wish])
def Ik:Af ["_law_cell", "_law_many", "_law_letters", "_law_long", "_law_at", "_law_some", "_law_k", "_law_name", "_law_j", "_law_sign"] ["_law_cell", "_law_many"] (A0 Qw):=by trivial
def Zm:Af ["_law_script", "_law_k"] ["_law_script", "_law_k"] (A0 Qx):=by trivial
def PX:Af ["_law_number", "_law_many", "_law_some", "_law_k"] ["_law_number", "_law_many"] (A0 Qy):=by trivial
def Km:Af ["_law_script", "_law_j", "_law_cell", "_law_turn", "_law_t", "_law_u", "_law_q", "_law_r", "_law_there"] ["_law_script", "_law_j"] (A0 Qz):=by trivial
def VX:Af ["_law_kind", "_law_t", "_law_u", "_law_q", "_law_there", "_law_part"] ["_law_kind", "_law_t", "_law_u", "_law_q", "_law_there"] (A0 QA):=by trivial
def VY:Af ["_law_kind", "_law_t", "_law_u", "_law_q", "_law_r", "_law_there", "_law_things"] ["_law_kind", "_law_t", "_law_u", "_law_q", "_law_r", "_law_there"] (A0 QB):=by trivial
def Ob:Af ["_law_script", "_law_j", "_law_labels", "_law_names_here", "_law_name", "_law_state", "_law_cell", "_law_other", "_law_some"] ["_law_script", "_law_j", "_law_labels", "_law_names_here", "_law_name"] (A0 OM):=by trivial
def Cd:Av (A0 OM) ["_law_script", "_law_j", "_law_labels", "_law_names_here", "_law_name", "_law_state", "_law_cell", "_law_other", "_law_some"] (SF [ (".0",.local),("_law_one",.local),("_law_name",.free)]) ["_law_one", "_law_name"] 1 [4]:=by trivial
def Ds:Af ["_law_script", "_law_names_here", "_law_labels", "_law_head", "_law_turn", "_law_ranks_here", "_law_path", "_law_scopes", "_law_things", "_law_questions", "_law_answers", "_law_j", "_law_kind", "_law_t", "_law_u", "_law_q", "_law_r", "_law_there", "_law_both", "_law_known", "_law_means", "_law_word", "_law_label", "_law_rows", "_law_states", "_law_pairs", "_law_table"] ["_law_script"] (A0 Iq):=by trivial
def CH:Av (A0 Iq) ["_law_script", "_law_names_here", "_law_labels", "_law_head", "_law_turn", "_law_ranks_here", "_law_path", "_law_scopes", "_law_things", "_law_questions", "_law_answers", "_law_j", "_law_kind", "_law_t", "_law_u", "_law_q", "_law_r", "_law_there", "_law_both", "_law_known", "_law_means", "_law_word", "_law_label", "_law_rows", "_law_states", "_law_pairs", "_law_table"] (SF [ (".0",.local),("_law_rank",.local),("_law_names_here",.free)]) ["_law_rank", "_law_names_here"] 1 [1]:=by trivial
def CI:Av (A0 Iq) ["_law_script", "_law_names_here", "_law_labels", "_law_head", "_law_turn", "_law_ranks_here", "_law_path", "_law_scopes", "_law_things", "_law_questions", "_law_answers", "_law_j", "_law_kind", "_law_t", "_law_u", "_law_q", "_law_r", "_law_there", "_law_both", "_law_known", "_law_means", "_law_word", "_law_label", "_law_rows", "_law_states", "_law_pairs", "_law_table"] (SF [(".0",.local),("_law_k",.local)]) ["_law_k"] 1 []:=by trivial
def CJ:Av (A0 Iq) ["_law_script", "_law_names_here", "_law_labels", "_law_head", "_law_turn", "_law_ranks_here", "_law_path", "_law_scopes", "_law_things", "_law_questions", "_law_answers", "_law_j", "_law_kind", "_law_t", "_law_u", "_law_q", "_law_r", "_law_there", "_law_both", "_law_known", "_law_means", "_law_word", "_law_label", "_law_rows", "_law_states", "_law_pairs", "_law_table"] (SF [(".0",.local),("_law_k",.local)]) ["_law_k"] 1 []:=by trivial
def CK:Av (A0 Iq) ["_law_script", "_law_names_here", "_law_labels", "_law_head", "_law_turn", "_law_ranks_here", "_law_path", "_law_scopes", "_law_things", "_law_questions", "_law_answers", "_law_j", "_law_kind", "_law_t", "_law_u", "_law_q", "_law_r", "_law_there", "_law_both", "_law_known", "_law_means", "_law_word", "_law_label", "_law_rows", "_law_states", "_law_pairs", "_law_table"] (SF [ (".0",.local),("_law_k",.local),("_law_head",.free),("_law_names_here",.free),("_law_turn",.free)]) ["_law_k", "_law_turn", "_law_head", "_law_names_here"] 1 [4,3,1]:=by trivial
def CL:Av (A0 Iq) ["_law_script", "_law_names_here", "_law_labels", "_law_head", "_law_turn", "_law_ranks_here", "_law_path", "_law_scopes", "_law_things", "_law_questions", "_law_answers", "_law_j", "_law_kind", "_law_t", "_law_u", "_law_q", "_law_r", "_law_there", "_law_both", "_law_known", "_law_means", "_law_word", "_law_label", "_law_rows", "_law_states", "_law_pairs", "_law_table"] (SF [(".0",.local),("_law_k",.local)]) ["_law_k"] 1 []:=by trivial
def CM:Av (A0 Iq) ["_law_script", "_law_names_here", "_law_labels", "_law_head", "_law_turn", "_law_ranks_here", "_law_path", "_law_scopes", "_law_things", "_law_questions", "_law_answers", "_law_j", "_law_kind", "_law_t", "_law_u", "_law_q", "_law_r", "_law_there", "_law_both", "_law_known", "_law_means", "_law_word", "_law_label", "_law_rows", "_law_states", "_law_pairs", "_law_table"] (SF [ (".0",.local),("_law_mean",.local),("_law_j",.free),("_law_label",.free),("_law_path",.free)]) ["_law_mean", "_law_label", "_law_path", "_law_j"] 1 [22,6,11]:=by trivial
def VZ:Af ["_law_net", "_law_scope", "_law_means", "_law_first"] ["_law_net", "_law_scope", "_law_means"] (A0 ON):=by trivial
def Cm:Av (A0 ON) ["_law_net", "_law_scope", "_law_means", "_law_first"] (SF [ (".0",.local),("_law_k",.local),("_law_first",.free),("_law_scope",.free)]) ["_law_k", "_law_scope", "_law_first"] 1 [1,3]:=by trivial
def Zn:Af ["_law_word", "_law_j", "_law_q", "_law_first"] ["_law_word", "_law_j", "_law_q", "_law_first"] (A0 QC):=by trivial
def Fu:Af ["_law_script", "_law_net", "_law_path", "_law_ways", "_law_bits", "_law_asked", "_law_j", "_law_kind", "_law_t", "_law_u", "_law_q", "_law_r", "_law_there", "_law_both", "_law_known", "_law_means", "_law_word", "_law_scope", "_law_mean"] ["_law_script", "_law_net", "_law_path"] (A0 QD):=by trivial
def PY:Af ["table", "state", "label", "goes", "known", "number"] ["table", "state", "label"] (A0 QE):=by trivial
def PZ:Af ["net", "answers", "question", "answer", "kind", "number"] ["net", "answers", "question"] (A0 QF):=by trivial
def SH:Af ["net", "answers", "thing", "kind", "number"] ["net", "answers", "thing"] (A0 QG):=by trivial
def Oc:Af ["net", "answers", "step", "label", "kind", "number", "answer"] ["net", "answers", "step"] (A0 QH):=by trivial
def LZ:Af ["net", "answers", "table", "scope", "state", "gone", "index", "step", "after", "kind", "number"] ["net", "answers", "table", "scope", "state"] (A0 QI):=by trivial
def Il:Af ["net", "answers", "table", "beginning", "marks", "last", "then", "come_to", "longer", "mark", "kind", "number", "after"] ["net", "answers", "table", "beginning"] (A0 OO):=by trivial
def Bw:Av (A0 OO) ["net", "answers", "table", "beginning", "marks", "last", "then", "come_to", "longer", "mark", "kind", "number", "after"] (SF [(".0",.local),("mark",.local)]) ["mark"] 1 []:=by trivial
def P1:Af ["net", "answers", "table", "scope", "state", "found", "place"] ["net", "answers", "table", "scope", "state"] (A0 QJ):=by trivial
def V0:Af ["table", "state", "label", "ends"] ["table", "state", "label"] (A0 QK):=by trivial
def L0:Af ["net", "table", "begun", "name", "ways", "marks", "last", "then", "index", "telling"] ["net", "table", "begun", "name"] (A0 QL):=by trivial
def Zo:Af ["table"] ["table"] (A0 OP):=by trivial
def B6:Av (A0 OP) ["table"] (SF [(".0",.local),("pair",.local)]) ["pair"] 1 []:=by trivial
def L1:Af ["ways", "tree", "number", "way", "branch", "mark"] ["ways"] (A0 QM):=by trivial
def MT:Af ["net", "mark", "scope", "kind", "index", "steps", "tellings"] ["net", "mark"] (A0 QN):=by trivial
def L3:Af ["net", "better", "tree", "way", "numbers", "branch", "mark", "label", "beside"] ["net", "better", "tree", "way"] (A0 QO):=by trivial
def SI:Af ["net", "table", "ways", "better", "tree"] ["net", "table", "ways"] (A0 OQ):=by trivial
def CN:Av (A0 OQ) ["net", "table", "ways", "better", "tree"] (SF [ (".0",.local),("way",.local),("first_hider",.globalImplicit),("list",.globalImplicit),("better",.free),("net",.free),("tree",.free)]) ["way", "net", "better", "tree"] 1 [0,3,4]:=by trivial
def Wa:Af ["net", "table", "begun", "name", "found"] ["net", "table", "begun", "name"] (A0 QP):=by trivial
def Od:Af ["net", "table", "found", "owed", "better", "tree", "way", "question"] ["net", "table", "found", "owed"] (A0 QQ):=by trivial
def Oe:Af ["net", "mark", "scope", "kind", "index", "tellings"] ["net", "mark"] (A0 QR):=by trivial
def MU:Af ["net", "answers", "seen", "way", "label", "name", "kind", "number"] ["net", "answers", "seen"] (A0 QS):=by trivial
def L4:Af ["net", "answers", "way", "label", "name", "kind", "number"] ["net", "answers", "way"] (A0 QU):=by trivial
def Jw:Af ["net", "answers", "table", "owed", "look", "at", "begun", "found", "seen", "waiting", "way", "question", "meanings"] ["net", "answers", "table", "owed", "look", "at"] (A0 Mp):=by trivial
def Ge:Av (A0 Mp) ["net", "answers", "table", "owed", "look", "at", "begun", "found", "seen", "waiting", "way", "question", "meanings"] (SF [ (".0",.local),("way",.local),("meaning",.globalImplicit),("answers",.free),("net",.free)]) ["way", "net", "answers"] 1 [0,1]:=by trivial
def Gf:Av (A0 Mp) ["net", "answers", "table", "owed", "look", "at", "begun", "found", "seen", "waiting", "way", "question", "meanings"] (SF [(".0",.local),("thing",.local)]) ["thing"] 1 []:=by trivial
def Gg:Av (A0 Mp) ["net", "answers", "table", "owed", "look", "at", "begun", "found", "seen", "waiting", "way", "question", "meanings"] (SF [ (".0",.local),("thing",.local),("meanings",.free)]) ["thing", "meanings"] 1 [12]:=by trivial
def Jx:Af ["net", "answers", "table", "begun", "ways", "marks", "last", "then", "mark", "kind", "number", "after"] ["net", "answers", "table", "begun"] (A0 QV):=by trivial
def F6:Af ["net", "answers", "table", "asked", "scope", "state", "path", "looks", "things", "at", "name", "begun", "answer", "wait", "kind", "number"] ["net", "answers", "table", "asked"] (A0 QW):=by trivial
def Of:Af ["net", "answers", "table", "question", "answer", "wait", "looks", "things"] ["net", "answers", "table", "question"] (A0 QX):=by trivial
def SJ:Af ["_law_found", "_law_due_here", "_law_one", "_law_other"] ["_law_found", "_law_due_here"] (A0 M5):=by trivial
def Og:Af ["net", "answers", "table", "question", "answer", "wait", "looks", "things"] ["net", "answers", "table", "question"] (A0 OR):=by trivial
def Cu:Av (A0 OR) ["net", "answers", "table", "question", "answer", "wait", "looks", "things"] (SF [ (".0",.local),("begun",.local),("found",.local),("seen",.local)]) ["begun", "found", "seen"] 3 []:=by trivial
def Jy:Af ["looks", "scopes", "begun", "found", "seen", "marks", "last", "then"] ["looks"] (A0 QY):=by trivial
def Oh:Af ["net", "answers", "table", "question", "answer", "wait", "looks", "things"] ["net", "answers", "table", "question"] (A0 QZ):=by trivial
def SK:Af ["net", "thing", "kind", "number"] ["net", "thing"] (A0 Q0):=by trivial
def Zp:Af ["net", "answer"] ["net", "answer"] (A0 Q1):=by trivial
def Ko:Af ["net", "answers", "table", "begun", "questions", "marks", "last", "then", "label", "kind", "number"] ["net", "answers", "table", "begun"] (A0 Q2):=by trivial
def L5:Af ["net", "found", "questions", "way", "label", "name", "kind", "number"] ["net", "found"] (A0 Q3):=by trivial
def MV:Af ["net", "answers", "table", "looks", "things", "questions", "begun", "found", "seen", "thing"] ["net", "answers", "table", "looks", "things"] (A0 Q4):=by trivial
def Oi:Af ["net", "answers", "table", "question", "answer", "wait", "looks", "things"] ["net", "answers", "table", "question"] (A0 Q5):=by trivial
def GS:Af ["_law_script", "_law_net", "_law_table", "_law_answers", "_law_handed", "_law_number", "_law_end_here", "_law_ways", "_law_bits", "_law_asked", "_law_told", "_law_some"] ["_law_script"] (A0 JS):=by trivial
structure BH (mg:Str->K'):Prop where
 b_all:mg "all" = none
 b_any:mg "any" = none
 b_bool:mg "bool" = none
 b_dict:mg "dict" = none
 b_enumerate:mg "enumerate" = none
 b_int:mg "int" = none
 b_isinstance:mg "isinstance" = none
 b_len:mg "len" = none
 b_list:mg "list" = none
 b_min:mg "min" = none
 b_range:mg "range" = none
 b_set:mg "set" = none
 b_sorted:mg "sorted" = none
 b_str:mg "str" = none
 b_tuple:mg "tuple" = none
 b_zip:mg "zip" = none
 c_MOST_BEGINNINGS:∃t,mg "MOST_BEGINNINGS" = some (.int 200 t)
variable {us:F'}
def HI(h:us.length=1):∃a,us=[a]:=by
 cases us with|nil=>cases h|cons a t=>exact⟨a,by rw[List.length_eq_zero_iff.mp (Nat.succ.inj h)]⟩
def HJ(h:us.length=2):∃a b,us=[a,b]:=by
 cases us with|nil=>cases h|cons a t=>obtain⟨b,rfl⟩:=HI (Nat.succ.inj h);exact⟨a,b,rfl⟩
def Kp(h:us.length=3):∃a b c,us=[a,b,c]:=by
 cases us with|nil=>cases h|cons a t=>obtain⟨b,c,rfl⟩:=HJ (Nat.succ.inj h);exact⟨a,b,c,rfl⟩
def Kq(h:us.length=4):∃a b c d,us=[a,b,c,d]:=by
 cases us with|nil=>cases h|cons a t=>obtain⟨b,c,d,rfl⟩:=Kp (Nat.succ.inj h);exact⟨a,b,c,d,rfl⟩
def Kr(h:us.length=5):∃a b c d e,us=[a,b,c,d,e]:=by
 cases us with|nil=>cases h|cons a t=>obtain⟨b,c,d,e,rfl⟩:=Kq (Nat.succ.inj h);exact⟨a,b,c,d,e,rfl⟩
def Ks(h:us.length=6):∃a b c d e f,us=[a,b,c,d,e,f]:=by
 cases us with|nil=>cases h|cons a t=>obtain⟨b,c,d,e,f,rfl⟩:=Kr (Nat.succ.inj h);exact⟨a,b,c,d,e,f,rfl⟩
open PySem PySem.Spec PyProof.Rows L2 in
def BZ{P:Program}{w:World}{K:Aj}{h:Str->K'}{m:Heap}{x g:Str}{st:Stmt}{f:Addr}{j:FuncData}{N b:I'}{k:Nat}{sp:Sp}(F:Bt K x g st f j)(n:h x=some (.ref f))(S:Af N b (A0 st))(u:∀vs H Q E,sp vs H Q E->vs.length=b.length)
  (y:∀(e:Value)(A:Around)(z:List Env)(s:Shared)(H:Hp)(vs:S')(Q:VK)(E:XK),BP k (A.deeper (envOfC g (A0 st) s.heap.objs.size f e))->sp vs H Q E -> ∃t,FY (AF Ig P w K h m N g (A0 st) f e A z s H E).nox (H1 st) t/\t {nx:=λζ H'=>Q .non H',rt:=Q} (start N vs) H)
  (o:∀(kV v p:Value)(q:Option Addr)(e ct:Value)(us:F'),us.length=b.length->bindArgs (PySem.W.fnOf x g (JR st) (H1 st) (A0 st) .none kV v p q e ct) ⟨us,[]⟩=pure (b.zip us):=by intro _ _ _ _ _ _ us a;first|(obtain⟨_,rfl⟩:=HI a;rfl)|(obtain⟨_,_,rfl⟩:=HJ a;rfl)|(obtain⟨_,_,_,rfl⟩:=Kp a;rfl)|(obtain⟨_,_,_,_,rfl⟩:=Kq a;rfl)|(obtain⟨_,_,_,_,_,rfl⟩:=Kr a;rfl)|(obtain⟨_,_,_,_,_,_,rfl⟩:=Ks a;rfl)):BG P w K h m x (k+1) b sp:=⟨f,j,F.ok S u y,n,F.kp,F.binds o⟩
def Oj(h:us.length=7):∃a b c d e f g,us=[a,b,c,d,e,f,g]:=by
 cases us with|nil=>cases h|cons a t=>obtain⟨b,c,d,e,f,g,rfl⟩:=Ks (Nat.succ.inj h);exact⟨a,b,c,d,e,f,g,rfl⟩
def Wb(h:us.length=8):∃a b c d e f g i,us=[a,b,c,d,e,f,g,i]:=by
 cases us with|nil=>cases h|cons a t=>obtain⟨b,c,d,e,f,g,i,rfl⟩:=Oj (Nat.succ.inj h);exact⟨a,b,c,d,e,f,g,i,rfl⟩
section
set_option maxHeartbeats 4000000
seal L2.PE L2.PA L2.PS L2.FY L2.PT L2.PW L2.PC L2.PG L2.Nb L2.PI L2.PF L2.Ix L2.CW L2.OW L2.Br L2.Nq L2.Ic L2.Rt L2.PO
variable {P:Program} {w:World} {K:Aj} {mg:Str->K'} {base:Heap} {f:Addr} {fd:FuncData}
def Wc:(j8).cps.toList.length=26:=by decide +kernel
def P4(w:Str)(c:Nat):(w++(⟨#[c]⟩:Str)).length=w.length+1:=by
 show(w.cps++#[c]).size=w.cps.size+1;simp
def L6:∀n,n<26->(j8).cps.toList[n]?=some (97+n):=by decide +kernel
def We(n:Int):BW (j8).cps.toList (n%26)=some (97+(n%26).toNat):=by have a:=Et n (by decide:(26:Int)≠0);have c:=Fi n (by decide:(0:Int)<26);obtain⟨k,b⟩:=DJ a;rw[b,BF];exact BJ (L6 k (by lia))
def Zq(w:Str)(c:Nat):(w++(⟨#[c]⟩:Str)).cps.toList=w.cps.toList++[c]:=by
 show(w.cps++#[c]).toList=_;simp
abbrev GB (n:Int):Str:=⟨#[97+(n%26).toNat]⟩
def L7 (c:Int) (k j:Nat):Int:=c/(64+3*(j:Int))+(j:Int)*(c/64%2)+(k:Int)*(if(j:Int)=c/8%(1+c%8) then 1 else 0)
def Ex (c:Int) (k:Nat):Nat->Str
 |0 => ""
 |j+1=>Ex c k j++GB (L7 c k j)
def FV (c:Int) (m:Nat):I':=(List.range m).map λk=>Ex c k (1+c%8).toNat
def GC (c:Int) (m:Nat):I':=if c/128%3=1/\1+c%8<8 then(FV c m).set 1 (Ex c 0 (1+c%8).toNat++GB (c/384)) else FV c m
theorem Jz(c:Int)(k:Nat):∀j,(Ex c k j).length=j
 |0=>show("":Str).length=0 by decide +kernel
 |j+1=>by show(Ex c k j++GB (L7 c k j)).length=j+1;rw[P4,Jz c k j]
theorem SM(c:Int)(k:Nat){a:Nat}:∀{j:Nat},a<j->(Ex c k j).cps.toList[a]?=some (97+(L7 c k a%26).toNat)
 |0,h=>absurd h (Nat.not_lt_zero _)
 |j+1,h=>by
   show(Ex c k j++GB (L7 c k j)).cps.toList[a]?=_;rw[Zq];have b:(Ex c k j).cps.toList.length=j:=by rw[Array.length_toList];exact Jz c k j
   by_cases d:a<j;rw[Ez (by rw[b];exact d)];exact SM c k d;have e:a=j:=(by lia);subst e;rw[Ep (by rw[b];exact AK _),b,Nat.sub_self];rfl
def Ol(c:Int)(m:Nat):(FV c m).length=m:=by unfold FV;rw[An,m5]
def MW(c:Int)(m:Nat):(GC c m).length=m:=by unfold GC;split;rw[Er,Ol];exact Ol c m
variable {c:Int}
def L8{j:Nat}(l:i<26)(m:j<26)(h:Ex c i (1+c%8).toNat=Ex c j (1+c%8).toNat):i=j:=by have g:=Et (c/8) (show(1+c%8)≠0 by lia);have n:=Fi (c/8) (show 0<1+c%8 by lia);obtain⟨a,k⟩:=DJ g;have f:a<(1+c%8).toNat:=(by lia);have e:=SM c i f;rw[h,SM c j f] at e;have d:=BU e;unfold L7 at d;rw[Ap k.symm] at d;generalize c/(64+3*(a:Int))+(a:Int)*(c/64%2)=b at d;lia
variable {m:Nat}
def HK(d:m<=26):(FV c m).Nodup:=by unfold FV;refine List.pairwise_iff_getElem.mpr λi j a b f e=>?_;rw[An,m5] at a b;rw[List.getElem_map,List.getElem_map,List.getElem_range,List.getElem_range] at e;have:=L8 (by lia) (by lia) e;lia
def Zr:∀y∈FV c m,y.length=(1+c%8).toNat:=λy a=>by obtain⟨k,_,rfl⟩:=AN.mp a;exact Jz _ _ _
def SN(a:m<=26):(GC c m).Nodup:=by unfold GC;split;refine List.pairwise_iff_getElem.mpr λi j f g h e=>?_;rw[Er,Ol] at f g;have d:∀(k:Nat)(b:k<(FV c m).length),(FV c m)[k].length=(1+c%8).toNat:=λk b=>Zr _ (Eo b);rw[List.getElem_set,List.getElem_set] at e;split at e;rw[Ag (by lia)] at e;have:=By Str.length e;rw[P4,Jz,d] at this;lia;split at e;have:=By Str.length e;rw[P4,Jz,d] at this;lia;exact absurd e ((List.pairwise_iff_getElem.mp (HK (c:=c) a)) i j _ _ h);exact HK a
def Zs{k:Nat}:(Ex c k (1+c%8).toNat).length<=8:=by rw[Jz];lia
set_option tactic.hygienic true in
def Kt:∀x∈GC c m,x.length<=8:=by
 intro x a;unfold GC at a
 have b:∀y∈FV c m,y.length<=8:=λy d=>by
  obtain⟨k,_,rfl⟩:=AN.mp d;exact Zs
 split at a;rename_i e;rcases List.mem_or_eq_of_mem_set a with h|rfl;exact b x h;rw[P4,Jz];lia;exact b x a
inductive C8 (K:Aj) (vs:S') (H:Hp) (Q:VK):Prop where
 |mk (c:Int) (m:Nat) (h0:vs=[.int c,.int m]) (h1:2<=m) (h2:m<=26) (h3:∀(L:Addr)(H':Hp),H L=none->Ad H H'->H' L=some (.lst ((GC c m).map V.str))->Q (.ref L) H'):C8 K vs H Q
def Zt (K:Aj):Sp:=λvs H Q ζ=>C8 K vs H Q
abbrev SO(P w K mg base):=BG P w K mg base "_law_names" 1 ["_law_cell", "_law_many"] (Zt K)
theorem Zu(B:BH mg)(F:Bt K "_law_names" "_law_names" Qw f fd)(M:mg "_law_names" = some (.ref f)):SO P w K mg base:=by
 refine BZ F M Ik (λN H Q E h=>?_) (λae A ag s H N Q E hr h=>?_);obtain⟨c,m,rfl,_⟩:=h;rfl
 . obtain⟨c,m,rfl,m0,m9,q⟩:=h
   refine⟨_,(Al (AU (i:=2) Ik.nd AH)
    (Al (AU (i:=3) Ik.nd (AG Ev Ah (AG Cv (pv 0) Ah)))
    (Al (AU (i:=4) Ik.nd (AG Cv (AG Ew (pv 0) Ah) (pv 3)))
    (Al (AU (i:=5) Ik.nd (A1 Ac))
    (Al (Dq C0 rfl (Ib rfl B.b_range (Aa (pv 1) Ac)) (Ar (i:=6) Ik.nd) (Al (AU (i:=7) Ik.nd AH)
     (Al (Dq C0 rfl (Ib rfl B.b_range (Aa (pv 3) Ac)) (Ar (i:=8) Ik.nd) (Al (AU (i:=9) Ik.nd (AG Ev (AG Ew (pv 0) (AG Ev Ah (AG JY Ah (pv 8)))) (AG JY (pv 8) (AG Cv (AG Ew (pv 0) Ah) Ah))))
      (Ax (AU (i:=7) Ik.nd (AG TJ (pv 7) (AB AC (pv 2) (AG Cv (AG Ev (pv 9) (AG JY (pv 6) (Mw TL B.b_int (Aa (K2 B0 (pv 8) (pv 4) (Bs _)) Ac)))) Ah)))))))
     (Ax (E8 (EJ E6 Gi Gj Gv (pv 5) (Aa (pv 7) Ac)))))))
    (Al (A8 (PW.pt (KO (Bx B0 (AG Cv (AG Ew (pv 0) Ah) Ah) Ah (Bs _)) (KN (Bx OY (pv 3) Ah (Bs _))))) (Ax (Cf (AG TJ (AB AC (pv 5) Ah) (AB AC (pv 2) (AG Cv (AG Ew (pv 0) Ah) Ah))) (JX (pv 5) Ah Mx))) A7)
    (Ax (AJ (pv 5))))))))),?_⟩
   rfl';refine RI ?_;cbv;refine⟨(by show(0:Int)<8;decide),?_⟩;cbv;have z0:1<=1+c%8/\1+c%8<=8:=(by lia);refine⟨⟨by decide,by decide⟩,(by show 0<1+c%8;lia),?_⟩;cbv;refine⟨by decide,λL t=>?_⟩;obtain⟨aa,T,O,U⟩:=new_at (o:=.lst []) t;rw[<-T];refine⟨by lia,by lia,Nk (lo:=0) (n:=m) (λi σ g=>∃u v a d,σ=[some (.int c),some (.int m),some (.str "abcdefghijklmnopqrstuvwxyz"),some (.int (1+c%8)),some (.int (c/8%(1+c%8))),some (.ref L),u,v,a,d]/\Ad H g/\g L=some (.lst ((FV c i).map V.str))) ⟨none,none,none,none,rfl,O,U⟩ ?_ ?_⟩;rotate_left
   . refine λσ Z G=>AZ λR r=>?_
     obtain⟨u,v,a,d,rfl,p,l⟩:=G;refine r ?_;clear r;cbv;refine NE (λσ' g=>σ'=[some (.int c),some (.int m),some (.str "abcdefghijklmnopqrstuvwxyz"),some (.int (1+c%8)),some (.int (c/8%(1+c%8))),some (.ref L),u,v,a,d]/\Ad H g/\g L=some (.lst ((GC c m).map V.str))) ?_ (λab x=>?_)
     case refine_2 =>
      refine⟨⟨by decide,by decide⟩,(by show(0:Int)<3;decide),rfl,rfl,At (λy=>?_) (λy=>Bl ?_)⟩;rotate_left;have I:¬c/128%3=1:=λe=>y (A5 (by show V.int (c/128%3)=V.int 1;rw[e]));refine x _ _ ⟨rfl,p,?_⟩;unfold GC;rw[Ag λz=>I z.1];exact l;have I:c/128%3=1:=V.int.inj (Bd y);refine⟨rfl,At (λC=>?_) (λC=>?_)⟩;rotate_left;have J:¬1+c%8<8:=λe=>C (A5 e);refine x _ _ ⟨rfl,p,?_⟩;unfold GC;rw[Ag λz=>J z.2];exact l;have J:1+c%8<8:=Bd C;have hl:(FV c m).length=m:=Ol c m;have W:(FV c m)[0]?=some (Ex c 0 (1+c%8).toNat):=(by unfold FV;rw[Bf,m7 (by lia)];rfl);have X:BW ((FV c m).map V.str) 0=some (V.str (Ex c 0 (1+c%8).toNat)):=BJ (j:=0) (by rw[Bf,W];rfl);refine j9 ⟨_,.str (Ex c 0 (1+c%8).toNat),Ai.of l,X,⟨by decide,by decide⟩,(by show(0:Int)<26;decide),j' (j' ⟨_,_,_,rfl,rfl,by decide +kernel,We (c/384),Ex c 0 (1+c%8).toNat,_,rfl,rfl,?_,L,_,_,1,rfl,rfl,l,?_,?_⟩)⟩;show(Ex c 0 (1+c%8).toNat).length+1<=sizeLine;rw[Jz];exact CT (BX (by lia));exact MD (k:=1) (by decide) (by rw[An];lia);refine x _ _ ⟨rfl,λb o e=>?_,?_⟩;rw[AI (Be e t)];exact p _ _ e;unfold GC;rw[Ab,Ap ⟨I,J⟩,List.map_set]
     rintro σ' D ⟨rfl,S,Y⟩;exact q L D t S Y
   refine λi σ Z hi G=>AZ λR r=>?_;obtain⟨u,v,a,d,rfl,p,l⟩:=G;refine r ?_;clear r;refine RI ?_;cbv;refine⟨by lia,by lia,Nk (lo:=0) (n:=(1+c%8).toNat) (λj σ g=>∃(a d:U'),σ=[some (.int c),some (.int m),some (.str "abcdefghijklmnopqrstuvwxyz"),some (.int (1+c%8)),some (.int (c/8%(1+c%8))),some (.ref L),some (.int (0+(i:Int))),some (.str (Ex c i j)),a,d]/\g=Z) ⟨_,_,rfl,rfl⟩ ?_ ?_⟩;rotate_left;rintro σ D ⟨a,d,rfl,rfl⟩;refine⟨j9 ⟨rfl,_,Ai.of l⟩,_,l,by rw[An,Ol];exact BX (by lia),?_⟩;refine⟨_,_,_,_,rfl,λb o e=>?_,?_⟩;rw[AI (Be e t)];exact p _ _ e;rw[Ab];unfold FV;rw[List.range_succ,Bh,Bh];rfl;rintro j σ D hj ⟨a,d,rfl,rfl⟩;have af:j<8:=(by lia);refine⟨j9 ⟨by lia,by lia⟩,⟨by lia,by lia⟩,⟨by decide,by decide⟩,(by show(0:Int)<2;decide),j9 ⟨by lia,by lia⟩,?_⟩;refine⟨rfl,j' ⟨_,rfl,j9 ⟨by lia,by lia⟩,(by show(0:Int)<26;decide),j' (j' ⟨_,_,_,rfl,rfl,by decide +kernel,We _,Ex c i j,_,rfl,rfl,?_,?_⟩)⟩⟩;show(Ex c i j).length+1<=sizeLine;rw[Jz];exact CT (BX (by lia));refine⟨some (.int (0+(j:Int))),some (.int (c/(64+3*(0+(j:Int)))+(0+(j:Int))*(c/64%2))),?_,rfl⟩;have e:Ex c i (j+1)=Ex c i j++GB (c/(64+3*(0+(j:Int)))+(0+(j:Int))*(c/64%2)+(0+(i:Int))*(if decide (V.int (0+(j:Int))=V.int (c/8%(1+c%8)))=true then 1 else 0)):=(by show Ex c i j++GB (L7 c i j)=_;unfold L7;simp only[Int.zero_add,decide_eq_true_eq,V.int.injEq]);rw[e];rfl
def Zv{ns:E'}{k:Int}(b:0<=k)(c:k<ns.length):BW (ns.map V.int) k=some (V.int (AS ns k)):=by obtain⟨n,rfl⟩:=DJ b;have a:n<ns.length:=(by lia);refine BJ ?_;rw[Bf,AM a];show some (V.int ns[n])=some (V.int ((ns[((n:Int)).toNat]?).getD 0));rw[BF,AM a];rfl
def Zw{ns:E'}{k:Int}(a:0<=k)(b:¬k<ns.length):AS ns k=0:=by unfold AS;rw[GH (by lia)];rfl
def Zx (K:Aj):Sp:=λvs H Q ζ=>∃a ns k,vs=[.ref a,.int k]/\0<=k/\Ai K H a (ns.map V.int)/\Q (.int (AS ns k)) H
abbrev L9(P w K mg base):=BG P w K mg base "_law_cell_at" 1 ["_law_script", "_law_k"] (Zx K)
theorem Zy(B:BH mg)(F:Bt K "_law_cell_at" "_law_cell_at" Qx f fd)(i:mg "_law_cell_at" = some (.ref f)):L9 P w K mg base:=by
 refine BZ F i Zm (λj H Q E h=>?_) (λm A n s H j Q E l h=>?_);obtain⟨a,d,k,rfl,_⟩:=h;rfl;obtain⟨a,d,k,rfl,e,g,q⟩:=h
 refine⟨_,(Al (A8 (Bx OY (pv 1) (CZ GL B.b_len (Aa (pv 0) Ac)) (Bs _)) (Ax (AJ (AB AC (pv 0) (pv 1)))) A7)
  (Ax (AJ Ah))),?_⟩
 rfl';refine⟨_,j9 ⟨_,g,rfl⟩,rfl,?_⟩;rw[An];refine At (λb=>?_) (λc=>?_);have b:=Bd b;exact j9 ⟨_,_,g,Zv e b,q⟩;have c:¬k<(d.length:Int):=λz=>c (A5 z);show Q (.int 0) H;rw[Zw e c] at q;exact q
def Om (n:Int):Nat->Int
 |0=>n
 |k+1=>Om n k/5
def Im (n:Int) (m:Nat):E':=(List.range m).map λk=>Om n k%5
def P5(n:Int)(m:Nat):(Im n m).length=m:=by unfold Im;rw[An,m5]
def Zz(n:Int)(m:Nat):Im n (m+1)=Im n m++[Om n m%5]:=by unfold Im;rw[List.range_succ,Bh];rfl
def SQ(n:Int){k:Nat}(h:k<m):(Im n m)[k]?=some (Om n k%5):=by unfold Im;rw[Bf,m7 h];rfl
inductive C9 (K:Aj) (vs:S') (H:Hp) (Q:VK):Prop where
 |mk (n:Int) (m:Nat) (h0:vs=[.int n,.int m]) (h1:m<=100) (h2:∀(D:Addr)(H':Hp),H D=none->Ad H H'->H' D=some (.lst ((Im n m).map V.int))->Q (.ref D) H'):C9 K vs H Q
def ZA (K:Aj):Sp:=λvs H Q ζ=>C9 K vs H Q
abbrev SR(P w K mg base):=BG P w K mg base "_law_ranks" 1 ["_law_number", "_law_many"] (ZA K)
theorem ZB(B:BH mg)(F:Bt K "_law_ranks" "_law_ranks" Qy f fd)(j:mg "_law_ranks" = some (.ref f)):SR P w K mg base:=by
 refine BZ F j PX (λl H Q E h=>?_) (λx A y s H l Q E u h=>?_);obtain⟨n,m,rfl,_⟩:=h;rfl
 . obtain⟨n,m,rfl,j,q⟩:=h
   refine⟨_,(Al (AU (i:=2) PX.nd (A1 Ac))
    (Al (Dq C0 rfl (Ib rfl B.b_range (Aa (pv 1) Ac)) (Ar (i:=3) PX.nd) (Al (E8 (EJ E6 Gi Gj Gv (pv 2) (Aa (AG Cv (pv 0) Ah) Ac)))
     (Ax (AU (i:=0) PX.nd (AG Ew (pv 0) Ah)))))
    (Ax (AJ (pv 2))))),?_⟩
   rfl';refine⟨by decide,λD c=>?_⟩;obtain⟨U,r,p,t⟩:=new_at (o:=.lst []) c;rw[<-r];refine⟨by lia,by lia,Nk (lo:=0) (n:=m) (λi σ k=>∃d,σ=[some (.int (Om n i)),some (.int m),some (.ref D),d]/\Ad H k/\k D=some (.lst ((Im n i).map V.int))) ⟨none,rfl,p,t⟩ ?_ ?_⟩;rotate_left;rintro σ Z ⟨d,rfl,g,a⟩;exact q D Z c g a;rintro i σ Z v ⟨d,rfl,g,a⟩;refine⟨j9 ⟨rfl,_,Ai.of a⟩,(by show(0:Int)<5;decide),_,a,by rw[An,P5];exact BX (by lia),?_⟩;refine⟨⟨by decide,by decide⟩,?_⟩;refine⟨_,rfl,λb o e=>?_,?_⟩;rw[AI (Be e c)];exact g _ _ e;rw[Ab,Zz,Bh];rfl
abbrev FH (ns:E') (j:Nat):Int:=AS ns (6+j)%16
abbrev dT (ns:E') (j:Nat):Int:=(AS ns 4/4+2*j)%12
abbrev dU (ns:E') (j:Nat):Int:=(AS ns 4/4+2*j+1)%12
abbrev dQ (ns:E') (j:Nat):Int:=(AS ns 4/48+2*j)%13
abbrev dR (ns:E') (j:Nat):Int:=(AS ns 4/48+2*j+1)%13
abbrev DZ (ns:E') (j:Nat):Int:=(AS ns 2/6+j+1)%8
inductive DM (K:Aj) (vs:S') (H:Hp) (Q:VK):Prop where
 |mk (a:Addr) (ns:E') (j:Nat) (h0:vs=[.ref a,.int j]) (h1:Ai K H a (ns.map V.int)) (h2:j<8) (h3:∀(r:Addr)(H':Hp),Ad H H'->H' r=some (.tup [.int (FH ns j),.int (dT ns j),.int (dU ns j),.int (dQ ns j),.int (dR ns j),.int (DZ ns j)])->Q (.ref r) H'):DM K vs H Q
def ZC (K:Aj):Sp:=λvs H Q ζ=>DM K vs H Q
abbrev P6(P w K mg base):=BG P w K mg base "_law_laid" 2 ["_law_script", "_law_j"] (ZC K)
def ZD(B:BH mg)(d:L9 P w K mg base)(F:Bt K "_law_laid" "_law_laid" Qz f fd)(g:mg "_law_laid" = some (.ref f)):P6 P w K mg base:=by
 refine BZ F g Km (λk H Q E h=>?_) (λm A n s H k Q E e h=>?_);obtain⟨a,b,j,rfl,_⟩:=h;rfl;obtain⟨a,b,j,rfl,c,l,q⟩:=h
 refine⟨_,(Al (AU (i:=2) Km.nd (AV d (Aa (pv 0) (Aa (AG Ev Ah (pv 1)) Ac))))
  (Al (AU (i:=3) Km.nd (AV d (Aa (pv 0) (Aa Ah Ac))))
  (Al (AU (i:=4) Km.nd (AG Cv (AG Ev (AG Ew (pv 3) Ah) (AG JY Ah (pv 1))) Ah))
  (Al (AU (i:=5) Km.nd (AG Cv (AG Ev (AG Ev (AG Ew (pv 3) Ah) (AG JY Ah (pv 1))) Ah) Ah))
  (Al (AU (i:=6) Km.nd (AG Cv (AG Ev (AG Ew (pv 3) Ah) (AG JY Ah (pv 1))) Ah))
  (Al (AU (i:=7) Km.nd (AG Cv (AG Ev (AG Ev (AG Ew (pv 3) Ah) (AG JY Ah (pv 1))) Ah) Ah))
  (Al (AU (i:=8) Km.nd (AG Cv (AG Ev (AG Ev (AG Ew (AV d (Aa (pv 0) (Aa Ah Ac))) Ah) (pv 1)) Ah) Ah))
  (Ax (AJ (AD (Aa (AG Cv (pv 2) Ah) (Aa (pv 4) (Aa (pv 5) (Aa (pv 6) (Aa (pv 7) (Aa (pv 8) Ac)))))))))))))))),?_⟩
 rfl';refine⟨a,b,6+(j:Int),rfl,by lia,c,a,b,4,rfl,by decide,c,?_⟩;refine⟨⟨by decide,by decide⟩,j9 ⟨by decide,by decide⟩,(by show(0:Int)<12;decide),⟨by decide,by decide⟩,j9 ⟨by decide,by decide⟩,(by show(0:Int)<12;decide),?_⟩;refine⟨⟨by decide,by decide⟩,j9 ⟨by decide,by decide⟩,(by show(0:Int)<13;decide),⟨by decide,by decide⟩,j9 ⟨by decide,by decide⟩,(by show(0:Int)<13;decide),?_⟩;refine⟨a,b,2,rfl,by decide,c,⟨by decide,by decide⟩,(by show(0:Int)<8;decide),(by show(0:Int)<16;decide),(by show 6<=sizeLine;decide),λr e=>?_⟩;exact q r _ (A9 e) Ab
inductive Db (K:Aj) (vs:S') (H:Hp) (Q:VK):Prop where
 |mk (k t u q th:Int) (h0:vs=[.int k,.int t,.int u,.int q,.int th]) (h1:((2<=k/\k<=5)\/k=10)) (h2:∀(v:V)(H':Hp),Ad H H'->AL (λx=>H x=none) H' v (PQ (LW k t u q th))->Q v H'):Db K vs H Q
def ZE (K:Aj):Sp:=λvs H Q ζ=>Db K vs H Q
abbrev SS(P w K mg base):=BG P w K mg base "_law_sorts" 1 ["_law_kind", "_law_t", "_law_u", "_law_q", "_law_there"] (ZE K)
def ZF(B:BH mg)(F:Bt K "_law_sorts" "_law_sorts" QA f fd)(z:mg "_law_sorts" = some (.ref f)):SS P w K mg base:=by
 refine BZ F z VX (λC H Q E h=>?_) (λS A T s H C Q E L h=>?_);obtain⟨k,t,u,q,d,rfl,_⟩:=h;rfl;obtain⟨k,t,u,q,d,rfl,M,j⟩:=h
 refine⟨_,(Al (AU (i:=5) VX.nd (AD (Aa AH (Aa (pv 4) Ac))))
  (Al (A8 (Bx B0 (pv 0) Ah (Bs _)) (Ax (AJ (AD (Aa (A1 (Aa (AD (Aa AH (Aa (pv 3) Ac))) (Aa (pv 5) Ac))) (Aa (A1 (Aa Ci (Aa Ci Ac))) (Aa (A1 (Aa (AD (Aa AH (Aa (pv 1) Ac))) Ac)) (Aa AH Ac))))))) A7)
  (Al (A8 (Bx OY (pv 0) Ah (Bs _)) (Ax (AJ (AD (Aa (A1 (Aa (AD (Aa AH (Aa (pv 3) Ac))) (Aa (pv 5) Ac))) (Aa (A1 (Aa (AD (Aa (AB AC (A1 (Aa AH (Aa AH Ac))) (AG Mt (pv 0) Ah)) (Aa Ah Ac))) (Aa Ci Ac))) (Aa (A1 (Aa (AD (Aa AH (Aa (pv 1) Ac))) Ac)) (Aa AH Ac))))))) A7)
  (Al (A8 (Bx B0 (pv 0) Ah (Bs _)) (Ax (AJ (AD (Aa (A1 (Aa (AD (Aa AH (Aa (pv 3) Ac))) (Aa (AD (Aa AH (Aa Ah Ac))) Ac))) (Aa (A1 (Aa (AD (Aa AH (Aa (pv 2) Ac))) (Aa Ci Ac))) (Aa (A1 (Aa (AD (Aa AH (Aa (pv 1) Ac))) Ac)) (Aa AH Ac))))))) A7)
  (Ax (AJ (AD (Aa (A1 (Aa (AD (Aa AH (Aa (pv 3) Ac))) (Aa (pv 5) Ac))) (Aa (A1 (Aa (AD (Aa AH (Aa (pv 2) Ac))) (Aa Ci Ac))) (Aa (A1 (Aa (AD (Aa AH (Aa (pv 1) Ac))) Ac)) (Aa AH Ac))))))))))),?_⟩
 rfl';refine⟨AR,λP D=>?_⟩;obtain⟨U,J,g,G⟩:=new_at (o:=.tup [.str "part",.int d]) D;rw[<-J];refine Bz ?_;have r:AL (λx=>H x=none) U (.ref P) (Cz ("part",d)):=.tup G (.cons (.str _) (.cons (.int _) .nil));have a:∀p,U p=none->H p=none:=λp I=>g.free I;have l:B9 (λx=>H x=none) U [some (.int k),some (.int t),some (.int u),some (.int q),some (.int d),some (.ref P)] (C3 (Cr (tC (.str "sort")) (Cr (Bj 3) Cg))) (Cz ("sort",q)):=.tup (.cons (.str _) (.cons (.var rfl (.int _)) .nil)) AR;have m:B9 (λx=>H x=none) U [some (.int k),some (.int t),some (.int u),some (.int q),some (.int d),some (.ref P)] (Gq (Cr (C3 (Cr (tC (.str "thing")) (Cr (Bj 1) Cg))) Cg)) (.lst [Cz ("thing",t)]):=.lst a (.cons (.tup (.cons (.str _) (.cons (.var rfl (.int _)) .nil)) AR) .nil) Fn;have y:B9 (λx=>H x=none) U [some (.int k),some (.int t),some (.int u),some (.int q),some (.int d),some (.ref P)] (Gq (Cr (C3 (Cr (tC (.str "thing")) (Cr (Bj 2) Cg))) (Cr (tC .non) Cg))) (.lst [Cz ("thing",u),.non]):=.lst a (.cons (.tup (.cons (.str _) (.cons (.var rfl (.int _)) .nil)) AR) (.cons .non .nil)) AR;refine⟨rfl,rfl,At (λc=>?_) (λc=>?_)⟩;have e:k=2:=V.int.inj (Bd c);exact(B9.tup (.cons (.lst a (.cons l (.cons (.var rfl r) .nil)) AR) (.cons (.lst a (.cons .non (.cons .non .nil)) AR) (.cons m (.cons (.str _) .nil)))) EG) U _ (λζ ζ e=>e) λv b s o=>j v b (g.trans s) (by unfold LW;rw[Ap e];exact o);have N:¬k=2:=λe=>c (A5 (by rw[e]));refine⟨rfl,At (λc=>?_) (λc=>?_)⟩;have e:k<5:=Bd c;rcases(show k=3\/k=4 by lia) with rfl|rfl;exact(B9.tup (.cons (.lst a (.cons l (.cons (.var rfl r) .nil)) AR) (.cons (.lst a (.cons (.tup (.cons (.ixl (n:=0) (.cons (.str _) (.cons (.str _) .nil)) AR (λH Q h=>h) rfl) (.cons (.int _) .nil)) AR) (.cons .non .nil)) AR) (.cons m (.cons (.str _) .nil)))) EG) U _ (λζ ζ e=>e) λv b s o=>j v b (g.trans s) o;exact(B9.tup (.cons (.lst a (.cons l (.cons (.var rfl r) .nil)) AR) (.cons (.lst a (.cons (.tup (.cons (.ixl (n:=1) (.cons (.str _) (.cons (.str _) .nil)) AR (λH Q h=>h) rfl) (.cons (.int _) .nil)) AR) (.cons .non .nil)) AR) (.cons m (.cons (.str _) .nil)))) EG) U _ (λζ ζ e=>e) λv b s o=>j v b (g.trans s) o;have O:¬k<5:=λe=>c (A5 e);refine⟨rfl,rfl,At (λc=>?_) (λc=>?_)⟩;obtain rfl:k=5:=V.int.inj (Bd c);exact(B9.tup (.cons (.lst a (.cons l (.cons (.tup (.cons (.str _) (.cons (.int _) .nil)) AR) .nil)) AR) (.cons y (.cons m (.cons (.str _) .nil)))) EG) U _ (λζ ζ e=>e) λv b s o=>j v b (g.trans s) o;have R:¬k=5:=λe=>c (A5 (by rw[e]));obtain rfl:k=10:=by lia
 exact(B9.tup (.cons (.lst a (.cons l (.cons (.var rfl r) .nil)) AR) (.cons y (.cons m (.cons (.str _) .nil)))) EG) U _ (λζ ζ e=>e) λv b s o=>j v b (g.trans s) o
inductive Dc (K:Aj) (vs:S') (H:Hp) (Q:VK):Prop where
 |mk (k t u q r th:Int) (h0:vs=[.int k,.int t,.int u,.int q,.int r,.int th]) (h1:0<=k) (h2:∀(v:V)(H':Hp),Ad H H'->AL (λx=>H x=none) H' v (PQ (DH k t u q r th))->Q v H'):Dc K vs H Q
def ZG (K:Aj):Sp:=λvs H Q ζ=>Dc K vs H Q
abbrev P7(P w K mg base):=BG P w K mg base "_law_level" 2 ["_law_kind", "_law_t", "_law_u", "_law_q", "_law_r", "_law_there"] (ZG K)
def ZH(au:BH mg)(ah:SS P w K mg base)(F:Bt K "_law_level" "_law_level" QB f fd)(hm:mg "_law_level" = some (.ref f)):P7 P w K mg base:=by
 refine BZ F hm VY (λvs H Q ae h=>?_) (λay av az s H vs Q ae hr h=>?_);obtain⟨k,t,u,q,r,a,rfl,_⟩:=h;rfl;obtain⟨k,t,u,q,r,a,rfl,hk,X⟩:=h
 refine⟨_,(Al (AU (i:=6) VY.nd (A1 (Aa (AD (Aa AH (Aa (pv 5) Ac))) (Aa (AD (Aa AH (Aa Ah Ac))) Ac))))
  (Al (A8 (Bx B0 (pv 0) Ah (Bs _)) (Ax (AJ (AD (Aa (pv 6) (Aa (A1 (Aa Ci (Aa Ci Ac))) (Aa (A1 Ac) (Aa AH Ac))))))) A7)
  (Al (A8 (Bx B0 (pv 0) Ah (Bs _)) (Ax (AJ (AD (Aa (A1 (Aa (AD (Aa AH (Aa Ah Ac))) (Aa (AB AC (pv 6) Ah) Ac))) (Aa (A1 (Aa Ci (Aa Ci Ac))) (Aa (A1 (Aa (AD (Aa AH (Aa (pv 1) Ac))) Ac)) (Aa AH Ac))))))) A7)
  (Al (A8 (PW.pt (OU (WR JZ JZ Ah (pv 0) Ah) (Re (Bx B0 (pv 0) Ah (Bs _))))) (Ax (AJ (AV ah (Aa (pv 0) (Aa (pv 1) (Aa (pv 2) (Aa (pv 3) (Aa (pv 5) Ac)))))))) A7)
  (Al (A8 (Bx B0 (pv 0) Ah (Bs _)) (Ax (AJ (AD (Aa (pv 6) (Aa (A1 (Aa Ci (Aa (AD (Aa AH (Aa Ah Ac))) Ac))) (Aa (A1 (Aa (AD (Aa AH (Aa (pv 3) Ac))) Ac)) (Aa AH Ac))))))) A7)
  (Al (A8 (Bx B0 (pv 0) Ah (Bs _)) (Ax (AJ (AD (Aa (pv 6) (Aa (A1 (Aa (AD (Aa AH (Aa Ah Ac))) (Aa Ci Ac))) (Aa (A1 (Aa (AD (Aa AH (Aa (pv 3) Ac))) Ac)) (Aa AH Ac))))))) A7)
  (Al (A8 (Bx B0 (pv 0) Ah (Bs _)) (Ax (AJ (AD (Aa (pv 6) (Aa (A1 (Aa Ci (Aa Ci Ac))) (Aa (A1 (Aa (AD (Aa AH (Aa (pv 1) Ac))) (Aa (AD (Aa AH (Aa (pv 2) Ac))) Ac))) (Aa AH Ac))))))) A7)
  (Al (A8 (Bx B0 (pv 0) Ah (Bs _)) (Ax (AJ (AD (Aa (pv 6) (Aa (A1 (Aa (AD (Aa AH (Aa (pv 1) Ac))) (Aa Ci Ac))) (Aa (A1 (Aa (AD (Aa AH (Aa (pv 1) Ac))) (Aa (AD (Aa AH (Aa (pv 3) Ac))) Ac))) (Aa AH Ac))))))) A7)
  (Al (A8 (Bx B0 (pv 0) Ah (Bs _)) (Ax (AJ (AD (Aa (pv 6) (Aa (A1 (Aa (AD (Aa AH (Aa (pv 1) Ac))) (Aa Ci Ac))) (Aa (A1 (Aa (AD (Aa AH (Aa (pv 3) Ac))) Ac)) (Aa AH Ac))))))) A7)
  (Al (A8 (Bx B0 (pv 0) Ah (Bs _)) (Ax (AJ (AD (Aa (pv 6) (Aa (A1 (Aa Ci (Aa (AD (Aa AH (Aa Ah Ac))) Ac))) (Aa (A1 (Aa (AD (Aa AH (Aa (pv 4) Ac))) (Aa (AD (Aa AH (Aa (pv 2) Ac))) Ac))) (Aa AH Ac))))))) A7)
  (Al (A8 (Bx B0 (pv 0) Ah (Bs _)) (Ax (AJ (AD (Aa (pv 6) (Aa (A1 (Aa (AD (Aa AH (Aa Ah Ac))) (Aa (AD (Aa AH (Aa Ah Ac))) Ac))) (Aa (A1 (Aa (AD (Aa AH (Aa (pv 3) Ac))) (Aa (AD (Aa AH (Aa (pv 4) Ac))) Ac))) (Aa AH Ac))))))) A7)
  (Ax (AJ (AD (Aa (pv 6) (Aa (A1 (Aa Ci (Aa Ci Ac))) (Aa (A1 (Aa (AD (Aa AH (Aa (pv 1) Ac))) Ac)) (Aa AH Ac)))))))))))))))))),?_⟩
 rfl';refine⟨AR,λP hP=>?_⟩;obtain⟨aw,ai,Y,eP⟩:=new_at (o:=.tup [.str "part",.int a]) hP;rw[<-ai];refine⟨AR,λP2 aj=>?_⟩;obtain⟨ax,ak,Z,al⟩:=new_at (o:=.tup [.str "plain",.int 0]) aj;rw[<-ak];refine⟨AR,λL hL=>?_⟩;obtain⟨g,an,s3,eL⟩:=new_at (o:=.lst [.ref P,.ref P2]) hL;rw[<-an];refine Bz ?_;have aa:=Z.trans s3;have O:=Y.trans aa;have b:∀p,g p=none->H p=none:=λp hp=>O.free hp;have oP:AL (λx=>H x=none) g (.ref P) (Cz ("part",a)):=.tup (aa _ _ eP) (.cons (.str _) (.cons (.int _) .nil));have oL:AL (λx=>H x=none) g (.ref L) (.lst [Cz ("part",a),Cz ("plain",0)]):=.lst eL ((Y.trans Z).free hL) (.cons oP (.cons (.tup (s3 _ _ al) (.cons (.str _) (.cons (.int _) .nil))) .nil));have n:B9 (λx=>H x=none) g [some (.int k),some (.int t),some (.int u),some (.int q),some (.int r),some (.int a),some (.ref L)] (Bj 6) (.lst [Cz ("part",a),Cz ("plain",0)]):=.var rfl oL;have D:B9 (λx=>H x=none) g [some (.int k),some (.int t),some (.int u),some (.int q),some (.int r),some (.int a),some (.ref L)] (C3 (Cr (tC (.str "thing")) (Cr (Bj 1) Cg))) (Cz ("thing",t)):=(.tup (.cons (.str _) (.cons (.var (i:=1) rfl (.int _)) .nil)) AR);have tu:B9 (λx=>H x=none) g [some (.int k),some (.int t),some (.int u),some (.int q),some (.int r),some (.int a),some (.ref L)] (C3 (Cr (tC (.str "thing")) (Cr (Bj 2) Cg))) (Cz ("thing",u)):=(.tup (.cons (.str _) (.cons (.var (i:=2) rfl (.int _)) .nil)) AR);have G:B9 (λx=>H x=none) g [some (.int k),some (.int t),some (.int u),some (.int q),some (.int r),some (.int a),some (.ref L)] (C3 (Cr (tC (.str "by")) (Cr (Bj 3) Cg))) (Cz ("by",q)):=(.tup (.cons (.str _) (.cons (.var (i:=3) rfl (.int _)) .nil)) AR);have br:B9 (λx=>H x=none) g [some (.int k),some (.int t),some (.int u),some (.int q),some (.int r),some (.int a),some (.ref L)] (C3 (Cr (tC (.str "by")) (Cr (Bj 4) Cg))) (Cz ("by",r)):=(.tup (.cons (.str _) (.cons (.var (i:=4) rfl (.int _)) .nil)) AR);have J:B9 (λx=>H x=none) g [some (.int k),some (.int t),some (.int u),some (.int q),some (.int r),some (.int a),some (.ref L)] (C3 (Cr (tC (.str "none")) (Cr (tC (.int 0)) Cg))) (Cz ("none",0)):=.tup (.cons (.str _) (.cons (.int _) .nil)) AR;have zt:B9 (λx=>H x=none) g [some (.int k),some (.int t),some (.int u),some (.int q),some (.int r),some (.int a),some (.ref L)] (C3 (Cr (tC (.str "torn")) (Cr (tC (.int 0)) Cg))) (Cz ("torn",0)):=.tup (.cons (.str _) (.cons (.int _) .nil)) AR;have m:∀{S:TE}{d:Dt},B9 (λx=>H x=none) g [some (.int k),some (.int t),some (.int u),some (.int q),some (.int r),some (.int a),some (.ref L)] S d->d=PQ (DH k t u q r a)->S [some (.int k),some (.int t),some (.int u),some (.int q),some (.int r),some (.int a),some (.ref L)] g Q:=λ{S d}af e=>af g Q (λζ ζ e=>e) λv T s o=>X v T (O.trans s) (e▸o);have M:B9 (λx=>H x=none) g [some (.int k),some (.int t),some (.int u),some (.int q),some (.int r),some (.int a),some (.ref L)] (Gq (Cr (tC .non) (Cr (tC .non) Cg))) (.lst [.non,.non]):=.lst b (.cons .non (.cons .non .nil)) AR
 have ar:∀R:Bool->Hp->Prop,R (decide ((2<=k/\k<=5)\/k=10)) g->Tx (OZ (G4 (GK λi j=>.bl (decide (i<=j))) (GK λi j=>.bl (decide (i<=j))) (tC (.int 2)) (Bj 0) (tC (.int 5)))) (OZ (EI Tz (Bj 0) (tC (.int 10)))) [some (.int k),some (.int t),some (.int u),some (.int q),some (.int r),some (.int a),some (.ref L)] g R:=λR h=>by
  have z:¬(2<=k/\k<=5)->decide ((2<=k/\k<=5)\/k=10)=decide (V.int k=V.int 10):=λag=>decide_eq_decide.mpr ⟨λe=>by rw[e.resolve_left ag],λe=>.inr (V.int.inj e)⟩;refine⟨_,rfl,At (λc=>⟨rfl,At (λU=>?_) (λU=>⟨rfl,rfl,?_⟩)⟩) (λc=>⟨rfl,Bl ⟨rfl,rfl,?_⟩⟩)⟩;rw[A5 (.inl ⟨Bd c,Bd U⟩)] at h;exact h;rw[z λy=>U (A5 y.2)] at h;exact h;rw[z λy=>c (A5 y.1)] at h;exact h
 refine⟨rfl,rfl,At (λc=>?_) (λc=>?_)⟩;have e:k=0:=V.int.inj (Bd c);exact m (.tup (.cons n (.cons M (.cons (.lst b .nil (Dp _)) (.cons (.str _) .nil)))) EG) (by unfold DH;rw[Ap e];rfl);have l:¬k=0:=λe=>c (A5 (by rw[e]));refine⟨rfl,rfl,At (λc=>?_) (λc=>?_)⟩;have e:k=1:=V.int.inj (Bd c);have ao:B9 (λx=>H x=none) g [some (.int k),some (.int t),some (.int u),some (.int q),some (.int r),some (.int a),some (.ref L)] (EI (Ie K) (Bj 6) (tC (.int 0))) (Cz ("part",a)):=.pur (v:=.ref P) (λH Q s h=>j9 ⟨_,_,Ai.of (s _ _ eL),BJ (j:=0) rfl,h⟩) oP;exact m (.tup (.cons (.lst b (.cons (.tup (.cons (.str _) (.cons (.int _) .nil)) AR) (.cons ao .nil)) AR) (.cons M (.cons (.lst b (.cons D .nil) Fn) (.cons (.str _) .nil)))) EG) (by unfold DH;rw[Ag l,Ap e];rfl);have A:¬k=1:=λe=>c (A5 (by rw[e]));refine ar _ (At (λc=>?_) (λc=>?_));have e:=Bd c;exact⟨k,t,u,q,a,rfl,e,λv T s o=>X v T (O.trans s) (by unfold DH;rw[Ag l,Ag A,Ap e];exact o.go (λζ ζ h=>h) λζ ζ h f=>⟨h,O.free f⟩)⟩;have B:¬((2<=k/\k<=5)\/k=10):=λe=>c (A5 e);refine⟨rfl,rfl,At (λc=>?_) (λc=>?_)⟩;have e:k=6:=V.int.inj (Bd c);exact m (.tup (.cons n (.cons (.lst b (.cons .non (.cons J .nil)) AR) (.cons (.lst b (.cons G .nil) Fn) (.cons (.str _) .nil)))) EG) (by unfold DH;rw[Ag l,Ag A,Ag B,Ap e];rfl);have C:¬k=6:=λe=>c (A5 (by rw[e]));refine⟨rfl,rfl,At (λc=>?_) (λc=>?_)⟩;have e:k=7:=V.int.inj (Bd c);exact m (.tup (.cons n (.cons (.lst b (.cons J (.cons .non .nil)) AR) (.cons (.lst b (.cons G .nil) Fn) (.cons (.str _) .nil)))) EG) (by unfold DH;rw[Ag l,Ag A,Ag B,Ag C,Ap e];rfl);have E:¬k=7:=λe=>c (A5 (by rw[e]));refine⟨rfl,rfl,At (λc=>?_) (λc=>?_)⟩;have e:k=8:=V.int.inj (Bd c);exact m (.tup (.cons n (.cons M (.cons (.lst b (.cons D (.cons tu .nil)) AR) (.cons (.str _) .nil)))) EG) (by unfold DH;rw[Ag l,Ag A,Ag B,Ag C,Ag E,Ap e];rfl);have I:¬k=8:=λe=>c (A5 (by rw[e]));refine⟨rfl,rfl,At (λc=>?_) (λc=>?_)⟩;have e:k=9:=V.int.inj (Bd c);exact m (.tup (.cons n (.cons (.lst b (.cons D (.cons .non .nil)) AR) (.cons (.lst b (.cons D (.cons G .nil)) AR) (.cons (.str _) .nil)))) EG) (by unfold DH;rw[Ag l,Ag A,Ag B,Ag C,Ag E,Ag I,Ap e];rfl);have N:¬k=9:=λe=>c (A5 (by rw[e]));refine⟨rfl,rfl,At (λc=>?_) (λc=>?_)⟩;have e:k=11:=V.int.inj (Bd c);exact m (.tup (.cons n (.cons (.lst b (.cons D (.cons .non .nil)) AR) (.cons (.lst b (.cons G .nil) Fn) (.cons (.str _) .nil)))) EG) (by unfold DH;rw[Ag l,Ag A,Ag B,Ag C,Ag E,Ag I,Ag N,Ap e];rfl);have W:¬k=11:=λe=>c (A5 (by rw[e]));refine⟨rfl,rfl,At (λc=>?_) (λc=>?_)⟩;have e:k=13:=V.int.inj (Bd c);exact m (.tup (.cons n (.cons (.lst b (.cons .non (.cons J .nil)) AR) (.cons (.lst b (.cons br (.cons tu .nil)) AR) (.cons (.str _) .nil)))) EG) (by unfold DH;rw[Ag l,Ag A,Ag B,Ag C,Ag E,Ag I,Ag N,Ag W,Ap e];rfl);have ab:¬k=13:=λe=>c (A5 (by rw[e]));refine⟨rfl,rfl,At (λc=>?_) (λc=>?_)⟩;have e:k=14:=V.int.inj (Bd c);exact m (.tup (.cons n (.cons (.lst b (.cons J (.cons zt .nil)) AR) (.cons (.lst b (.cons G (.cons br .nil)) AR) (.cons (.str _) .nil)))) EG) (by unfold DH;rw[Ag l,Ag A,Ag B,Ag C,Ag E,Ag I,Ag N,Ag W,Ag ab,Ap e];rfl);have aq:¬k=14:=λe=>c (A5 (by rw[e]));exact m (.tup (.cons n (.cons M (.cons (.lst b (.cons D .nil) Fn) (.cons (.str _) .nil)))) EG) (by unfold DH;rw[Ag l,Ag A,Ag B,Ag C,Ag E,Ag I,Ag N,Ag W,Ag ab,Ag aq];rfl)
def D9 (ns:E') (j:Nat):Int:=if j=0 then AS ns 4%2 else AS ns 4/2%2
abbrev dC (ns:E') (j:Nat):Int:=AS ns (6+j)/16
abbrev ET (nm:I') (x:Str):I':=nm.filter λy=>!decide (V.str y=V.str x)
abbrev SU (lb nm:I') (st c:Int) (x:Str):List CA:=[(lb.getD st.toNat default,(ET nm x).getD (c%2).toNat default,f',c%12),(lb.getD (1-st).toNat default,x,f',c/3%12)]
def Ku (lb nm:I') (st c:Int) (x:Str):List CA:=(SU lb nm st c x).take (c/2%3).toNat
def SV(ns:E')(j:Nat):D9 ns j=0\/D9 ns j=1:=by unfold D9;split<;>lia
inductive CO (K:Aj) (vs:S') (H:Hp) (Q:VK):Prop where
 |mk (a L N:Addr) (ns:E') (j:Nat) (lb nm:I') (x:Str) (h0:vs=[.ref a,.int j,.ref L,.ref N,.str x]) (h1:Ai K H a (ns.map V.int)) (h2:j<8) (h3:H L=some (.lst (lb.map V.str))) (h4:H N=some (.lst (nm.map V.str))) (h5:lb.length=2) (h6:(ET nm x).length=2) (h7:nm.length<=40) (h8:∀(r M:Addr)(mt:G')(H':Hp),Ad H H'->H' r=some (.tup [.str (lb.getD (D9 ns j).toNat default),.ref M])->H' M=some (.lst (mt.map V.ref))->RT CB H' mt (Ku lb nm (D9 ns j) (dC ns j) x)->Q (.ref r) H'):CO K vs H Q
def ZI (K:Aj):Sp:=λvs H Q ζ=>CO K vs H Q
abbrev SW(P w K mg base):=BG P w K mg base "_law_others" 2 ["_law_script", "_law_j", "_law_labels", "_law_names_here", "_law_name"] (ZI K)
set_option tactic.hygienic true in
theorem ZJ(B:BH mg)(I:L9 P w K mg base)(F:Bt K "_law_others" "_law_others" OM f fd)(hm:mg "_law_others" = some (.ref f)):SW P w K mg base:=by
 refine BZ F hm Ob (λvs ag ah ai h=>?_) (λa4 ax a5 ay ag vs ah ai Q h=>?_);obtain⟨a,L,N,b,j,g,d,x,rfl,_⟩:=h;rfl;obtain⟨a,L,N,b,j,g,d,x,rfl,G,hj,H,R,ll,a2,ln,aj⟩:=h
 refine⟨_,(Al (AU (i:=5) Ob.nd (AB AC (A1 (Aa (AG Cv (AV I (Aa (pv 0) (Aa Ah Ac))) Ah) (Aa (AG Cv (AG Ew (AV I (Aa (pv 0) (Aa Ah Ac))) Ah) Ah) Ac))) (Mw TL B.b_int (Aa (K2 J1 (pv 1) Ah (Bs _)) Ac))))
  (Al (AU (i:=6) Ob.nd (AG Ew (AV I (Aa (pv 0) (Aa (AG Ev Ah (pv 1)) Ac))) Ah))
  (Al (AU (i:=7) Ob.nd (AB AC (Hc rfl Cd (Dy (pv 3)) (λζ ζ ζ ζ ζ=>(Ar (i:=0) Cd.nd)) (λζ ζ ζ ζ ζ=>(Hb (Bx Mv (pv 0) (pv 1) (Bs _)))) (λζ ζ ζ ζ ζ=>(pv 0))) (AG Cv (pv 6) Ah)))
  (Al (AU (i:=8) Ob.nd (A1 (Aa (AD (Aa (AB AC (pv 2) (pv 5)) (Aa (pv 7) (Aa AH (Aa (AG Cv (pv 6) Ah) Ac))))) (Aa (AD (Aa (AB AC (pv 2) (AG Mt Ah (pv 5))) (Aa (pv 4) (Aa AH (Aa (AG Cv (AG Ew (pv 6) Ah) Ah) Ac))))) Ac))))
  (Ax (AJ (AD (Aa (AB AC (pv 2) (pv 5)) (Aa (Ru Rx (pv 8) Rr (Rs (AG Cv (AG Ew (pv 6) Ah) Ah))) Ac))))))))),?_⟩
 rfl';refine⟨a,b,4,rfl,by decide,G,(by show(0:Int)<2;decide),a,b,4,rfl,by decide,G,⟨by decide,by decide⟩,(by show(0:Int)<2;decide),AR,λaz hl=>?_⟩;obtain⟨ak,al,v,el⟩:=new_at (o:=.lst [.int (AS b 4%2),.int (AS b 4/2%2)]) hl;rw[<-al];have an:BW [V.int (AS b 4%2),.int (AS b 4/2%2)] (if decide ((0:Int)<j)=true then 1 else 0)=some (.int (D9 b j)):=(by unfold D9;by_cases e:j=0;rw[Ag (λz=>by have:=Bd z;lia),Ap e];exact BJ (j:=0) rfl;rw[Ap (A5 (by lia)),Ag e];exact BJ (j:=1) rfl);refine j' ⟨_,rfl,j9 ⟨_,.int (D9 b j),Ai.of el,an,a,b,6+(j:Int),rfl,by lia,v.seq G,⟨by decide,by decide⟩,?_⟩⟩;refine Bz ?_;generalize S:List.set _ 6 _=σ;obtain rfl:σ=[some (.ref a),some (.int j),some (.ref L),some (.ref N),some (.str x),some (.int (D9 b j)),some (.int (dC b j)),none,none]:=S.symm;clear S;refine⟨⟨_,Ai.of (v _ _ R)⟩,UC (xs:=d.map V.str) (λD i q T=>Ad ak T/\T D=some (.lst q)/\q=(ET (d.take i) x).map V.str) (λD y=>⟨A9 y,Ab,by rw[D6];rfl⟩) (λD i q Z p=>Ai.of (p.1 _ _ (v _ _ R))) (λD i a0 q Z RR R0 y hy p k k0=>?_) (λD q Z y p=>?_)⟩;obtain⟨A,s,rfl⟩:=p;obtain⟨z,U,rfl⟩:=getm hy;have hi:=(Bi.mp U).1;have W:d.take (i+1)=d.take i++[z]:=by rw[En,U];rfl
 refine⟨rfl,rfl,At (λc=>?_) (λc=>?_)⟩;refine k _ _ s (by rw[An];exact BX (by have:(ET (d.take i) x).length<=(d.take i).length:=OK _ _;rw[Dx] at this;lia)) ⟨λa1 o e=>by rw[AI (Be e y)];exact A _ _ e,Ab,?_⟩;unfold ET;rw[W,M1,Bh,KA,Ap c];rfl;refine k0 _ ⟨A,s,?_⟩;unfold ET;rw[W,M1,KA,Ag c];show _=List.map _ (_++[]);rw[DR];obtain⟨A,s,rfl⟩:=p;rw[An,Dw] at s;have m0:=Et (dC b j) (by decide:(2:Int)≠0);have m1:=Fi (dC b j) (by decide:(0:Int)<2)
 have E:∀{xs:I'}{z:Int},0<=z->z<xs.length->BW (xs.map V.str) z=some (.str (xs.getD z.toNat default)):=λ{xs z}h0 u=>by
  obtain⟨n,rfl⟩:=DJ h0;have l:n<xs.length:=(by lia);rw[BF,Dv,AM l];exact BJ (by rw[Bf,AM l];rfl)
 have a3:=SV b j;have aa:=v.trans A;refine⟨(by show(0:Int)<2;decide),j9 ⟨_,_,Ai.of s,E m0 (by lia),?_⟩⟩;refine j9 ⟨_,_,Ai.of (aa _ _ H),E (by lia) (by lia),(by show(0:Int)<12;decide),EG,λm ao=>?_⟩;obtain⟨H3,aq,s3,e1⟩:=new_at (o:=.tup (CB (g.getD (D9 b j).toNat default,(ET d x).getD (dC b j%2).toNat default,f',dC b j%12))) ao;rw[<-aq];have ab:=aa.trans s3;refine j9 ⟨_,_,Ai.of (ab _ _ H),E (z:=1-D9 b j) (by lia) (by lia),⟨by decide,by decide⟩,(by show(0:Int)<12;decide),EG,λJ ar=>?_⟩;obtain⟨H4,au,s4,e2⟩:=new_at (o:=.tup (CB (g.getD (1-D9 b j).toNat default,x,f',dC b j/3%12))) ar;rw[<-au];refine⟨AR,λB hB=>?_⟩;obtain⟨H5,av,X,eB⟩:=new_at (o:=.lst [.ref m,.ref J]) hB;rw[<-av];have ae:=s4.trans X;have af:=ab.trans ae;have c0:=Et (dC b j/2) (by decide:(3:Int)≠0);refine j9 ⟨_,_,Ai.of (af _ _ H),E (by lia) (by lia),⟨by decide,by decide⟩,(by show(0:Int)<3;decide),_,rfl,B,_,rfl,Ai.of eB,λM hM=>?_⟩;have ec:E9 [.ref m,.ref J] none (some (dC b j/2%3))=([m,J].take (dC b j/2%3).toNat).map V.ref:=(by obtain⟨n,l⟩:=DJ c0;rw[l,BF,Qs];exact RJ _ _);rw[ec];obtain⟨H6,aw,s6,eM⟩:=new_at (o:=.lst (([m,J].take (dC b j/2%3).toNat).map V.ref)) hM;rw[<-aw];refine⟨AR,λr Q=>?_⟩;have Y:=A9 (o:=.tup [.str (g.getD (D9 b j).toNat default),.ref M]) Q;have O:=s6.trans Y;have T2:RT CB (upd H6 r (.tup [.str (g.getD (D9 b j).toNat default),.ref M])) ([]++[m]++[J]) ([]++[_]++[_]):=(RT.nil.snoc (r:=(g.getD (D9 b j).toNat default,(ET d x).getD (dC b j%2).toNat default,f',dC b j%12)) ((ae.trans O) _ _ e1)).snoc (r:=(g.getD (1-D9 b j).toNat default,x,f',dC b j/3%12)) ((X.trans O) _ _ e2);refine aj r M ([m,J].take (dC b j/2%3).toNat) _ (af.trans O) Ab (Y _ _ eM) ⟨?_,λn t z u C=>?_⟩;unfold Ku;rw[Dx,Dx];rfl;unfold Ku at C;rw[List.getElem?_take] at u C;split at u;rename_i l;rw[Ap l] at C;exact T2.at_ n t z u C;cases u
abbrev Fe (ns:E'):I':=GC (AS ns 0) 3
abbrev FW (ns:E'):I':=GC (AS ns 1) 2
def dn (ns:E'):Nat:=(1+AS ns 2%6).toNat
def MX(ns:E'):1<=dn ns/\dn ns<=6:=by unfold dn;lia
abbrev Ma (ns:E'):E':=Im (AS ns 3*48271%2147483647) 6
abbrev JA (ns:E') (z:Int):Str:=(Fe ns).getD (z%3).toNat default
def dP (ns:E'):I':=((Ma ns).take (dn ns)).map (JA ns)
def Oo(ns:E'):(dP ns).length=dn ns:=by have:=MX ns;unfold dP;rw[An,Dx,P5];lia
abbrev dp (ns:E') (j:Nat):Str:=(dP ns).getD j default
abbrev EU (ns:E') (j:Nat):Ij:=DH (FH ns j) (dT ns j) (dU ns j) (dQ ns j) (dR ns j) (DZ ns j)
abbrev GD (ns:E') (j:Nat):Nat:=((AS ns 2/6+j)%8).toNat
abbrev GF (ns:E') (j:Nat):Str:=(FW ns).getD (D9 ns j).toNat default
def MY (ns:E') (j:Nat):List CA:=Ku (FW ns) (Fe ns) (D9 ns j) (dC ns j) (dp ns j)++(EU ns j).ms.map λg=>(GF ns j,dp ns j,g.1,g.2)
def Ff (ns:E'):Nat->J'
 |0=>List.replicate 12 ("plain",0)
 |j+1=>((Ff ns j).set (dT ns j).toNat (EU ns j).b0).set (dU ns j).toNat (EU ns j).b1
def EV (ns:E'):Nat->List EF
 |0=>List.replicate 13 none
 |j+1=>((EV ns j).set (dQ ns j).toNat (EU ns j).k0).set (dR ns j).toNat (EU ns j).k1
def EW (ns:E'):Nat->List BC
 |0=>List.replicate 8 ([],[])
 |j+1=>(EW ns j).set (GD ns j) ([],MY ns j)
abbrev Dd (ns:E'):Nat:=((AS ns 4/48+12)%13).toNat
abbrev Op (ns:E') (i:Nat):V':=(List.range i).map λk:Nat=>(AS ns 2/6%8,AS ns 4%2,[JA ns k])
def FI (ns:E'):V':=(Op ns 13).set (Dd ns) (AS ns 2/6%8,AS ns 4%2,dP ns)
theorem Oq(ns:E'):∀j,(Ff ns j).length=12
 |0=>rfl
 |j+1=>by unfold Ff;rw[Er,Er,Oq ns j]
theorem MZ(ns:E'):∀j,(EV ns j).length=13
 |0=>rfl
 |j+1=>by unfold EV;rw[Er,Er,MZ ns j]
theorem SX(ns:E'):∀j,(EW ns j).length=8
 |0=>rfl
 |j+1=>by unfold EW;rw[Er,SX ns j]
theorem Wf(ns:E'):∀j i,j<=i->i<8->(EW ns j)[GD ns i]?=some ([],[])
 |0,i,_,a=>by show(List.replicate 8 _)[_]?=_;rw[List.getElem?_replicate,Ap (by unfold GD;lia)]
 |j+1,i,h,a=>by unfold EW;rw[n8 (by unfold GD;lia)];exact Wf ns j i (by lia) a
def JB{xs:I'}{z:Int}(b:0<=z)(c:z<xs.length):BW (xs.map V.str) z=some (.str (xs.getD z.toNat default)):=by obtain⟨n,rfl⟩:=DJ b;have a:n<xs.length:=(by lia);rw[BF,Dv,AM a];exact BJ (by rw[Bf,AM a];rfl)
def Kv(ns:E')(b:i<dn ns):∃z:Int,(dP ns)[i]?=some (JA ns z):=by
 have h:=MX ns;have a:i<((Ma ns).take (dn ns)).length:=by rw[Dx,P5];lia
 exact⟨_,by unfold dP;rw[Bf,AM a];rfl⟩
def Ot(ns:E')(b:i<dn ns):BW ((dP ns).map V.str) (i:Int)=some (.str (dp ns i)):=by obtain⟨z,a⟩:=Kv ns b;exact BJ (by rw[Bf,a];show _=some (V.str ((dP ns).getD i default));rw[Dv,a];rfl)
def Ou(ns:E')(b:i<dn ns):dp ns i∈Fe ns:=by
 obtain⟨z,c⟩:=Kv ns b;have e:dp ns i=JA ns z:=by show(dP ns).getD i default=_;rw[Dv,c];rfl
 rw[e];have a:(z%3).toNat<(Fe ns).length:=by rw[MW];lia
 show(Fe ns).getD (z%3).toNat default∈_;rw[Dv,AM a];exact Eo a
theorem Wg{x:Str}:∀{a:I'},x∉a->ET a x=a
 |[],_=>rfl
 |y::a,h=>by have ne:¬V.str y=V.str x:=λe=>h (by cases e;exact BS);unfold ET;rw[KA,Ap (by rw[DS ne];rfl)];exact By (y::·) (Wg λm=>h (Du _ m))
theorem Wh{x:Str}:∀{a:I'},a.Nodup->x∈a->(ET a x).length+1=a.length
 |[],_,h=>by cases h
 |y::a,b,h=>by
   obtain⟨c,d⟩:=Fh.mp b;unfold ET;rw[KA];by_cases e:V.str y=V.str x;cases e;rw[Ag (by rw[A5 rfl];exact Ce)];show(ET a x).length+1=_;rw[Wg c];rfl;rw[Ap (by rw[DS e];rfl)];have f:x∈a:=(by rcases BB.mp h with z|z;exact absurd (by rw[z]) e;exact z);show(ET a x).length+1+1=a.length+1;rw[Wh d f]
def Wi(ns:E')(a:i<dn ns):(ET (Fe ns) (dp ns i)).length=2:=by have h:(ET (Fe ns) (dp ns i)).length+1=3:=(Wh (SN (by decide)) (Ou ns a)).trans (MW _ _);exact Nat.succ.inj h
def Wj(k t u q r a:Int):(DH k t u q r a).ms.length<=2:=by
 unfold DH LW
 repeat' split
 all_goals first|exact Dp 2|exact Nat.le_succ 1|exact AK 2
def Wk(a b:I')(st c:Int)(x:Str):(Ku a b st c x).length<=2:=by unfold Ku;rw[Dx];exact Nat.min_le_right _ _
abbrev JC (ns:E'):Str:=(FW ns).getD 0 default
abbrev JD (ns:E'):Str:=(FW ns).getD 1 default
abbrev JE (ns:E'):List DU:=[([],[JC ns]),([],[JD ns])]
abbrev F7 (ns:E'):Int:=AS ns 4/2%2
abbrev De (ns:E'):A':=[(JC ns,JD ns)].take (AS ns 4/624%2).toNat
inductive DN (K:Aj) (vs:S') (H:Hp) (Q:VK):Prop where
 |mk (a:Addr) (ns:E') (h0:vs=[.ref a]) (h1:Ai K H a (ns.map V.int)) (h2:∀(r nt t A S T R:Addr)(us Gs Es ts qt:G')(v1:S')(H':Hp),Ad H H'->H' r=some (.tup [.ref nt,.ref t,.ref A])->H' nt=some (.tup [.ref S,.ref T,.ref R])->ED H' S T R us Gs Es ts qt (EW ns (dn ns)) (Ff ns (dn ns)) (FI ns)->H' A=some (.lst v1)->Am LR H' v1 ((EV ns (dn ns)).map Bb)->F1 K (λζ=>True) H' t (JE ns) (F7 ns) (De ns)->Q (.ref r) H'):DN K vs H Q
def ZK (K:Aj):Sp:=λvs H Q ζ=>DN K vs H Q
abbrev P8(P w K mg base):=BG P w K mg base "_law_made" 3 ["_law_script"] (ZK K)
set_option tactic.hygienic true in
theorem ZL(B:BH mg)(b7:SO P w K mg base)(a2:L9 P w K mg base)(cA:SR P w K mg base)(cB:P6 P w K mg base)(cC:P7 P w K mg base)(cD:SW P w K mg base)(F:Bt K "_law_made" "_law_made" Iq f fd)(hm:mg "_law_made" = some (.ref f)):P8 P w K mg base:=by
 refine BZ F hm Ds (λvs c5 c6 c7 h=>?_) (λe8 A eU e3 c5 vs c6 c7 hr h=>?_);obtain⟨a,c,rfl,_⟩:=h;rfl;obtain⟨a,c,rfl,hS,q⟩:=h
 refine⟨_,(Al (AU (i:=1) Ds.nd (AV b7 (Aa (AV a2 (Aa (pv 0) (Aa Ah Ac))) (Aa Ah Ac))))
  (Al (AU (i:=2) Ds.nd (AV b7 (Aa (AV a2 (Aa (pv 0) (Aa Ah Ac))) (Aa Ah Ac))))
  (Al (AU (i:=3) Ds.nd (AV a2 (Aa (pv 0) (Aa Ah Ac))))
  (Al (AU (i:=4) Ds.nd (AV a2 (Aa (pv 0) (Aa Ah Ac))))
  (Al (AU (i:=5) Ds.nd (AV cA (Aa (AG Cv (AG JY (AV a2 (Aa (pv 0) (Aa Ah Ac))) Ah) Ah) (Aa Ah Ac))))
  (Al (AU (i:=6) Ds.nd (Hc (te:=EI (Ie K) (Bj 1) (EI (rI (λζ j=>0<j) λi j=>.int (i%j)) (Bj 0) (tC (.int ((3:Nat):Int))))) rfl CH (Dy (Ru Rx (pv 5) Rr (Rs (AG Ev Ah (AG Cv (pv 3) Ah))))) (λζ ζ ζ ζ ζ=>(Ar (i:=0) CH.nd)) (λζ ζ ζ ζ ζ=>Gu) (λζ ζ ζ ζ ζ=>(AB AC (pv 1) (AG Cv (pv 0) Ah)))))
  (Al (O8 (i:=7) Ds.nd rfl (j9 rfl) rfl CI (Ib rfl B.b_range (Aa Ah Ac)) (λζ ζ ζ ζ ζ=>(Ar (i:=0) CI.nd)) (λζ ζ ζ ζ ζ=>Gu) (λζ ζ ζ ζ ζ=>(AD (Aa (A1 Ac) (Aa (A1 Ac) Ac)))))
  (Al (O8 (i:=8) Ds.nd rfl (j9 rfl) rfl CJ (Ib rfl B.b_range (Aa Ah Ac)) (λζ ζ ζ ζ ζ=>(Ar (i:=0) CJ.nd)) (λζ ζ ζ ζ ζ=>Gu) (λζ ζ ζ ζ ζ=>(AD (Aa AH (Aa Ah Ac)))))
  (Al (O8 (i:=9) Ds.nd rfl (j9 rfl) (te:=C3 (Cr (EI (rI (λζ j=>0<j) λi j=>.int (i%j)) (EI (rI Nl λi j=>.int (i/j)) (Bj 2) (tC (.int ((6:Nat):Int)))) (tC (.int ((8:Nat):Int)))) (Cr (EI (rI (λζ j=>0<j) λi j=>.int (i%j)) (Bj 1) (tC (.int ((2:Nat):Int)))) (Cr (C3 (Cr (EI (Ie K) (Bj 3) (EI (rI (λζ j=>0<j) λi j=>.int (i%j)) (Bj 0) (tC (.int ((3:Nat):Int))))) Cg)) Cg)))) rfl CK (Ib rfl B.b_range (Aa Ah Ac)) (λζ ζ ζ ζ ζ=>(Ar (i:=0) CK.nd)) (λζ ζ ζ ζ ζ=>Gu) (λζ ζ ζ ζ ζ=>(AD (Aa (AG Cv (AG Ew (pv 2) Ah) Ah) (Aa (AG Cv (pv 1) Ah) (Aa (AD (Aa (AB AC (pv 3) (AG Cv (pv 0) Ah)) Ac)) Ac))))))
  (Al (O8 (i:=10) Ds.nd rfl (j9 rfl) rfl CL (Ib rfl B.b_range (Aa Ah Ac)) (λζ ζ ζ ζ ζ=>(Ar (i:=0) CL.nd)) (λζ ζ ζ ζ ζ=>Gu) (λζ ζ ζ ζ ζ=>Ci))
  (Al (Cf (AD (Aa (AG Cv (AG Ew (pv 3) Ah) Ah) (Aa (AG Cv (pv 4) Ah) (Aa (Mw W2 B.b_tuple (Aa (pv 6) Ac)) Ac)))) (JX (pv 9) (AG Cv (AG Ev (AG Ew (pv 4) Ah) Ah) Ah) Mx))
  (Al (Dq C0 rfl (Ib rfl B.b_range (Aa (CZ GL B.b_len (Aa (pv 6) Ac)) Ac)) (Ar (i:=11) Ds.nd) (Al (Cf (AV cB (Aa (pv 0) (Aa (pv 11) Ac))) (BO (n:=6) rfl (Az (Ar (i:=12) Ds.nd) (Az (Ar (i:=13) Ds.nd) (Az (Ar (i:=14) Ds.nd) (Az (Ar (i:=15) Ds.nd) (Az (Ar (i:=16) Ds.nd) (Az (Ar (i:=17) Ds.nd) BN))))))))
   (Al (Cf (AV cC (Aa (pv 12) (Aa (pv 13) (Aa (pv 14) (Aa (pv 15) (Aa (pv 16) (Aa (pv 17) Ac))))))) (BO (n:=4) rfl (Az (Ar (i:=18) Ds.nd) (Az (Ar (i:=19) Ds.nd) (Az (Ar (i:=20) Ds.nd) (Az (Ar (i:=21) Ds.nd) BN))))))
   (Al (Cf (AB AC (pv 18) Ah) (JX (pv 8) (pv 13) Mx))
   (Al (Cf (AB AC (pv 18) Ah) (JX (pv 8) (pv 14) Mx))
   (Al (Cf (AB AC (pv 19) Ah) (JX (pv 10) (pv 15) Mx))
   (Al (Cf (AB AC (pv 19) Ah) (JX (pv 10) (pv 16) Mx))
   (Al (Cf (AV cD (Aa (pv 0) (Aa (pv 11) (Aa (pv 2) (Aa (pv 1) (Aa (AB AC (pv 6) (pv 11)) Ac)))))) (BO (n:=2) rfl (Az (Ar (i:=22) Ds.nd) (Az (Ar (i:=23) Ds.nd) BN))))
   (Al (AU (i:=23) Ds.nd (AG My (pv 23) (Hc (te:=C3 (Cr (Bj 1) (Cr (EI (Ie K) (Bj 2) (Bj 3)) (Cr (EI (Ie K) (Bj 0) (tC (.int ((0:Nat):Int)))) (Cr (EI (Ie K) (Bj 0) (tC (.int ((1:Nat):Int)))) Cg))))) rfl CM (Dy (pv 20)) (λζ ζ ζ ζ ζ=>(Ar (i:=0) CM.nd)) (λζ ζ ζ ζ ζ=>Gu) (λζ ζ ζ ζ ζ=>(AD (Aa (pv 1) (Aa (AB AC (pv 2) (pv 3)) (Aa (AB AC (pv 0) Ah) (Aa (AB AC (pv 0) Ah) Ac)))))))))
   (Ax (E8 (EJ E6 PySem.F.slot_list_extend PySem.F.type_list_extend ME (AB AC (AB AC (pv 7) (AG Cv (AG Ev (AG Ew (pv 3) Ah) (pv 11)) Ah)) Ah) (Aa (pv 23) Ac)))))))))))))
  (Al (AU (i:=24) Ds.nd (A1 (Aa (AD (Aa (A1 Ac) (Aa (A1 (Aa (AB AC (pv 2) Ah) Ac)) Ac))) (Aa (AD (Aa (A1 Ac) (Aa (A1 (Aa (AB AC (pv 2) Ah) Ac)) Ac))) Ac))))
  (Al (AU (i:=25) Ds.nd (A1 (Aa (AD (Aa (AB AC (pv 2) Ah) (Aa (AB AC (pv 2) Ah) Ac))) Ac)))
  (Al (AU (i:=26) Ds.nd (AD (Aa (pv 24) (Aa (AG Cv (AG Ew (pv 4) Ah) Ah) (Aa (Ru Rx (pv 25) Rr (Rs (AG Cv (AG Ew (pv 4) Ah) Ah))) Ac)))))
  (Ax (AJ (AD (Aa (AD (Aa (pv 7) (Aa (pv 8) (Aa (pv 9) Ac)))) (Aa (pv 26) (Aa (pv 10) Ac))))))))))))))))))))),?_⟩
 rfl';have lN:(Fe c).length=3:=MW _ _;have lL:(FW c).length=2:=MW _ _;have ⟨n1,n6⟩:=MX c;refine⟨a,c,0,rfl,by decide,hS,_,3,rfl,by decide,by decide,λN e4 hN s1 eN=>?_⟩;refine⟨a,c,1,rfl,by decide,s1.seq hS,_,2,rfl,by decide,by decide,λL e5 hL s2 eL=>?_⟩;have aK:=s1.trans s2;refine⟨a,c,2,rfl,by decide,aK.seq hS,a,c,4,rfl,by decide,aK.seq hS,a,c,3,rfl,by decide,aK.seq hS,j' ⟨by decide,by decide⟩,(by show(0:Int)<2147483647;decide),_,6,rfl,by decide,λR0 H3 e9 s3 cE=>?_⟩;refine Bz ?_;have cF:=aK.trans s3;refine⟨(by show(0:Int)<6;decide),_,rfl,R0,_,rfl,Ai.of cE,λP0 cG=>?_⟩
 have ec:E9 ((Ma c).map V.int) none (some (1+AS c 2%6))=((Ma c).take (dn c)).map V.int:=by
  have:1+AS c 2%6=(dn c:Int):=by unfold dn;lia
  rw[this,Qs];exact RJ _ _
 rw[ec];obtain⟨H4,cH,s4,b8⟩:=new_at (o:=.lst (((Ma c).take (dn c)).map V.int)) cG;rw[<-cH];have aL:=((s2.trans s3).trans s4) _ _ eN;refine⟨⟨_,Ai.of b8⟩,MG (xs:=((Ma c).take (dn c)).map V.int) (λD i l s=>Ad H4 s/\s D=some (.lst l)/\l=(((Ma c).take (dn c)).take i).map λr=>V.str (JA c r)) (λD u=>⟨A9 u,Ab,by rw[D6];rfl⟩) (λD i l H5 p=>Ai.of (p.1 _ _ b8)) (λD i x l H5 RR u d p k=>?_) (λP l H5 hP p=>?_)⟩;obtain⟨W,J,rfl⟩:=p;obtain⟨z,hz,rfl⟩:=getm d;refine⟨(by show(0:Int)<3;decide),j9 ⟨_,_,Ai.of (W _ _ aL),JB (xs:=Fe c) (z:=z%3) (by lia) (by rw[lN];lia),?_⟩⟩;refine k _ _ J (by rw[An];exact BX (by rw[Dx,Dx,P5];lia)) ⟨λb o e=>by rw[AI (Be e u)];exact W _ _ e,Ab,?_⟩;rw[En,hz,Bh];rfl;obtain⟨W,eP,rfl⟩:=p;have eP:H5 P=some (.lst ((dP c).map V.str)):=(by rw[eP];unfold dP;rw[An,Dw,D1];rfl);refine Bz ?_;generalize E:List.set _ 6 _=σ;obtain rfl:σ=[some (.ref a),some (.ref N),some (.ref L),some (.int (AS c 2)),some (.int (AS c 4)),some (.ref R0),some (.ref P),none,none,none,none,none,none,none,none,none,none,none,none,none,none,none,none,none,none,none,none]:=E.symm;clear E;have aM:=cF.trans (s4.trans W)
 refine⟨by decide,by decide,NI (lo:=0) (n:=8) (λD i l s=>∃us v C:G',l=us.map V.ref/\Ad H5 s/\C4 s D us v C (List.replicate i (([],[]):BC))/\(D::(v++C)).Nodup/\∀x∈v++C,H5 x=none)
  (λD u=>⟨[],[],[],rfl,A9 u,C4.nil Ab,by simp,λx d=>by simp at d⟩) (λD i l H7 RR u hi hv k=>?_) (λS l H7 eC hv=>?_)⟩
 refine AZ λNz I=>?_;obtain⟨us,v,C,rfl,s7,SC,nd,ba⟩:=hv;refine I ?_;clear I;have b9:=SC.lu;rw[m6] at b9;refine⟨by decide,λG hG=>?_⟩;obtain⟨H8,cI,O,eG⟩:=new_at (o:=.lst []) hG;rw[<-cI];refine⟨by decide,λQ aa=>?_⟩;obtain⟨H9,bb,t2,cJ⟩:=new_at (o:=.lst []) aa;rw[<-bb];refine⟨AR,λaz hu=>?_⟩;obtain⟨Y,bp,t3,eu⟩:=new_at (o:=.tup [.ref G,.ref Q]) hu;rw[<-bp];have bA:=(O.trans t2).trans t3;have cK:=t2.trans t3;have bB:=SC.same bA;have al:=SC.alive
 have nG:G∉D::(v++C):=λy=>by
  rcases BB.mp y with y|y;rw[y,SC.top] at hG;cases hG;obtain⟨xs,e⟩:=al G y;rw[e] at hG;cases hG
 have nE:Q∉D::(v++C):=λy=>by
  rcases BB.mp y with y|y;rw[y,O _ _ SC.top] at aa;cases aa;obtain⟨xs,e⟩:=al Q y;rw[O _ _ e] at aa;cases aa
 have cL:G≠Q:=λy=>by rw[<-y,eG] at aa;cases aa
 have cM:GQ Y az G Q ([],[]):=⟨eu,⟨[],cK _ _ eG,RT.nil⟩,⟨[],t3 _ _ cJ,RT.nil⟩⟩;have cN:=bB.snoc cM (λz=>nG (z▸BS)) (λz=>nE (z▸BS)) (λx d z=>(Fh.mp nd).1 (z▸d));refine k _ _ bB.top (by rw[An,b9];exact BX (by lia)) ⟨us++[az],v++[G],C++[Q],by rw[Bh];rfl,λb o e=>?_,?_,XE nd nG nE cL,λx d=>?_⟩;rw[AI (Be e u)];exact bA _ _ (s7 _ _ e);rw[List.replicate_succ'];exact cN;have:x∈v++C\/x=G\/x=Q:=(by simp only[BI,AX] at d ⊢;rcases d with(h|h)|(h|h);exact .inl (.inl h);exact .inr (.inl h);exact .inl (.inr h);exact .inr (.inr h));rcases this with h|h|h;exact ba x h;rw[h];exact s7.free hG;rw[h];exact(s7.trans O).free aa;refine AZ λNz I=>?_;obtain⟨us,v,C,rfl,s7,an,nd,ba⟩:=hv;refine I ?_;clear I;refine⟨by decide,by decide,NI (lo:=0) (n:=12) (λD i l s=>∃gt:G',l=gt.map V.ref/\Ad H7 s/\s D=some (.lst l)/\GT s gt (List.replicate i (j3,(0:Int)))) (λD u=>⟨[],rfl,A9 u,Ab,GT.nil⟩) (λD i l H8 RR u hi p k=>?_) (λT l H8 hT p=>?_)⟩;obtain⟨gt,rfl,s8,J,T8⟩:=p;refine⟨AR,λtw bc=>?_⟩;obtain⟨H9,bb,O,bd⟩:=new_at (o:=.tup [.str "plain",.int 0]) bc;rw[<-bb];refine k _ _ (O _ _ J) (by rw[An,T8.len,m6];exact BX (by lia)) ⟨gt++[tw],by rw[Bh];rfl,λb o e=>by rw[AI (Be e u)];exact O _ _ (s8 _ _ e),Ab,?_⟩;rw[List.replicate_succ'];exact((T8.same O).snoc (p:=(j3,(0:Int))) bd).updL (O _ _ J);obtain⟨gt,rfl,s8,eT,T8⟩:=p;have aN:=s7.trans s8;have bC:=W.trans aN;refine⟨by decide,by decide,NI (lo:=0) (n:=13) (λD i l s=>∃M:G',l=M.map V.ref/\Ad H8 s/\s D=some (.lst l)/\QT s M (Op c i)) (λD u=>⟨[],rfl,A9 u,Ab,QT.nil⟩) (λD i l H9 RR u hi p k=>?_) (λR l H9 hR p=>?_)⟩;obtain⟨M,rfl,s9,J,TQ⟩:=p;refine⟨⟨by decide,by decide⟩,(by show(0:Int)<8;decide),(by show(0:Int)<2;decide),(by show(0:Int)<3;decide),j9 ⟨_,.str (JA c i),Ai.of ((bC.trans s9) _ _ aL),?_,Fn,λpu be=>?_⟩⟩;rw[Int.zero_add];exact JB (xs:=Fe c) (z:=(i:Int)%3) (by lia) (by rw[lN];lia);obtain⟨Y,bp,O,bf⟩:=new_at (o:=.tup [.str (JA c i)]) be;rw[<-bp];refine⟨Fo,λH bg=>?_⟩;have t2:=A9 (o:=.tup [.int (AS c 2/6%8),.int (AS c 4%2),.ref pu]) bg;have aO:(upd Y H (.tup [.int (AS c 2/6%8),.int (AS c 4%2),.ref pu])) H=some (.tup [.int (AS c 2/6%8),.int (AS c 4%2),.ref pu]):=Ab;show RR (.ref H) (upd Y H (.tup [.int (AS c 2/6%8),.int (AS c 4%2),.ref pu]));generalize upd Y H (.tup [.int (AS c 2/6%8),.int (AS c 4%2),.ref pu])=bh at t2 aO ⊢;have bi:=O.trans t2;have cd:=bi _ _ J;have kD:Keeps (·=D) bh (upd bh D (.lst (M.map V.ref++[.ref H]))):=Keeps.one cd;refine k _ _ cd (by rw[An,TQ.len,An,m5];exact BX (by lia)) ⟨M++[H],by rw[Bh];rfl,λb o e=>by rw[AI (Be e u)];exact bi _ _ (s9 _ _ e),Ab,?_⟩;rw[show Op c (i+1)=Op c i++[(AS c 2/6%8,AS c 4%2,[JA c i])] by unfold Op;rw[List.range_succ,Bh];rfl];exact((TQ.same bi).snoc (q:=(AS c 2/6%8,AS c 4%2,[JA c i])) aO (t2 _ _ bf)).keeps kD;obtain⟨M,rfl,s9,eR,TQ⟩:=p;refine⟨by decide,by decide,NI (lo:=0) (n:=13) (λD i l s=>Ad H9 s/\s D=some (.lst l)/\Am LR s l ((List.replicate i none).map Bb)) (λD u=>⟨A9 u,Ab,.nil⟩) (λD i l Y RR u hi p k=>?_) (λA l Y hA p=>?_)⟩;obtain⟨ao,J,ow⟩:=p;have kD:Keeps (·=D) Y (upd Y D (.lst (l++[.non]))):=Keeps.one J;refine k _ _ J (by rw[ow.length,An,m6];exact BX (by lia)) ⟨λb o e=>by rw[AI (Be e u)];exact ao _ _ e,Ab,?_⟩;rw[List.replicate_succ',Bh];exact((ow.snoc .non).keeps kD λx d=>d.elim);obtain⟨ao,eA,ow⟩:=p;have dL:=aN.trans (s9.trans ao);refine⟨⟨by decide,by decide⟩,(by show(0:Int)<8;decide),(by show(0:Int)<2;decide),P,_,rfl,j9 ⟨Ai.of (dL _ _ eP),λpu be=>?_⟩⟩;obtain⟨bh,dM,a3,bf⟩:=new_at (o:=.tup ((dP c).map V.str)) be;rw[<-dM];refine⟨Fo,λH bg=>?_⟩;obtain⟨af,dN,aq,aO⟩:=new_at (o:=.tup [.int (AS c 2/6%8),.int (AS c 4%2),.ref pu]) bg;rw[<-dN];have dO:=s9.trans (ao.trans (a3.trans aq));have cf:=((ao.trans a3).trans aq) _ _ eR;have dS:=TQ.same ((ao.trans a3).trans aq);have cO:(M.map V.ref).length=13:=(by rw[An,TQ.len,An,m5]);refine⟨⟨by decide,by decide⟩,(by show(0:Int)<13;decide),R,_,_,Dd c,rfl,rfl,cf,MD (by lia) (by rw[cO];lia),?_⟩;have kR:Keeps (·=R) af (upd af R (.lst ((M.map V.ref).set (Dd c) (.ref H)))):=Keeps.one cf;have cg:QT (upd af R (.lst ((M.map V.ref).set (Dd c) (.ref H)))) (M.set (Dd c) H) (FI c):=QT.put (p:=(AS c 2/6%8,AS c 4%2,dP c)) (dS.keeps kR) (kR.tup aO) (kR.tup (aq _ _ bf)) _;have ch:(upd af R (.lst ((M.map V.ref).set (Dd c) (.ref H)))) R=some (.lst ((M.set (Dd c) H).map V.ref)):=(by rw[Ab,List.map_set]);have ax:Ad H8 (upd af R (.lst ((M.map V.ref).set (Dd c) (.ref H)))):=λx o e=>by rw[AI (Be e hR)];exact dO _ _ e
 have bD:A≠R:=λz=>by rw[z,eR] at hA;cases hA
 have bq:(upd af R (.lst ((M.map V.ref).set (Dd c) (.ref H)))) A=some (.lst l):=by rw[AI bD];exact(a3.trans aq) _ _ eA
 have cj:=((ow.same (a3.trans aq)).keeps kR λx d=>d.elim);generalize upd af R (.lst ((M.map V.ref).set (Dd c) (.ref H)))=ag at kR cg ch ax bq cj ⊢;have ck:=an.same (s8.trans ax);have cl:=ax _ _ eT;have cP:=T8.same ax;have aU:=aN.trans ax;have eJ:=aM.trans aU;have dV:=aU _ _ eP;have eQ:=(bC.trans ax) _ _ aL;have eS:=(s3.trans (s4.trans (W.trans aU))) _ _ eL;have lP:((dP c).map V.str).length=dn c:=(by rw[An,Oo]);have ah:H8 A=none:=s9.free hA;have bE:T≠A:=λz=>by rw[<-z,eT] at ah;cases ah
 have fT:T∉v++C:=λy=>by
  obtain⟨xs,e⟩:=an.alive T y;rw[e] at hT;cases hT
 have fA:A∉v++C:=λy=>by
  obtain⟨xs,e⟩:=(an.same s8).alive A y;rw[e] at ah;cases ah
 have bF:¬S=T:=λz=>by rw[<-z,an.top] at hT;cases hT
 have bG:¬S=A:=λz=>by rw[<-z,s8 _ _ an.top] at ah;cases ah
 have cQ:∀x,(x∈v++C\/x=T\/x=A)->H5 x=none:=λx d=>by
  rcases d with h|h|h;exact ba x h;rw[h];exact s7.free hT;rw[h];exact aN.free ah
 have aP:∀{s:Hp},Keeps (λx=>x∈v++C\/x=T\/x=A) ag s->Ad H5 s:=λk x o e=>k.at_ _ _ (aU _ _ e) λm=>by rw[cQ x m] at e;cases e
 refine⟨_,j9 ⟨_,Ai.of dV,rfl⟩,by lia,by lia,Nk (lo:=0) (n:=(((dP c).map V.str).length:Int).toNat) (λi σ s=>∃(a4 a5 a6 a7 a8 a9 aA aB aC aD aE ar au:U')(gt:G')(ai:S'),σ=[some (.ref a),some (.ref N),some (.ref L),some (.int (AS c 2)),some (.int (AS c 4)),some (.ref R0),some (.ref P),some (.ref S),some (.ref T),some (.ref R),some (.ref A),a4,a5,a6,a7,a8,a9,aA,aB,aC,aD,aE,ar,au,none,none,none]/\Keeps (λx=>x∈v++C\/x=T\/x=A) ag s/\C4 s S us v C (EW c i)/\s T=some (.lst (gt.map V.ref))/\GT s gt (Ff c i)/\s A=some (.lst ai)/\Am LR s ai ((EV c i).map Bb)) ⟨none,none,none,none,none,none,none,none,none,none,none,none,none,gt,_,rfl,Keeps.refl λx o m e=>?_,ck,cl,cP,bq,cj⟩ ?_ ?_⟩;rcases m with m|m|m;obtain⟨xs,e'⟩:=ck.alive x m;rw[e'] at e;exact⟨xs,(BU e).symm⟩;rw[m,cl] at e;exact⟨_,(BU e).symm⟩;rw[m,bq] at e;exact⟨_,(BU e).symm⟩;refine λi σ cR hi bj=>AZ λNz I=>?_;obtain⟨a4,a5,a6,a7,a8,a9,aA,aB,aC,aD,aE,ar,au,gt,ai,rfl,av,SC,br,TG,bs,ow⟩:=bj;refine I ?_;clear I;refine Kj ?_;intro Nx Cy;rw[Int.zero_add];have bH:i<dn c:=(by lia);have rK:0<=FH c i:=Et _ (by decide);have rT:0<=dT c i/\dT c i<12:=⟨Et _ (by decide),Fi _ (by decide)⟩;have rU:0<=dU c i/\dU c i<12:=⟨Et _ (by decide),Fi _ (by decide)⟩;have rQ:0<=dQ c i/\dQ c i<13:=⟨Et _ (by decide),Fi _ (by decide)⟩;have rR:0<=dR c i/\dR c i<13:=⟨Et _ (by decide),Fi _ (by decide)⟩;have sK:=aP av;have dW:=aM.trans sK;refine⟨a,c,i,rfl,dW.seq hS,by lia,λr1 eD bk cS=>⟨_,Aq.of cS,rfl,?_⟩⟩;refine⟨FH c i,dT c i,dU c i,dQ c i,dR c i,DZ c i,rfl,by lia,λe6 bI aQ o=>?_⟩;refine AZ λNz I=>?_;obtain⟨r2,B,Kn,ak,b0,X,aY,aZ,c8,rfl,cT,eB,cU,cV,eK,o0,o1,eM,GM,fB,fK,fM⟩:=o.lv;refine I ?_;clear I;refine⟨_,Aq.of cT,rfl,?_⟩;dsimp only[JW,Gp,Go,mC,mN];generalize E:List.set _ 21 _=σ;obtain rfl:σ=[some (.ref a),some (.ref N),some (.ref L),some (.int (AS c 2)),some (.int (AS c 4)),some (.ref R0),some (.ref P),some (.ref S),some (.ref T),some (.ref R),some (.ref A),some (.int i),some (.int (FH c i)),some (.int (dT c i)),some (.int (dU c i)),some (.int (dQ c i)),some (.int (dR c i)),some (.int (DZ c i)),some (.ref B),some (.ref Kn),some (.ref ak),some (.str (EU c i).wd),ar,au,none,none,none]:=E.symm;clear E;have aV:=bk.trans aQ;have aJ:=bk _ _ br;have bt:=bk _ _ bs;have cW:B≠T:=λz=>by rw[z,aJ] at fB;cases fB
 have cX:Kn≠T:=λz=>by rw[z,aJ] at fK;cases fK
 have cY:Kn≠A:=λz=>by rw[z,bt] at fK;cases fK
 have cZ:ak≠T:=λz=>by rw[z,aJ] at fM;cases fM
 have da:ak≠A:=λz=>by rw[z,bt] at fM;cases fM
 have bJ:(gt.map V.ref).length=12:=(by rw[An,TG.len,Oq]);have bK:ai.length=13:=(by rw[ow.length,An,MZ]);have db:=av.same aV;have dX:=SC.same aV;refine j9 ⟨_,.ref b0,Ai.of eB,BJ (j:=0) rfl,T,_,_,_,rfl,rfl,aQ _ _ aJ,MD (by lia) (by rw[bJ];lia),?_⟩;obtain⟨dc,bL,cm,bM,ab⟩:=PR (dT c i).toNat (.ref b0) (aQ _ _ aJ);have dd:Keeps (λx=>x∈v++C\/x=T\/x=A) ag dc:=bL▸db.set (.inr (.inl rfl));rw[bL];refine j9 ⟨_,.ref X,Ai.of ((bM _ cW).trans eB),BJ (j:=1) rfl,T,_,_,_,rfl,rfl,cm,MD (by lia) (by rw[Er,bJ];lia),?_⟩;obtain⟨aF,bN,bu,de,aj⟩:=PR (dU c i).toNat (.ref X) cm;have df:Keeps (λx=>x∈v++C\/x=T\/x=A) ag aF:=bN▸dd.set (.inr (.inl rfl));rw[bN];have dY:GT aF ((gt.set (dT c i).toNat b0).set (dU c i).toNat X) (Ff c (i+1)):=((((TG.same aV).keeps ab).put (p:=(EU c i).b0) (ab.tup cU) _).keeps aj).put (p:=(EU c i).b1) (aj.tup (ab.tup cV)) _;have bu:aF T=some (.lst (((gt.set (dT c i).toNat b0).set (dU c i).toNat X).map V.ref)):=(by rw[bu,List.map_set,List.map_set]);have bv:∀b,b≠T->aF b=bI b:=λb h=>(de b h).trans (bM b h);have dZ:=((ow.same aV).keeps ab λx d=>d.elim).keeps aj λx d=>d.elim;have ea:=(o0.keeps ab λx d=>d.elim).keeps aj λx d=>d.elim;have eb:=(o1.keeps ab λx d=>d.elim).keeps aj λx d=>d.elim;have cn:=(bv A (Ne.symm bE)).trans (aQ _ _ bt);have cp:=(bv Kn cX).trans eK;refine j9 ⟨_,aY,Ai.of cp,BJ (j:=0) rfl,A,_,_,_,rfl,rfl,cn,MD (by lia) (by rw[bK];lia),?_⟩;obtain⟨dg,bO,cq,bP,aw⟩:=PR (dQ c i).toNat aY cn;have dh:Keeps (λx=>x∈v++C\/x=T\/x=A) ag dg:=bO▸df.set (.inr (.inr rfl));rw[bO];refine j9 ⟨_,aZ,Ai.of ((bP _ cY).trans cp),BJ (j:=1) rfl,A,_,_,_,rfl,rfl,cq,MD (by lia) (by rw[Er,bK];lia),?_⟩;obtain⟨aR,bQ,ed,di,aG⟩:=PR (dR c i).toNat aZ cq;have bl:Keeps (λx=>x∈v++C\/x=T\/x=A) ag aR:=bQ▸dh.set (.inr (.inr rfl));rw[bQ];have ee:Am LR aR ((ai.set (dQ c i).toNat aY).set (dR c i).toNat aZ) ((EV c (i+1)).map Bb):=(by unfold EV;rw[List.map_set,List.map_set];exact Am.put ((eb.keeps aw λx d=>d.elim).keeps aG λx d=>d.elim) _ ((Am.put (ea.keeps aw λx d=>d.elim) _ (dZ.keeps aw λx d=>d.elim)).keeps aG λx d=>d.elim));have c1:∀b,b≠A->aR b=aF b:=λb h=>(di b h).trans (bP b h);have e2:∀b,b≠T->b≠A->aR b=bI b:=λb h h'=>(c1 b h').trans (bv b h);have ef:=(dY.keeps aw).keeps aG;have eg:=(c1 T bE).trans bu;have eh:=aM.trans (aP bl);have ei:=(e2 ak cZ da).trans eM;have ej:=(((GM.keeps ab).keeps aj).keeps aw).keeps aG;have sA:=aP bl;have cs:=sA _ _ eP;have ek:=(W.trans sA) _ _ aL;have el:=(s3.trans (s4.trans (W.trans sA))) _ _ eL;have bR:=Ot c bH;refine j9 ⟨_,_,Ai.of cs,bR,a,L,N,c,i,FW c,Fe c,dp c i,rfl,eh.seq hS,by lia,el,ek,lL,Wi c bH,by rw[lN];decide,λr3 M3 aH dj aS dk dm bS=>⟨_,Aq.of dk,rfl,?_⟩⟩;have en:=aS _ _ cs;have ct:=aS _ _ ei;have bw:=ej.same aS;dsimp only[JW,Gp,Go,mC,mN];generalize E:List.set _ 23 _=σ;obtain rfl:σ=[some (.ref a),some (.ref N),some (.ref L),some (.int (AS c 2)),some (.int (AS c 4)),some (.ref R0),some (.ref P),some (.ref S),some (.ref T),some (.ref R),some (.ref A),some (.int i),some (.int (FH c i)),some (.int (dT c i)),some (.int (dU c i)),some (.int (dQ c i)),some (.int (dR c i)),some (.int (DZ c i)),some (.ref B),some (.ref Kn),some (.ref ak),some (.str (EU c i).wd),some (.str (GF c i)),some (.ref M3),none,none,none]:=E.symm;clear E;have eE:=Wj (FH c i) (dT c i) (dU c i) (dQ c i) (dR c i) (DZ c i);refine⟨⟨_,Ai.of ct⟩,MG (xs:=c8.map V.ref) (λD j l s=>∃U:G',l=U.map V.ref/\Ad dj s/\s D=some (.lst l)/\RT CB s U (((EU c i).ms.take j).map λg=>(GF c i,dp c i,g.1,g.2))) (λD u=>⟨[],rfl,A9 u,Ab,by rw[D6];exact RT.nil⟩) (λD j l aI p=>by obtain⟨_,_,Z,_⟩:=p;exact Ai.of (Z _ _ ct)) (λD j x l aI RR u d p k=>?_) (λD l aI u p=>?_)⟩;obtain⟨U,rfl,Z,J,RZ⟩:=p;obtain⟨t,ht,rfl⟩:=getm d;have hj:=(Bi.mp ht).1;rw[bw.len] at hj;have hg:=AM hj;have et:=Z _ _ (bw.at_ j t _ ht hg);generalize (EU c i).ms[j]=g at hg et;refine j9 ⟨_,_,Ai.of (Z _ _ en),bR,j' (j9 ⟨_,_,Aq.of et,BJ (j:=0) rfl,j' (j9 ⟨_,_,Aq.of et,BJ (j:=1) rfl,EG,λtw bc=>?_⟩)⟩)⟩;have O:=A9 (o:=.tup (CB (GF c i,dp c i,g.1,g.2))) bc;have bd:(upd aI tw (.tup (CB (GF c i,dp c i,g.1,g.2)))) tw=some (.tup (CB (GF c i,dp c i,g.1,g.2))):=Ab;have bT:=O _ _ J;have kD:Keeps (·=D) (upd aI tw (.tup (CB (GF c i,dp c i,g.1,g.2)))) (upd (upd aI tw (.tup (CB (GF c i,dp c i,g.1,g.2)))) D (.lst (U.map V.ref++[.ref tw]))):=Keeps.one bT;refine k _ _ bT (by rw[An,RZ.len,An,Dx];exact BX (by lia)) ⟨U++[tw],by rw[Bh];rfl,λb o e=>by rw[AI (Be e u)];exact O _ _ (Z _ _ e),Ab,?_⟩;rw[En,hg,Bh];exact((RZ.same O).snoc (r:=(GF c i,dp c i,g.1,g.2)) bd).keeps kD;obtain⟨U,rfl,Z,J,RZ⟩:=p;rw[An,bw.len,Dw] at RZ;have dq:=bS.same Z;have l4:(aH.map V.ref).length+(U.map V.ref).length<=4:=(by rw[An,An,bS.len,RZ.len,An];have:=Wk (FW c) (Fe c) (D9 c i) (dC c i) (dp c i);lia);refine⟨M3,D,_,_,rfl,rfl,Z _ _ dm,J,Ea l4 EG,λb5 hY=>?_⟩;obtain⟨aT,eo,bm,eY⟩:=new_at (o:=.lst (aH.map V.ref++U.map V.ref)) hY;rw[<-eo];refine Bz ?_;generalize E:List.set _ 23 _=σ;obtain rfl:σ=[some (.ref a),some (.ref N),some (.ref L),some (.int (AS c 2)),some (.int (AS c 4)),some (.ref R0),some (.ref P),some (.ref S),some (.ref T),some (.ref R),some (.ref A),some (.int i),some (.int (FH c i)),some (.int (dT c i)),some (.int (dU c i)),some (.int (dQ c i)),some (.int (dR c i)),some (.int (DZ c i)),some (.ref B),some (.ref Kn),some (.ref ak),some (.str (EU c i).wd),some (.str (GF c i)),some (.ref b5),none,none,none]:=E.symm;clear E;have ay:=aS.trans (Z.trans bm);have oT:∀x∈v++C,¬x=T:=λx d z=>fT (z▸d);have oA:∀x∈v++C,¬x=A:=λx d z=>fA (z▸d);have ep:=((((dX.keeps ab bF oT).keeps aj bF oT).keeps aw bG oA).keeps aG bG oA);have bx:=ep.same ay;have bz:=Wf c i i (AK _) (by lia);refine AZ λNz I=>?_;obtain⟨az,G,Q,c9,e7,b6,_,bU⟩:=bx.get (Bi.mp bz).1;refine I ?_;clear I;have bV:GD c i<(EW c i).length:=(Bi.mp bz).1;have b1:(EW c i)[GD c i]'(bV)=([],[]):=(Bi.mp bz).2;rw[b1] at bU;obtain⟨c0,_,ts,X,b2⟩:=bU
 have dr:BW (us.map V.ref) ((AS c 2/6+(i:Int))%8)=some (.ref az):=by
  have e:(AS c 2/6+(i:Int))%8=((GD c i:Nat):Int):=by unfold GD;lia
  rw[e];exact BJ (by rw[Bf,c9];rfl)
 have ds:ts=[]:=List.length_eq_zero_iff.mp b2.len;subst ds;refine⟨⟨by decide,by decide⟩,(by show(0:Int)<8;decide),j9 ⟨_,.ref az,Ai.of bx.top,dr,j' (j9 ⟨_,.ref Q,Aq.of c0,rfl,j9 ⟨rfl,_,Ai.of X⟩,Q,b5,_,_,rfl,rfl,X,eY,Ea (by rw[AY];show 0+_<=4;rw[Nat.zero_add];exact l4) EG,?_⟩)⟩⟩;have ZT:RT CB aT (aH++U) (MY c i):=(dq.same bm).app (RZ.same bm);have cu:=bx.tells nd bV b6 X (by rw[b1];exact b2) ZT;have mE:Q∈v++C:=DI _ (Bq b6);have kE:Keeps (·=Q) aT (upd aT Q (.lst ([].map V.ref++(aH++U).map V.ref))):=Keeps.one X;have dt:=bl.same ay;have du:Keeps (λx=>x∈v++C\/x=T\/x=A) ag (upd aT Q (.lst ([].map V.ref++(aH++U).map V.ref))):=dt.set (.inl mE);rw[b1] at cu;rw[<-Bh];refine⟨_,_,_,_,_,_,_,_,_,_,_,_,_,_,_,rfl,du,cu,kE.at_ _ _ (ay _ _ eg) (λz=>fT (z▸mE)),(ef.same ay).keeps kE,kE.at_ _ _ (ay _ _ ed) (λz=>fA (z▸mE)),(ee.same ay).keeps kE λx d=>d.elim⟩;refine λσ cR bj=>AZ λNz I=>?_;obtain⟨a4,a5,a6,a7,a8,a9,aA,aB,aC,aD,aE,ar,au,gt,ai,rfl,av,SC,br,TG,bs,ow⟩:=bj;refine I ?_;clear I;have dv:(((dP c).map V.str).length:Int).toNat=dn c:=by rw[lP];exact BF _
 rw[dv] at SC TG ow;have sK:=aP av;have aW:=(s3.trans (s4.trans (W.trans sK))) _ _ eL;have a0:BW ((FW c).map V.str) 0=some (.str (JC c)):=JB (xs:=FW c) (z:=0) (by decide) (by rw[lL];decide);have a1:BW ((FW c).map V.str) 1=some (.str (JD c)):=JB (xs:=FW c) (z:=1) (by decide) (by rw[lL];decide);refine⟨by decide,λG1 dw=>?_⟩;obtain⟨V1,dx,q1,bn⟩:=new_at (o:=.lst []) dw;rw[<-dx];refine j9 ⟨_,_,Ai.of (q1 _ _ aW),a0,Fn,λE0 dy=>?_⟩;obtain⟨V2,dz,q2,bW⟩:=new_at (o:=.lst [.str (JC c)]) dy;rw[<-dz];refine⟨AR,λbX er=>?_⟩;obtain⟨V3,d0,q3,es⟩:=new_at (o:=.tup [.ref G1,.ref E0]) er;rw[<-d0];refine⟨by decide,λG2 d1=>?_⟩;obtain⟨V4,d2,q4,bo⟩:=new_at (o:=.lst []) d1;rw[<-d2];have bY:=q1.trans (q2.trans (q3.trans q4));refine j9 ⟨_,_,Ai.of (bY _ _ aW),a1,Fn,λE2 d3=>?_⟩;obtain⟨V5,d4,q5,bZ⟩:=new_at (o:=.lst [.str (JD c)]) d3;rw[<-d4];refine⟨AR,λca ev=>?_⟩;obtain⟨V6,d5,q6,ew⟩:=new_at (o:=.tup [.ref G2,.ref E2]) ev;rw[<-d5];refine⟨AR,λD u=>?_⟩;obtain⟨V7,d6,q7,J⟩:=new_at (o:=.lst [.ref bX,.ref ca]) u;rw[<-d6];have cb:=bY.trans (q5.trans (q6.trans q7));refine Bz ?_;generalize E:List.set _ 24 _=σ;obtain rfl:σ=[some (.ref a),some (.ref N),some (.ref L),some (.int (AS c 2)),some (.int (AS c 4)),some (.ref R0),some (.ref P),some (.ref S),some (.ref T),some (.ref R),some (.ref A),a4,a5,a6,a7,a8,a9,aA,aB,aC,aD,aE,ar,au,some (.ref D),none,none]:=E.symm;clear E;refine j9 ⟨_,_,Ai.of (cb _ _ aW),a0,j9 ⟨_,_,Ai.of (cb _ _ aW),a1,AR,λpr d7=>?_⟩⟩;obtain⟨V8,d8,q8,d9⟩:=new_at (o:=.tup [.str (JC c),.str (JD c)]) d7;rw[<-d8];refine⟨Fn,λPL dA=>?_⟩;obtain⟨V9,dB,q9,dD⟩:=new_at (o:=.lst [.ref pr]) dA;rw[<-dB];refine Bz ?_;generalize E:List.set _ 25 _=σ;obtain rfl:σ=[some (.ref a),some (.ref N),some (.ref L),some (.int (AS c 2)),some (.int (AS c 4)),some (.ref R0),some (.ref P),some (.ref S),some (.ref T),some (.ref R),some (.ref A),a4,a5,a6,a7,a8,a9,aA,aB,aC,aD,aE,ar,au,some (.ref D),some (.ref PL),none]:=E.symm;clear E;refine⟨⟨by decide,by decide⟩,(by show(0:Int)<2;decide),⟨by decide,by decide⟩,(by show(0:Int)<2;decide),_,rfl,PL,_,rfl,Ai.of dD,λaX hO=>?_⟩;have ec:E9 [.ref pr] none (some (AS c 4/624%2))=([pr].take (AS c 4/624%2).toNat).map V.ref:=(by obtain⟨n,hn⟩:=DJ (Et (AS c 4/624) (by decide:(2:Int)≠0));rw[hn,BF,Qs];exact RJ _ _);rw[ec];obtain⟨eF,ex,dE,eO⟩:=new_at (o:=.lst (([pr].take (AS c 4/624%2).toNat).map V.ref)) hO;rw[<-ex];refine⟨Fo,λt ht=>?_⟩;obtain⟨eH,ey,dF,et⟩:=new_at (o:=.tup [.ref D,.int (F7 c),.ref aX]) ht;rw[<-ey];refine Bz ?_;dsimp only;refine⟨Fo,λnt dG=>?_⟩;obtain⟨eI,ez,dH,dI⟩:=new_at (o:=.tup [.ref S,.ref T,.ref R]) dG;rw[<-ez];refine⟨Fo,λr hr=>?_⟩;have cc:=A9 (o:=.tup [.ref nt,.ref t,.ref A]) hr;have c2:=dH.trans cc;have c3:=dF.trans c2;have c4:=dE.trans c3;have cv:=q8.trans (q9.trans c4);have e0:=q9.trans c4;have cw:=q7.trans cv;have cx:=q6.trans cw;have b3:=q5.trans cx;have cy:=q4.trans b3;have cz:=q3.trans cy;have b4:=q2.trans cz;have ae:=q1.trans b4;have dJ:D≠aX:=λy=>by rw[<-y,(q8.trans q9) _ _ J] at hO;cases hO
 have nn:∀{x:Addr}{o:HO},V6 x=some o->x≠D:=λe z=>by rw[z,u] at e;cases e
 have e1:R∉v++C:=λy=>by
  obtain⟨xs,e⟩:=(an.same s8).alive R y;rw[e] at hR;cases hR
 have dK:R≠T:=λz=>by rw[z,eT] at hR;cases hR
 have fR:¬(R∈v++C\/R=T\/R=A):=λz=>by
  rcases z with z|z|z;exact e1 z;exact dK z;exact bD z.symm
 refine q r nt t A S T R us v C gt (M.set (Dd c) H) ai _ (aM.trans (sK.trans ae)) Ab (cc _ _ dI) ⟨SC.same ae,ae _ _ br,TG.same ae,ae _ _ (av.at_ _ _ ch fR),(cg.keeps av).same ae⟩ (ae _ _ bs) (ow.same ae) ⟨D,aX,[bX,ca],_,c2 _ _ et,True.intro,True.intro,dJ,cv _ _ J,?_,c3 _ _ eO,?_⟩;exact((Bc.nil (F:=λζ=>True)).snoc (r:=([],[JC c])) (cy _ _ es) ⟨[],Ai.of (b4 _ _ bn),.nil⟩ (b4 _ _ bn) (cz _ _ bW) (nn (((q2.trans (q3.trans q4)).trans (q5.trans q6)) _ _ bn)) (nn (((q3.trans q4).trans (q5.trans q6)) _ _ bW)) True.intro True.intro).snoc (r:=([],[JD c])) (cw _ _ ew) ⟨[],Ai.of (b3 _ _ bo),.nil⟩ (b3 _ _ bo) (cx _ _ bZ) (nn ((q5.trans q6) _ _ bo)) (nn (q6 _ _ bZ)) True.intro True.intro;have TT:DA V8 ([]++[pr]) ([]++[(JC c,JD c)]):=DA.nil.snoc (p:=(JC c,JD c)) d9;have TT:=TT.same e0;refine⟨by rw[Dx,Dx];rfl,λn t' z h1 h2=>?_⟩;rw[List.getElem?_take] at h1 h2;split at h1;rename_i hn;rw[Ap hn] at h2;exact TT.at_ n t' z h1 h2;cases h1
inductive Df (K:Aj) (vs:S') (H:Hp) (Q:VK):Prop where
 |mk (nt M S T R:Addr) (us Gs Es gt qt:G') (ss:List BC) (gs:J') (qs:V') (h m f:Nat) (ms:S') (s:BC) (h0:vs=[.ref nt,.int h,.ref M]) (h1:H nt=some (.tup [.ref S,.ref T,.ref R])) (h2:ED H S T R us Gs Es gt qt ss gs qs) (h3:ss[h]?=some s) (h4:s.2.length=f+m) (h5:H M=some (.lst ms)) (h6:ms.length=m) (h7:m<=10) (h8:∀(D:Addr)(wt:S')(H':Hp),H D=none->Ad H H'->H' D=some (.lst wt)->Am (λx=>H x=none) H' wt (((List.range m).map λk=>[((h:Int),i0,((f+k:Nat):Int))]).map Bn.D)->Q (.ref D) H'):Df K vs H Q
def ZM (K:Aj):Sp:=λvs H Q ζ=>Df K vs H Q
abbrev SY(P w K mg base):=BG P w K mg base "_law_marks" 1 ["_law_net", "_law_scope", "_law_means"] (ZM K)
theorem ZN(B:BH mg)(F:Bt K "_law_marks" "_law_marks" ON f fd)(hm:mg "_law_marks" = some (.ref f)):SY P w K mg base:=by
 refine BZ F hm VZ (λj H Q E h=>?_) (λar ak aw s H j Q E hr h=>?_);obtain⟨nt,M,S,T,aa,us,Gs,Es,gt,qt,I,gs,qs,h,m,f,d,s,rfl,_⟩:=h;rfl;obtain⟨nt,M,S,T,aa,us,Gs,Es,gt,qt,I,gs,qs,h,m,f,d,s,rfl,eN,J,L,c,N,lm,au,ab⟩:=h
 refine⟨_,(Al (AU (i:=3) VZ.nd (AG Mt (CZ GL B.b_len (Aa (AB AC (AB AC (AB AC (pv 0) Ah) (pv 1)) Ah) Ac)) (CZ GL B.b_len (Aa (pv 2) Ac))))
  (Ax (AJ (Hc rfl Cm (Ib rfl B.b_range (Aa (CZ GL B.b_len (Aa (pv 2) Ac)) Ac)) (λζ ζ ζ ζ ζ=>(Ar (i:=0) Cm.nd)) (λζ ζ ζ ζ ζ=>Gu) (λζ ζ ζ ζ ζ=>(A1 (Aa (AD (Aa (pv 1) (Aa AH (Aa (AG Ev (pv 2) (pv 0)) Ac)))) Ac))))))),?_⟩
 rfl';have ag:=(Bi.mp L).1;refine AZ λNz Y=>?_;obtain⟨u,al,E1,ae,ao,aq,g4,⟨c0,⟨tG,b1,b2⟩,⟨v,b3,b4⟩⟩⟩:=J.sc.get ag;refine Y ?_;clear Y;have eh:I[h]=s:=BU (g4.symm.trans L);have av:(v.map V.ref).length=f+m:=(by rw[An,b4.len,eh,c]);have aj:BW (us.map V.ref) (h:Int)=some (.ref u):=BJ (by rw[Bf,ae];rfl);refine j' (j9 ⟨_,.ref S,Aq.of eN,rfl,j9 ⟨_,.ref u,Ai.of J.sc.top,aj,j' (j9 ⟨_,.ref E1,Aq.of c0,rfl,_,j9 ⟨_,Ai.of b3,rfl⟩,_,j9 ⟨_,Ai.of N,rfl⟩,?_⟩)⟩⟩);refine⟨_,j9 ⟨_,Ai.of N,rfl⟩,by lia,by lia,NI (lo:=0) (n:=((d.length:Nat):Int).toNat) (λD i a y=>Ad H y/\y D=some (.lst a)/\a.length=i/\Am (λx=>x≠D/\H x=none) y a (((List.range i).map λk=>[((h:Int),i0,((f+k:Nat):Int))]).map Bn.D)) (λD g=>⟨A9 g,Ab,rfl,.nil⟩) (λD i a U RR g hi p k=>?_) (λD a U g p=>?_)⟩;obtain⟨q,r,A,ow⟩:=p;refine⟨Fo,λt ht=>?_⟩;obtain⟨an,ah,C,O⟩:=new_at (o:=.tup [.int h,.str "told",.int (((v.map V.ref).length:Int)-(d.length:Int)+(0+(i:Int)))]) ht;rw[<-ah];rw[show((v.map V.ref).length:Int)-(d.length:Int)+(0+(i:Int))=((f+i:Nat):Int) by lia] at O;refine⟨Fn,λl c=>?_⟩;obtain⟨R,ai,W,el⟩:=new_at (o:=.lst [.ref t]) c;rw[<-ai];have G:=C.trans W;have Z:=G _ _ r;have af:l≠D:=λz=>by rw[z,C _ _ r] at c;cases c
 have kp:∀{j:S'}{X:List Dt},Am (λx=>x≠D/\H x=none) R j X->Am (λx=>x≠D/\H x=none) (upd R D (.lst (a++[.ref l]))) j X:=λo=>o.go (λb xs e=>by rw[AI λz=>by rw[z,Z] at e;cases e];exact e) λb xs e n=>⟨by rw[AI n.1];exact e,n⟩;refine k _ _ Z (by rw[A];exact BX (by lia)) ⟨λb o e=>by rw[AI (Be e g)];exact G _ _ (q _ _ e),Ab,by rw[AY,A];rfl,?_⟩;rw[List.range_succ,Bh,Bh];exact kp ((ow.same G).snoc (.lst el ⟨af,(q.trans C).free c⟩ (.cons (.tup (W _ _ O) (.cons (.int _) (.cons (.str _) (.cons (.int _) .nil)))) .nil)));obtain⟨q,r,A,ow⟩:=p;rw[show((d.length:Nat):Int).toNat=m by lia] at ow;exact ab D a U g q r (ow.go (λζ ζ h=>h) λζ ζ h n=>⟨h,n.2⟩)
inductive Ei (K:Aj) (vs:S') (H:Hp) (Q:VK):Prop where
 |mk (wd:Str) (j q:Int) (f:V) (d:Dt) (h0:vs=[.str wd,.int j,.int q,f]) (h1:AL (λζ=>True) H f d) (h2:∀(v:V)(H':Hp),Ad H H'->AL (λζ=>True) H' v (if wd=i6 then .tup [.non,.tup [.int j,d,.int q]] else if wd=j7 then .tup [.non,.tup [.int j,.lst [],.int q]] else if wd=i4 then .tup [.tup [.str "none",.int (j+1)],.non] else .tup [.tup [.str wd,.int j],.non])->Q v H'):Ei K vs H Q
def ZO (K:Aj):Sp:=λvs H Q ζ=>Ei K vs H Q
abbrev S0(P w K mg base):=BG P w K mg base "_law_end" 1 ["_law_word", "_law_j", "_law_q", "_law_first"] (ZO K)
def ZP(B:BH mg)(F:Bt K "_law_end" "_law_end" QC f fd)(m:mg "_law_end" = some (.ref f)):S0 P w K mg base:=by
 refine BZ F m Zn (λn H Q E h=>?_) (λt A u s H n Q E r h=>?_);obtain⟨a,j,q,f,d,rfl,_⟩:=h;rfl;obtain⟨a,j,q,f,d,rfl,ow,g⟩:=h
 refine⟨_,(Al (A8 (Bx B0 (pv 0) AH (Bs _)) (Ax (AJ (AD (Aa Ci (Aa (AD (Aa (pv 1) (Aa (pv 3) (Aa (pv 2) Ac)))) Ac))))) A7)
  (Al (A8 (Bx B0 (pv 0) AH (Bs _)) (Ax (AJ (AD (Aa Ci (Aa (AD (Aa (pv 1) (Aa (A1 Ac) (Aa (pv 2) Ac)))) Ac))))) A7)
  (Al (A8 (Bx B0 (pv 0) AH (Bs _)) (Ax (AJ (AD (Aa (AD (Aa AH (Aa (AG Ev (pv 1) Ah) Ac))) (Aa Ci Ac))))) A7)
  (Ax (AJ (AD (Aa (AD (Aa (pv 0) (Aa (pv 1) Ac))) (Aa Ci Ac)))))))),?_⟩
 rfl';refine⟨rfl,rfl,At (λc=>?_) (λc=>?_)⟩;have e:a=i6:=V.str.inj (Bd c);exact(B9.tup (F:=λζ=>True) (σ:=[some (.str a),some (.int j),some (.int q),some f]) (.cons .non (.cons (.tup (.cons (.var (i:=1) rfl (.int _)) (.cons (.var (i:=3) rfl ow) (.cons (.var (i:=2) rfl (.int _)) .nil))) Fo) .nil)) AR) H _ (λζ ζ e=>e) λv b s o=>g v b s (by rw[Ap e];exact o);have k:¬a=i6:=λe=>c (A5 (by rw[e]));refine⟨rfl,rfl,At (λc=>?_) (λc=>?_)⟩;have e:a=j7:=V.str.inj (Bd c);exact(B9.tup (F:=λζ=>True) (σ:=[some (.str a),some (.int j),some (.int q),some f]) (.cons .non (.cons (.tup (.cons (.var (i:=1) rfl (.int _)) (.cons (.lst (λζ ζ=>True.intro) .nil (Dp _)) (.cons (.var (i:=2) rfl (.int _)) .nil))) Fo) .nil)) AR) H _ (λζ ζ e=>e) λv b s o=>g v b s (by rw[Ag k,Ap e];exact o);have l:¬a=j7:=λe=>c (A5 (by rw[e]));refine⟨rfl,rfl,At (λc=>?_) (λc=>?_)⟩;have e:a=i4:=V.str.inj (Bd c);exact(B9.tup (F:=λζ=>True) (σ:=[some (.str a),some (.int j),some (.int q),some f]) (.cons (.tup (.cons (.str _) (.cons (.pur (v:=.int (j+1)) (λH Q ζ h=>h) (.int _)) .nil)) AR) (.cons .non .nil)) AR) H _ (λζ ζ e=>e) λv b s o=>g v b s (by rw[Ag k,Ag l,Ap e];exact o);have p:¬a=i4:=λe=>c (A5 (by rw[e]));exact(B9.tup (F:=λζ=>True) (σ:=[some (.str a),some (.int j),some (.int q),some f]) (.cons (.tup (.cons (.var (i:=0) rfl (.str _)) (.cons (.var (i:=1) rfl (.int _)) .nil)) AR) (.cons .non .nil)) AR) H _ (λζ ζ e=>e) λv b s o=>g v b s (by rw[Ag k,Ag l,Ag p];exact o)
abbrev D0 (ns:E') (j:Nat):Ij:=DH (FH ns j) (dT ns j) (dU ns j) (dQ ns j) (dR ns j) (DZ ns j)
abbrev Ca (ns:E') (j:Nat):Nat:=((DZ ns j-1)%8).toNat
abbrev Mb (st0 inn:Int) (j:Nat):Int:=if j=0 then st0 else inn
abbrev JF (ns:E') (st0 inn:Int) (f:Nat->Nat) (j:Nat):Lk:=([([],(Ca ns j:Int),Mb st0 inn j)],Ck (Ca ns j) (f j) (D0 ns j).ms.length,Ck (Ca ns j) (f j) (D0 ns j).ms.length)
structure Fg (W:Wd) (inn:Int) (ord:A') (ns:E') (st0:Int) (P:I') (f:Nat->Nat):Prop where
 h0:∀s∈W.ss,s.1=[]
 irr:∀y,(y,y)∉ord
 lev:∀j x,P[j]?=some x->∃lab pre,pre.length=f j/\CG W (Ca ns j) (Mb st0 inn j) x lab pre (D0 ns j).ms
 lvf:∀j,j<P.length->VW W (D0 ns j) (dT ns j) (dU ns j) (dQ ns j) (dR ns j)
abbrev Ey (ns:E') (st0 inn:Int) (f:Nat->Nat) (i:Nat):W':=(List.range i).map (JF ns st0 inn f)
abbrev Io (ns:E') (i:Nat):E':=(List.range i).map (dT ns)
section
variable {W:Wd} {inn:Int} {ord:A'} {ns:E'} {st0:Int} {P:I'} {f:Nat->Nat} {i:Nat}
def S1 (W:Wd) (inn:Int) (ord:A') (ns:E') (st0:Int) (P:I') (f:Nat->Nat) (i:Nat):Prop:=∀(a:C')(w:Option Wt)(ls:W')(ts:E'),LU W inn ord (Ca ns i) (Mb st0 inn i) (P.drop i) i a w ls ts->LU W inn ord (Ca ns 0) st0 P 0 a w (Ey ns st0 inn f i++ls) (Io ns i++ts)
def Dg:Ey ns st0 inn f (i+1)=Ey ns st0 inn f i++[JF ns st0 inn f i]:=by unfold Ey;rw[List.range_succ,Bh];rfl
def S3:Io ns (i+1)=Io ns i++[dT ns i]:=by unfold Io;rw[List.range_succ,Bh];rfl
variable {x:Str}
def Fg.at_(D:Fg W inn ord ns st0 P f)(a:P[i]?=some x):C7 W ord (Ca ns i) (Mb st0 inn i) x (JF ns st0 inn f i) []/\SG W ord (Ca ns i) (f i) (D0 ns i) (dT ns i) (dQ ns i) (DZ ns i):=by obtain⟨e,g,d,L⟩:=D.lev i x a;have b:=L.look D.h0 D.irr;have c:=LY ⟨Et _ (by decide),Fi _ (by decide)⟩ (D.lvf i (Bi.mp a).1) L D.irr;rw[d] at b c;exact⟨b,c⟩
def ZQ:(Ca ns (i+1):Int)=DZ ns i:=by unfold Ca DZ;lia
def Fg.next(D:Fg W inn ord ns st0 P f)(b:P[i]?=some x)(d:i+1<P.length)(m:∀at_,Bp W ord (Ck (Ca ns i) (f i) (D0 ns i).ms.length) [] at_=(some (f',dT ns i),none))(ins:B8 W (dT ns i)=(i3,DZ ns i))(p:S1 W inn ord ns st0 P f i):S1 W inn ord ns st0 P f (i+1):=λa w e g h=>by
 have j:=AM d;have c:=Jh b;have k:=Jh j;rw[k] at h c
 have:=p a w (JF ns st0 inn f i::e) (dT ns i::g) (by
  rw[c];refine .go (D.at_ b).1 (m _) ins ?_;rw[<-ZQ];exact h)
 rw[Dg,S3,Fv,Fv];exact this
set_option tactic.hygienic true in
def ZR(D:Fg W inn ord ns st0 P f)(e:P[i]?=some x)(y:Int):y∈ES W (JF ns st0 inn f i)↔(i6,y)∈(D0 ns i).ms:=by
 obtain⟨l,m,g,L⟩:=D.lev i x e;have d:BA W ([],(Ca ns i:Int),Mb st0 inn i)=[]:=(by unfold BA B2;rw[BF,L.s];rfl);unfold ES;rw[List.flatMap_cons,List.flatMap_nil,d,DR,List.nil_append,List.mem_flatMap];show(∃v,v∈Ck (Ca ns i) (f i) (D0 ns i).ms.length/\y∈F5 W.ss v)↔_;rw[<-g];constructor;rintro⟨v,h,a⟩;obtain⟨k,b,rfl⟩:=AN.mp h;have c:=AM (List.mem_range.mp b);unfold F5 at a;rw[L.tell c] at a;split at a;rename_i d;rw[AX.mp a,<-d];exact Bq c;cases a;intro j;obtain⟨k,b,c⟩:=List.getElem_of_mem j;refine⟨_,AN.mpr ⟨k,List.mem_range.mpr b,rfl⟩,?_⟩;unfold F5;rw[L.tell (Bi.mpr ⟨b,c⟩),Ap rfl];exact BS
def ZS(D:Fg W inn ord ns st0 P f)(b:P[i]?=some x)(ts:E')(y:Int):y∈Bu W (Ey ns st0 inn f (i+1)) ts↔y∈Bu W (Ey ns st0 inn f i) ts\/(i6,y)∈(D0 ns i).ms:=by unfold Bu;rw[Dg,List.flatMap_append,List.flatMap_cons,List.flatMap_nil,DR,BI,BI,BI,ZR D b];exact⟨λz=>z.elim (λz=>z.elim (λa=>.inl (.inl a)) .inr) λa=>.inl (.inr a),λz=>z.elim (λz=>z.elim (λa=>.inl (.inl a)) .inr) λa=>.inl (.inr a)⟩
def Ov(k t u q r a:Int):(DH k t u q r a).ms.length<=2:=by
 unfold DH LW
 repeat' split
 all_goals first|exact Dp 2|exact Nat.le_succ 1|exact AK 2
def ZU(k t u q r a:Int):(DH k t u q r a).b0.1=i9->(DH k t u q r a).b0.2=q:=by
 have b:¬i8=i9:=(by decide +kernel);have c:¬j3=i9:=(by decide +kernel);unfold DH LW
 repeat' split
 all_goals intro h;first|rfl|exact absurd h b|exact absurd h c
set_option tactic.hygienic true in
def Wl(D:Fg W inn ord ns st0 P f)(b:i<P.length)(ls:W')(y:Int):y∈Bu W ls (Io ns (i+1))↔y∈Bu W ls (Io ns i)\/((D0 ns i).b0.1=i9/\y=dQ ns i):=by unfold Bu;rw[S3,List.flatMap_append,List.flatMap_cons,List.flatMap_nil,DR,BI,BI,BI,or_assoc];refine or_congr Iff.rfl (or_congr Iff.rfl ?_);unfold Ft;rw[(D.lvf i b).gt];dsimp only;split;rename_i a;rw[AX,ZU _ _ _ _ _ _ a];exact⟨λz=>⟨a,z⟩,λz=>z.2⟩;rename_i a;exact⟨λz=>(by cases z),λz=>absurd z.1 a⟩
def Mc(n:Nat)(f:n<=8):((List.range n).map (Ca ns)).Nodup:=by refine List.pairwise_map.mpr (List.Pairwise.imp_of_mem (λ{a b}c d(h:a<b)e=>?_) List.pairwise_lt_range);rw[List.mem_range] at c d;unfold Ca DZ at e;lia
def ZV(n:Nat)(b:n<=8):((List.range n).map λj=>(1:Int)*2 ^ Ca ns j).sum=(Ey ns st0 inn f n).foldl GR 0:=by
 have:=Jt (ks:=(List.range n).map (Ca ns)) (ls:=Ey ns st0 inn f n) (Mc n b) λj=>by
  unfold N7 Ey;rw[List.flatMap_map,AN,List.mem_flatMap];exact⟨λ⟨k,a,e⟩=>⟨k,a,by rw[<-e];exact AX.mpr (BF _).symm⟩,λ⟨k,a,e⟩=>⟨k,a,by rw[AX.mp e];exact(BF _).symm⟩⟩
 rw[D1] at this;exact this
end
def Wm{kvs:List (A3×V)}{ks:E'}(h:kvs.map (·.1)=ks.map Sum.inl)(i:ks.Nodup)(y:Int)(v:V):∃f:E',(Bk kvs (.inl y) v).map (·.1)=f.map Sum.inl/\f.Nodup/\(∀z,z∈f↔z∈ks\/z=y)/\f.length<=ks.length+1:=by
 have j:(kvs.any λd=>decide (d.1=Sum.inl y))=true↔y∈ks:=by
  rw[KC];constructor;rintro⟨d,g,e⟩;have:d.1∈kvs.map (·.1):=AN.mpr ⟨d,g,rfl⟩;rw[h,Bd e] at this;obtain⟨z,k,e⟩:=AN.mp this;cases e;exact k;intro l;have:(Sum.inl y:A3)∈kvs.map (·.1):=by rw[h];exact AN.mpr ⟨y,l,rfl⟩
  obtain⟨d,g,e⟩:=AN.mp this;exact⟨d,g,A5 e⟩
 by_cases c:y∈ks;refine⟨ks,?_,i,λz=>⟨.inl,λa=>a.elim id λe=>e▸c⟩,Nat.le_succ _⟩;unfold Bk;rw[Ap (j.mpr c),D1,<-h];refine List.map_congr_left λd ζ=>?_;show(if d.1=Sum.inl y then(d.1,v) else d).1=d.1
 split<;>rfl;refine⟨ks++[y],?_,List.nodup_append.mpr ⟨i,Fh.mpr ⟨List.not_mem_nil,List.nodup_nil⟩,λa m b n e=>c (by rw[<-AX.mp n,<-e];exact m)⟩,λz=>by rw[BI,AX],by rw[AY];exact AK _⟩;unfold Bk;rw[Ag λz=>c (j.mp z),Bh,h,Bh];rfl
abbrev FJ (wd:Str) (j q:Int) (d:Dt):Dt:=if wd=i6 then .tup [.non,.tup [.int j,d,.int q]] else if wd=j7 then .tup [.non,.tup [.int j,.lst [],.int q]] else if wd=i4 then .tup [.tup [.str "none",.int (j+1)],.non] else .tup [.tup [.str wd,.int j],.non]
variable {W:Wd}{ord:A'}{sc st:Int}
def ZW{inn:Int}{f:Nat}{l:Ij}{t q c:Int}(M:SG W ord sc f l t q c)(j:Int) :
 (O0 (.str l.wd) [.str "none",.str "torn",.str "by"]=true/\∃(a:C')(w:Option Wt),Bp W ord (Ck sc f l.ms.length) [] j=(a,w)/\(∀k,a≠some (f',k))/\∀d:Dt,(l.ms.length=1->d=Bn.D [(sc,i0,((f+0:Nat):Int))])->FJ l.wd j q d=.tup [Bb a,Hx w])
 \/ (O0 (.str l.wd) [.str "none",.str "torn",.str "by"]=false/\(∀at_,Bp W ord (Ck sc f l.ms.length) [] at_=(some (f',t),none))/\((l.wd=("on":Str)/\B8 W t=(i3,c))\/(l.wd≠("on":Str)/\∃(a:C')(w:Option Wt),(∀(bs:List AO)(x y:Str)(r:I'),C7 W ord sc st x (bs,Ck sc f l.ms.length,Ck sc f l.ms.length) []->LU W inn ord sc st (x::y::r) j a w [(bs,Ck sc f l.ms.length,Ck sc f l.ms.length)] [t])/\∀d,FJ l.wd j q d=.tup [Bb a,Hx w]))):=by
 have g:∀{z:Str},(z=j2\/z=j6)->¬z=i6/\¬z=j7/\¬z=i4:=λh=>by rcases h with rfl|rfl<;>decide +kernel
 cases M with
 |end_ b m=>obtain⟨n,o,p⟩:=g b;refine .inl ⟨by rcases b with h|h<;>rw[h]<;>decide +kernel,_,_,m j,λk e=>?_,λd ζ=>?_⟩;have e:=By Prod.fst (BU e);dsimp only at e;rcases b with h|h<;>rw[h] at e<;>exact absurd e (by decide +kernel);unfold FJ;rw[Ag n,Ag o,Ag p]
 |by_ b s m=>refine .inl ⟨by rw[b];decide +kernel,_,_,m j,(λk e=>by cases e),λd hd=>?_⟩;unfold FJ;rw[Ap b,hd s]
 |on b m i=>exact .inr ⟨by rw[b];decide +kernel,m,.inl ⟨b,i⟩⟩
 |no b m i=>refine .inr ⟨by rw[b];decide +kernel,m,.inr ⟨by rw[b];decide +kernel,_,_,λbs x y r h=>.no h (m j) i,λd=>?_⟩⟩;unfold FJ;rw[b,Ag (by decide +kernel),Ag (by decide +kernel),Ap rfl]
 |wait b m i=>refine .inr ⟨by rw[b];decide +kernel,m,.inr ⟨by rw[b];decide +kernel,_,_,λbs x y r h=>.opn h (m j) i,λd=>?_⟩⟩;unfold FJ;rw[b,Ag (by decide +kernel),Ap rfl];rfl
variable {H:Hp}
def ZX{F:Addr->Prop}{f:Nat}{a:S'}{e:V}(o:Am F H a ((Ck sc f m).map Bn.D))(b:AL F H e (.lst [])):∃v d,(a++[e])[0]?=some v/\AL F H v d/\(m=1->d=Bn.D [(sc,i0,((f+0:Nat):Int))]):=by
 cases m with
 |zero=>cases o;exact⟨e,_,rfl,b,λz=>by cases z⟩
 |succ m=>
  unfold Ck at o;rw[List.range_succ_eq_map,Do,Do] at o;cases o with|cons h t=>exact⟨_,_,rfl,h,λζ=>rfl⟩
inductive Ej (K:Aj) (vs:S') (H:Hp) (Q:VK):Prop where
 |mk (a nt p S T R:Addr) (us Gs Es gt qt:G') (ns:E') (W:Wd) (qs:V') (inn:Int) (ord:A') (st0:Int) (P:I') (f:Nat->Nat) (h0:vs=[.ref a,.ref nt,.ref p]) (h1:Ai K H a (ns.map V.int)) (h2:H nt=some (.tup [.ref S,.ref T,.ref R])) (h3:ED H S T R us Gs Es gt qt W.ss W.gs qs) (h4:H p=some (.tup (P.map V.str))) (h5:1<=P.length) (h6:P.length<=6) (h7:Fg W inn ord ns st0 P f) (h8:∀(r Wy As:Addr)(ev:V)(wt:S')(ks:E')(a:C')(w:Option Wt)(ls:W')(ts:E')(H':Hp),Ad H H'->H' r=some (.tup [ev,.ref Wy,.int (ls.foldl GR 0),.ref As])->AL (λζ=>True) H' ev (.tup [Bb a,Hx w])->H' Wy=some (.lst wt)->Am (λζ=>True) H' wt (ls.map λl=>.lst (l.2.2.map Bn.D))->H' As=some (.lst (ks.map V.int))->ks.Pairwise (· < ·)->(∀y,y∈ks↔y∈Bu W ls ts)->LU W inn ord (Ca ns 0) st0 P 0 a w ls ts->Q (.ref r) H'):Ej K vs H Q
def ZY (K:Aj):Sp:=λvs H Q ζ=>Ej K vs H Q
abbrev P9(P w K mg base):=BG P w K mg base "_law_due" 3 ["_law_script", "_law_net", "_law_path"] (ZY K)
theorem ZZ(B:BH mg)(b8:P6 P w K mg base)(b9:P7 P w K mg base)(bA:SY P w K mg base)(bb:S0 P w K mg base)(F:Bt K "_law_due" "_law_due" QD f fd)(E:mg "_law_due" = some (.ref f)):P9 P w K mg base:=by
 refine BZ F E Fu (λvs H aX b4 h=>?_) (λc2 cv c7 cw H vs aX b4 hr h=>?_);obtain⟨a,R,p,aY,aZ,ba,us,Gs,Es,gt,qt,ns,W,qs,inn,ord,st0,P,f,rfl,_⟩:=h;rfl;obtain⟨a,R,p,aY,aZ,ba,us,Gs,Es,gt,qt,ns,W,qs,inn,ord,st0,P,f,rfl,hS,eN,N3,ep,l1,l6,dt,kq⟩:=h
 refine⟨_,(Al (AU (i:=3) Fu.nd (A1 Ac))
  (Al (AU (i:=4) Fu.nd Ah)
  (Al (AU (i:=5) Fu.nd Xb)
  (Al (Dq C0 rfl (Ib rfl B.b_range (Aa (CZ GL B.b_len (Aa (pv 2) Ac)) Ac)) (Ar (i:=6) Fu.nd) (Al (Cf (AV b8 (Aa (pv 0) (Aa (pv 6) Ac))) (BO (n:=6) rfl (Az (Ar (i:=7) Fu.nd) (Az (Ar (i:=8) Fu.nd) (Az (Ar (i:=9) Fu.nd) (Az (Ar (i:=10) Fu.nd) (Az (Ar (i:=11) Fu.nd) (Az (Ar (i:=12) Fu.nd) BN))))))))
   (Al (Cf (AV b9 (Aa (pv 7) (Aa (pv 8) (Aa (pv 9) (Aa (pv 10) (Aa (pv 11) (Aa (pv 12) Ac))))))) (BO (n:=4) rfl (Az (Ar (i:=13) Fu.nd) (Az (Ar (i:=14) Fu.nd) (Az (Ar (i:=15) Fu.nd) (Az (Ar (i:=16) Fu.nd) BN))))))
   (Al (AU (i:=17) Fu.nd (AG Cv (AG Mt (pv 12) Ah) Ah))
   (Al (E8 (EJ E6 Gi Gj Gv (pv 3) (Aa (AV bA (Aa (pv 1) (Aa (pv 17) (Aa (pv 15) Ac)))) Ac)))
   (Al (AU (i:=4) Fu.nd (AG Ev (pv 4) (AG G0 Ah (pv 17))))
   (Al (Dq C0 rfl (Dy (pv 15)) (Ar (i:=18) Fu.nd) (Ax (A8 (Bx B0 (AB AC (pv 18) Ah) AH (Bs _)) (Ax (Cf Gm (JX (pv 5) (AB AC (pv 18) Ah) (Um (MB hr))))) A7)))
   (Al (A8 (Bx W0 (pv 16) (A1 (Aa AH (Aa AH (Aa AH Ac)))) (by with_unfolding_all rfl)) (Ax (AJ (AD (Aa (AV bb (Aa (pv 16) (Aa (pv 6) (Aa (pv 10) (Aa (AB AC (AG My (AB AC (pv 3) (Ms Mu Ah)) (A1 (Aa (A1 Ac) Ac))) Ah) Ac))))) (Aa (pv 3) (Aa (pv 4) (Aa (CZ (SE rfl) B.b_sorted (Aa (pv 5) Ac)) Ac))))))) A7)
   (Al (A8 (Bx B0 (pv 6) (AG Mt (CZ GL B.b_len (Aa (pv 2) Ac)) Ah) (Bs _)) (Ax (AJ (AD (Aa (AD (Aa (AD (Aa AH (Aa (pv 8) Ac))) (Aa Ci Ac))) (Aa (pv 3) (Aa (pv 4) (Aa (CZ (SE rfl) B.b_sorted (Aa (pv 5) Ac)) Ac))))))) A7)
   (Al (A8 (Bx B0 (AB AC (AB AC (pv 13) Ah) Ah) AH (Bs _)) (Ax (Cf Gm (JX (pv 5) (pv 10) (Um (MB hr))))) A7)
   (Ax (A8 (Bx Mv (pv 16) AH (Bs _)) (Ax (AJ (AD (Aa (AV bb (Aa (pv 16) (Aa (pv 6) (Aa (pv 10) (Aa (A1 Ac) Ac))))) (Aa (pv 3) (Aa (pv 4) (Aa (CZ (SE rfl) B.b_sorted (Aa (pv 5) Ac)) Ac))))))) A7))))))))))))
  (Ax (AJ Ci)))))),?_⟩
 rfl';refine⟨by decide,λd bc=>?_⟩;obtain⟨cx,bB,s1,bC⟩:=new_at (o:=.lst []) bc;rw[<-bB];intro m bd;obtain⟨cy,bD,s2,be⟩:=new_at (o:=.dK []) bd;rw[<-bD];have bf:=s1.trans s2;have aT:=s2 _ _ bC;have lP:(P.map V.str).length=P.length:=An _;have bv:H m=none:=s1.free bd;have aB:d≠m:=λz=>by rw[z,be] at aT;cases aT
 refine Bz ?_;generalize I:List.set _ 5 _=σ;obtain rfl:σ=[some (.ref a),some (.ref R),some (.ref p),some (.ref d),some (.int 0),some (.ref m),none,none,none,none,none,none,none,none,none,none,none,none,none]:=I.symm;clear I
 refine⟨_,j' ⟨_,Aq.of (bf _ _ ep),rfl⟩,by lia,by lia,Nk (lo:=0) (n:=(((P.map V.str).length:Nat):Int).toNat) (λi σ J=>∃(u6 u7 u8 u9 aC aD aE aF aG aH aI ax G:U')(u:S')(q:List (A3×V))(g:E'),σ=[some (.ref a),some (.ref R),some (.ref p),some (.ref d),some (.int ((List.range i).map λj=>(1:Int)*2 ^ Ca ns j).sum),some (.ref m),u6,u7,u8,u9,aC,aD,aE,aF,aG,aH,aI,ax,G]/\Ad H J/\J d=some (.lst u)/\u.length=i/\Am (λx=>x≠d) J u ((Ey ns st0 inn f i).map λl=>.lst (l.2.2.map Bn.D))/\J m=some (.dK q)/\q.map (·.1)=g.map Sum.inl/\g.Nodup/\g.length<=3*i/\(∀y,y∈g↔y∈Bu W (Ey ns st0 inn f i) (Io ns i))/\i<P.length/\S1 W inn ord ns st0 P f i)
  ⟨none,none,none,none,none,none,none,none,none,none,none,none,none,[],[],[],rfl,bf,aT,rfl,.nil,be,rfl,List.nodup_nil,AK _,λy=>Iff.rfl,by lia,λa w ls ts h=>h⟩ ?_ ?_⟩
 refine λi σ H3 ζ T=>AZ λNz s=>?_;obtain⟨u6,u7,u8,u9,aC,aD,aE,aF,aG,aH,aI,ax,G,u,q,g,rfl,s3,U,lw,ow,ah,r,v,ag,E,hi,ak⟩:=T;refine s ?_;clear s;rw[Int.zero_add];have Z:=AM hi;obtain⟨x,ex⟩:∃x,x=P[i]:=⟨_,rfl⟩;rw[<-ex] at Z;obtain⟨look,b5⟩:=dt.at_ Z;obtain⟨c3,pr,bE,b6⟩:=dt.lev i x Z;refine⟨a,ns,i,rfl,s3.seq hS,by lia,λr1 H4 s4 bF=>⟨_,Aq.of bF,rfl,?_⟩⟩;refine⟨FH ns i,dT ns i,dU ns i,dQ ns i,dR ns i,DZ ns i,rfl,Et _ (by decide),λaf H5 s5 o=>?_⟩;refine AZ λNz s=>?_;obtain⟨r2,B,Kn,L,b0,b1,c0,c1,aw,rfl,bG,eB,al,c4,eK,o0,o1,eM,GM,fB,fK,fM⟩:=o.lv;refine s ?_;clear s;refine⟨_,Aq.of bG,rfl,?_⟩;dsimp only[JW,Gp,Go,mC,mN];generalize I:List.set _ 16 _=σ;obtain rfl:σ=[some (.ref a),some (.ref R),some (.ref p),some (.ref d),some (.int ((List.range i).map λj=>(1:Int)*2 ^ Ca ns j).sum),some (.ref m),some (.int i),some (.int (FH ns i)),some (.int (dT ns i)),some (.int (dU ns i)),some (.int (dQ ns i)),some (.int (dR ns i)),some (.int (DZ ns i)),some (.ref B),some (.ref Kn),some (.ref L),some (.str (D0 ns i).wd),ax,G]:=I.symm;clear I;have X:=s4.trans s5;have bg:=s3.trans X;refine⟨(by show(0:Int)<8;decide),?_⟩;refine Bz ?_;have bH:(DZ ns i-1)%8=((Ca ns i:Nat):Int):=by unfold Ca;lia
 generalize I:List.set _ 17 _=σ;obtain rfl:σ=[some (.ref a),some (.ref R),some (.ref p),some (.ref d),some (.int ((List.range i).map λj=>(1:Int)*2 ^ Ca ns j).sum),some (.ref m),some (.int i),some (.int (FH ns i)),some (.int (dT ns i)),some (.int (dU ns i)),some (.int (dQ ns i)),some (.int (dR ns i)),some (.int (DZ ns i)),some (.ref B),some (.ref Kn),some (.ref L),some (.str (D0 ns i).wd),some (.int (Ca ns i)),G]:=by rw[<-I,<-bH];rfl
 clear I;have bh:(D0 ns i).ms.length<=2:=Ov (FH ns i) (dT ns i) (dU ns i) (dQ ns i) (dR ns i) (DZ ns i);refine⟨j9 ⟨rfl,_,Ai.of (X _ _ U)⟩,R,L,aY,aZ,ba,us,Gs,Es,gt,qt,W.ss,W.gs,qs,Ca ns i,(D0 ns i).ms.length,f i,aw.map V.ref,_,rfl,bg _ _ eN,N3.same bg,b6.s,by rw[<-bE,AY,An],eM,by rw[An,GM.len],Ea bh (by decide),λD an H6 hD s6 eD aJ=>?_⟩;have ay:=X.trans s6;have az:=ay _ _ U;refine⟨_,az,BX (by lia),?_⟩;have aK:D≠d:=λz=>by rw[z,X _ _ U] at hD;cases hD
 have bi:∀{vs:S'}{ds:List Dt},Am (λx=>x≠d) H6 vs ds->Am (λx=>x≠d) (upd H6 d (.lst (u++[.ref D]))) vs ds:=λo=>o.go (λb xs e=>by rw[AI λz=>by rw[z,az] at e;cases e];exact e) λb xs e n=>⟨by rw[AI n];exact e,n⟩;have bj:Am (λx=>x≠d) (upd H6 d (.lst (u++[.ref D]))) (u++[.ref D]) ((Ey ns st0 inn f (i+1)).map λl=>.lst (l.2.2.map Bn.D)):=(by rw[Dg,Bh];refine(bi (ow.same ay)).snoc (.lst (by rw[AI aK];exact eD) aK (bi (aJ.go (λζ ζ e=>e) λb xs e n=>⟨e,λz=>?_⟩)));rw[z,X _ _ U] at n;cases n);have O:∀b,b≠d->(upd H6 d (.lst (u++[.ref D]))) b=H6 b:=λb h=>AI h;have bk:(upd H6 d (.lst (u++[.ref D]))) d=some (.lst (u++[.ref D])):=Ab;generalize upd H6 d (.lst (u++[.ref D]))=H7 at bj O bk ⊢
 have cm:∀{vs:S'}{ds:List Dt},Am (λx=>H5 x=none) H6 vs ds->Am (λx=>x≠d) H7 vs ds:=λo=>o.go (λb xs e=>by rw[O b λz=>by rw[z,az] at e;cases e];exact e) λb xs e n=>by
  have nb:b≠d:=λz=>by rw[z,X _ _ U] at n;cases n
  exact⟨(O b nb).trans e,nb⟩
 have bI:D≠m:=λz=>by rw[z,X _ _ ah] at hD;cases hD
 have bJ:Ad H H7:=λb o e=>(O b (Be e bc)).trans ((s3.trans ay) _ _ e);have bK:L≠d:=λz=>by rw[z,s4 _ _ U] at fM;cases fM
 have bl:H7 L=some (.lst (aw.map V.ref)):=(O L bK).trans (s6 _ _ eM)
 have a0:GT H7 aw (D0 ns i).ms:=⟨GM.len,λn t b7 h1 h2=>by
  have e:=s6 _ _ (GM.at_ n t b7 h1 h2);rw[O t λz=>by rw[z,az] at e;cases e];exact e⟩
 have bL:L≠m:=λz=>by rw[z,s4 _ _ ah] at fM;cases fM
 have ai:H7 m=some (.dK q):=(O m (Ne.symm aB)).trans (ay _ _ ah);have bM:H7 D=some (.lst an):=(O D aK).trans eD;refine⟨⟨by lia,by lia,by decide⟩,?_⟩;dsimp only[GK,Ia];refine Bz ?_;generalize I:List.set _ 4 _=σ
 obtain rfl:σ=[some (.ref a),some (.ref R),some (.ref p),some (.ref d),some (.int ((List.range (i+1)).map λj=>(1:Int)*2 ^ Ca ns j).sum),some (.ref m),some (.int i),some (.int (FH ns i)),some (.int (dT ns i)),some (.int (dU ns i)),some (.int (dQ ns i)),some (.int (dR ns i)),some (.int (DZ ns i)),some (.ref B),some (.ref Kn),some (.ref L),some (.str (D0 ns i).wd),some (.int (Ca ns i)),G]:=by
  rw[<-I,List.range_succ,Bh,List.sum_append,Do,Mm,List.sum_cons,List.sum_nil,Int.add_zero];rfl
 clear I
 refine⟨⟨_,Ai.of bl⟩,Fz (xs:=aw.map V.ref) (λk σ J=>∃(G:U')(q:List (A3×V))(g:E'),σ=[some (.ref a),some (.ref R),some (.ref p),some (.ref d),some (.int ((List.range (i+1)).map λj=>(1:Int)*2 ^ Ca ns j).sum),some (.ref m),some (.int i),some (.int (FH ns i)),some (.int (dT ns i)),some (.int (dU ns i)),some (.int (dQ ns i)),some (.int (dR ns i)),some (.int (DZ ns i)),some (.ref B),some (.ref Kn),some (.ref L),some (.str (D0 ns i).wd),some (.int (Ca ns i)),G]/\(∀b,b≠m->J b=H7 b)/\J m=some (.dK q)/\q.map (·.1)=g.map Sum.inl/\g.Nodup/\g.length<=3*i+k/\∀y,y∈g↔y∈Bu W (Ey ns st0 inn f i) (Io ns i)\/(i6,y)∈(D0 ns i).ms.take k)
  ⟨G,q,g,rfl,λb ζ=>rfl,ai,r,v,by lia,λy=>(E y).trans ⟨.inl,λz=>z.elim id λz=>by cases z⟩⟩ (λk σ J ζ bN=>by obtain⟨_,_,_,_,A,_⟩:=bN;exact Ai.of ((A L bL).trans bl)) ?_ ?_⟩
 refine λk af σ H8 hv T=>AZ λNz s=>?_;obtain⟨G,q,g,rfl,A,aa,r,v,ag,E⟩:=T;refine s ?_;clear s;obtain⟨t,ht,rfl⟩:=getm hv;have bm:=(Bi.mp ht).1;rw[a0.len] at bm;have hg:=AM bm;have et:=a0.at_ k t _ ht hg;have aL:H8 t=_:=(A t λz=>by rw[z,ai] at et;cases et).trans et;generalize (D0 ns i).ms[k]=au at hg aL;have bn:(D0 ns i).ms.take (k+1)=(D0 ns i).ms.take k++[au]:=by rw[En,hg];rfl
 refine j' (j9 ⟨_,_,Aq.of aL,BJ (j:=0) rfl,rfl,rfl,At (λc=>?_) (λc=>?_)⟩);have eg:au.1=i6:=V.str.inj (Bd c);refine j' (j9 ⟨_,_,Aq.of aL,BJ (j:=1) rfl,m,_,rfl,Gr.k (k:=.inl au.2) aa (BX (by have:=By List.length r;rw[An,An] at this;lia)),?_⟩);obtain⟨Y,p1,av,p3,p4⟩:=Wm r v au.2 (.bl true);refine⟨_,_,Y,rfl,λb h=>(AI h).trans (A b h),Ab,p1,av,by lia,λy=>?_⟩;rw[p3,E,bn,BI,AX,or_assoc];refine or_congr Iff.rfl (or_congr Iff.rfl ⟨λe=>by rw[e,<-eg],λe=>by rw[<-e]⟩);refine⟨_,_,g,rfl,A,aa,r,v,by lia,λy=>?_⟩;rw[E,bn,BI,AX,<-or_assoc];exact⟨.inl,λz=>z.elim id λe=>absurd (A5 (by rw[<-e])) c⟩;refine λσ H8 T=>AZ λNz s=>?_;obtain⟨G,q,g,rfl,A,aa,r,v,ag,E⟩:=T;refine s ?_;clear s;rw[An,a0.len] at ag
 have a1:∀y,y∈g↔y∈Bu W (Ey ns st0 inn f (i+1)) (Io ns i):=λy=>by
  rw[E,ZS dt Z,An,a0.len,Dw]
 clear E;have a2:Ad H H8:=λb o e=>(A b (Be e bv)).trans (bJ _ _ e);have ao:=(A d aB).trans bk;have aM:Am (λx=>x≠d) H8 (u++[.ref D]) ((Ey ns st0 inn f (i+1)).map λl=>.lst (l.2.2.map Bn.D)):=bj.go (λb xs e=>by rw[A b λz=>by rw[z,ai] at e;cases e];exact e) λb xs e n=>⟨by rw[A b λz=>by rw[z,ai] at e;cases e];exact e,n⟩;have bO:=(A D bI).trans bM;have bP:=a2 _ _ ep;have cn:Am (λx=>x≠d) H8 an ((Ck (Ca ns i) (f i) (D0 ns i).ms.length).map Bn.D):=(cm aJ).go (λb xs e=>by rw[A b λz=>by rw[z,ai] at e;cases e];exact e) λb xs e n=>⟨by rw[A b λz=>by rw[z,ai] at e;cases e];exact e,n⟩;have aU:Ey ns st0 inn f i++[JF ns st0 inn f i]=Ey ns st0 inn f (i+1):=Dg.symm;have c5:q.length=g.length:=by have:=By List.length r;rwa [An,An] at this
 have aN:∀{N:Hp}{S:V}{q:List (A3×V)}{g:E'}{a:C'}{w:Option Wt}{ts:E'},Ad H N->N d=some (.lst (u++[.ref D]))->Am (λx=>x≠d) N (u++[.ref D]) ((Ey ns st0 inn f (i+1)).map λl=>.lst (l.2.2.map Bn.D))->AL (λζ=>True) N S (.tup [Bb a,Hx w])->N m=some (.dK q)->q.map (·.1)=g.map Sum.inl->g.Nodup->g.length<64->(∀y,y∈g↔y∈Bu W (Ey ns st0 inn f (i+1)) ts)->LU W inn ord (Ca ns 0) st0 P 0 a w (Ey ns st0 inn f (i+1)) ts ->
  VQ [.ref m] N λaf aO=>4<=sizeLine/\∀aj,aO aj=none->aX (.ref aj) (upd aO aj (.tup [S,.ref d,.int ((List.range (i+1)).map λj=>(1:Int)*2 ^ Ca ns j).sum,af])):=by
  intro N S q g a w ts aP cp cq M cs r v bQ E Q;refine⟨m,q,g,rfl,cs,r,v,bQ,λAs Y bR bS bT=>⟨EG,λaj hr=>?_⟩⟩;have t1:=A9 (o:=.lst (Y.map V.int)) bT;have bo:(upd N As (.lst (Y.map V.int))) As=some (.lst (Y.map V.int)):=Ab;generalize upd N As (.lst (Y.map V.int))=aO at t1 bo hr ⊢;have t2:=A9 (o:=.tup [S,.ref d,.int ((List.range (i+1)).map λj=>(1:Int)*2 ^ Ca ns j).sum,.ref As]) hr;have a3:=t1.trans t2;refine kq aj d As S _ Y a w _ ts _ (aP.trans a3) ?_ (M.same a3) (a3 _ _ cp) ((cq.go (λζ ζ e=>e) λζ ζ e ζ=>⟨e,True.intro⟩).same a3) (t2 _ _ bo) bR (λy=>(bS y).trans (E y)) Q;rw[<-ZV (ns:=ns) (st0:=st0) (inn:=inn) (f:=f) (i+1) (by lia)];exact Ab
 refine⟨Fo,λl9 bU=>?_⟩;obtain⟨H9,bV,C,e9⟩:=new_at (o:=.lst [.str "none",.str "torn",.str "by"]) bU;rw[<-bV];refine⟨l9,_,rfl,j9 (Ai.of e9),rfl,rfl,?_⟩;have bW:=a2.trans C;rcases ZW (inn:=inn) (st:=Mb st0 inn i) b5 i with⟨aQ,a',w',a6,bX,aV⟩|⟨aQ,a6,bp⟩;rw[aQ];refine⟨rfl,Cw ?_⟩;refine j9 ⟨_,.ref D,Ai.of (C _ _ ao),Pe _ _,?_⟩;refine⟨by decide,λe0 aq=>?_⟩;obtain⟨a4,aW,aR,aS⟩:=new_at (o:=.lst []) aq;rw[<-aW];refine⟨Fn,λe1 bY=>?_⟩;obtain⟨bq,ar,ab,bZ⟩:=new_at (o:=.lst [.ref e0]) bY;rw[<-ar];have ae:=C.trans (aR.trans ab);have c6:an.length<=2:=by rw[aJ.length,An,An,m5];exact bh
 refine⟨D,e1,_,_,rfl,rfl,ae _ _ bO,bZ,Ea (by show an.length+1<=3;lia) Fo,λcc ca=>?_⟩;obtain⟨br,ct,a5,cb⟩:=new_at (o:=.lst (an++[.ref e0])) ca;rw[<-ct];have bw:=ae.trans a5;have cd:e0≠d:=λz=>by rw[z,C _ _ ao] at aq;cases aq
 obtain⟨af,aA,hv,ov,hd⟩:=ZX (cn.same bw) (e:=.ref e0) (.lst ((ab.trans a5) _ _ aS) cd .nil);refine j9 ⟨_,af,Ai.of cb,BJ hv,_,(i:Int),dQ ns i,af,aA,rfl,ov.go (λζ ζ e=>e) λζ ζ e ζ=>⟨e,True.intro⟩,λS N aP M=>?_⟩;have a7:=bw.trans aP;have Q:=ak a' w' [JF ns st0 inn f i] [] (by rw[Jh Z];exact .stop look a6 (.inl bX));rw[aU,DR] at Q;have M:AL (λζ=>True) N S (FJ (D0 ns i).wd i (dQ ns i) aA):=M;rw[aV aA hd] at M;exact aN (a2.trans a7) (a7 _ _ ao) (aM.same a7) M (a7 _ _ aa) r v (by lia) a1 Q;rw[aQ];refine⟨rfl,Bl ?_⟩;refine⟨_,j' ⟨_,Aq.of (C _ _ bP),rfl⟩,rfl,rfl,At (λc=>?_) (λc=>?_)⟩;have c:=V.int.inj (Bd c);refine⟨AR,λp1 cf=>?_⟩;obtain⟨a4,aW,aR,cg⟩:=new_at (o:=.tup [.str "thing",.int (dT ns i)]) cf;rw[<-aW];refine⟨AR,λav ch=>?_⟩;obtain⟨bq,ar,ab,cj⟩:=new_at (o:=.tup [.ref p1,.non]) ch;rw[<-ar];have ae:=C.trans (aR.trans ab);have ck:P.drop i=[x]:=(by rw[Jh Z,List.drop_eq_nil_of_le (by lia)]);have Q:=ak (some (f',dT ns i)) none [JF ns st0 inn f i] [] (by rw[ck];exact .stop look (a6 _) (.inr rfl));rw[aU,DR] at Q;exact aN (a2.trans ae) (ae _ _ ao) (aM.same ae) (.tup cj (.cons (.tup (ab _ _ cg) (.cons (.str _) (.cons (.int _) .nil))) (.cons .non .nil))) (ae _ _ aa) r v (by lia) a1 Q;have c:i+1<P.length:=(by have:¬(i:Int)=((P.map V.str).length:Int)-1:=λz=>c (A5 (by rw[z]));lia);unfold JV;dsimp only;have bs:=hi;refine NE (λσ' J=>∃(q:List (A3×V))(g:E'),σ'=[some (.ref a),some (.ref R),some (.ref p),some (.ref d),some (.int ((List.range (i+1)).map λj=>(1:Int)*2 ^ Ca ns j).sum),some (.ref m),some (.int i),some (.int (FH ns i)),some (.int (dT ns i)),some (.int (dU ns i)),some (.int (dQ ns i)),some (.int (dR ns i)),some (.int (DZ ns i)),some (.ref B),some (.ref Kn),some (.ref L),some (.str (D0 ns i).wd),some (.int (Ca ns i)),G]/\(∀b,b≠m->J b=H9 b)/\J m=some (.dK q)/\q.map (·.1)=g.map Sum.inl/\g.Nodup/\g.length<=3*(i+1)/\∀y,y∈g↔y∈Bu W (Ey ns st0 inn f (i+1)) (Io ns (i+1))) ?_ (λcz hN=>?_);refine λσ' a4 T=>AZ λNz s=>?_;obtain⟨q,g,rfl,a8,bx,r,v,ag,bt⟩:=T;refine s ?_;clear s;have bz:Ad H a4:=λb o e=>(a8 b (Be e bv)).trans (bW _ _ e);have b2:=(a8 d aB).trans (C _ _ ao);have bu:=C _ _ aa;have b3:Am (λx=>x≠d) a4 (u++[.ref D]) ((Ey ns st0 inn f (i+1)).map λl=>.lst (l.2.2.map Bn.D)):=(aM.same C).go (λb xs e=>by rw[a8 b λz=>by rw[z,bu] at e;cases e];exact e) λb xs e n=>⟨by rw[a8 b λz=>by rw[z,bu] at e;cases e];exact e,n⟩;refine⟨rfl,rfl,At (λe=>?_) (λe=>?_)⟩;rcases bp with⟨h,_⟩|⟨_,a',w',hl,aV⟩;rw[h] at e;exact absurd e (by decide +kernel);refine⟨by decide,λe0 aq=>?_⟩;obtain⟨bq,ar,ab,aS⟩:=new_at (o:=.lst []) aq;rw[<-ar];refine⟨_,(i:Int),dQ ns i,.ref e0,.lst [],rfl,.lst aS True.intro .nil,λS br a5 M=>?_⟩;have a9:=ab.trans a5;have hy:=AM c;have Q:=ak a' w' [JF ns st0 inn f i] [dT ns i] (by rw[Jh Z,Jh hy];exact hl _ _ _ _ look);rw[aU,<-S3] at Q;have M:AL (λζ=>True) br S (FJ (D0 ns i).wd i (dQ ns i) (.lst [])):=M;rw[aV] at M;exact aN (bz.trans a9) (a9 _ _ b2) (b3.same a9) M (a9 _ _ bx) r v (by lia) bt Q;rcases bp with⟨_,ins⟩|⟨h,_⟩;refine⟨_,_,_,_,_,_,_,_,_,_,_,_,_,_,q,g,rfl,bz,b2,by rw[AY,lw];rfl,b3,bx,r,v,ag,bt,c,dt.next Z c a6 ins ak⟩;exact absurd (by rw[DS λz=>h (V.str.inj z)];rfl) e;have cu:H8 b0=_:=(A b0 λz=>by rw[z,X _ _ ah] at al;cases al).trans ((O b0 λz=>by rw[z,X _ _ U] at al;cases al).trans (s6 _ _ al));have cl:H8 B=_:=(A B λz=>by rw[z,s4 _ _ ah] at fB;cases fB).trans ((O B λz=>by rw[z,s4 _ _ U] at fB;cases fB).trans (s6 _ _ eB));refine j9 ⟨_,.ref b0,Ai.of (C _ _ cl),BJ (j:=0) rfl,j' (j9 ⟨_,_,Aq.of (C _ _ cu),BJ (j:=0) rfl,rfl,rfl,At (λe=>?_) (λe=>?_)⟩)⟩;have e:=V.str.inj (Bd e);obtain⟨Y,p1,av,p3,p4⟩:=Wm r v (dQ ns i) (.bl true);refine⟨m,_,rfl,Gr.k (k:=.inl (dQ ns i)) (C _ _ aa) (BX (by lia)),hN _ _ ⟨_,Y,rfl,λb h=>AI h,Ab,p1,av,by lia,λy=>?_⟩⟩;rw[p3,a1,Wl dt bs];exact or_congr Iff.rfl ⟨λz=>⟨e,z⟩,λz=>z.2⟩;refine hN _ _ ⟨q,g,rfl,λb ζ=>rfl,C _ _ aa,r,v,by lia,λy=>?_⟩;rw[a1,Wl dt bs];exact⟨.inl,λz=>z.elim id λz=>absurd (A5 (by rw[z.1])) e⟩;refine λσ H3 T=>AZ λNz s=>?_;obtain⟨u6,u7,u8,u9,aC,aD,aE,aF,aG,aH,aI,ax,G,u,q,g,rfl,s3,U,lw,ow,ah,r,v,ag,E,hi,ak⟩:=T;refine s ?_;clear s;lia
inductive Dh (K:Aj) (vs:S') (H:Hp) (Q:VK):Prop where
 |mk (t a o:Addr) (inn:V) (ss:List DU) (n:Int) (k:Nat) (s:DU) (x:Str) (h0:vs=[.ref t,.int n,.str x]) (h1:n=k) (h2:Aq K H t [.ref a,inn,.ref o]) (h3:Hg K H a ss) (h4:ss[k]?=some s) (h5:Q (DW (EK s.1 x)) H):Dh K vs H Q
def Z0 (K:Aj):Sp:=λvs H Q ζ=>Dh K vs H Q
abbrev Qa(P w K mg base):=BG P w K mg base "next_state" 1 ["table", "state", "label"] (Z0 K)
theorem Z1(B:BH mg)(F:Bt K "next_state" "next_state" QE f fd)(D:mg "next_state" = some (.ref f)):Qa P w K mg base:=by
 refine BZ F D PY (λl H Q E h=>?_) (λae A af s H l Q E hr h=>?_);obtain⟨t,a,o,T,G,n,k,s,x,rfl,_⟩:=h;rfl;obtain⟨t,a,o,T,G,n,k,s,x,rfl,rfl,I,⟨l,J,L⟩,M,q⟩:=h;obtain⟨aa,N,U⟩:=L.get' (i:=k) (d:=J8 s) (by rw[Bf,M];rfl);obtain⟨st,g,e,rfl,W,⟨O,u,C⟩,he⟩:=J9 U;have X:=C.len_map
 refine⟨_,(Al (AU (i:=3) PY.nd (AB AC (AB AC (AB AC (pv 0) Ah) (pv 1)) Ah))
  (Al (Dq C0 rfl (Dy (pv 3)) (BO (n:=2) rfl (Az (Ar (i:=4) PY.nd) (Az (Ar (i:=5) PY.nd) BN))) (Ax (A8 (Bx B0 (pv 4) (pv 2) (Bs _)) (Ax (AJ (pv 5))) A7)))
  (Ax (AJ Ci)))),?_⟩
 rfl';refine j' (j9 ⟨_,.ref a,I,rfl,?_⟩);refine j9 ⟨l,.ref st,J,BJ N,?_⟩;refine j' (j9 ⟨_,.ref g,W,rfl,?_⟩);refine⟨⟨_,u⟩,Fz (xs:=O) (λi σ v=>∃m r,σ=[some (.ref t),some (.int k),some (.str x),some (.ref g),m,r]/\v=H/\∀q∈s.1.take i,q.1≠x) ⟨none,none,rfl,rfl,λq b=>by simp at b⟩ (λi σ v ζ Y=>by obtain⟨_,_,_,e,_⟩:=Y;exact by rw[e];exact u) ?_ ?_⟩;rintro i ab σ Z R ⟨m,r,rfl,rfl,j⟩;obtain⟨p,t',y,rfl,S⟩:=C.goes_get R;refine⟨_,S,rfl,?_⟩;refine⟨rfl,rfl,?_⟩;refine At (λc=>?_) (λc=>?_);have c:p.1=x:=V.str.inj (Bd c);rw[Hq y c j] at q;exact q;have c:p.1≠x:=λz=>c (A5 (by rw[z]));refine⟨_,_,rfl,rfl,λq b=>?_⟩;rw[En,y] at b;rcases BI.mp b with b|b;exact j q b;rw[AX.mp b];exact c;rintro σ Z ⟨m,r,rfl,rfl,j⟩;rw[X,Dw] at j;rw[UL j] at q;exact q
inductive B7 (K:Aj) (vs:S') (H:Hp) (Q:VK):Prop where
 |mk (t S T R A:Addr) (ths:J') (as:List (C')) (n:Int) (k:Nat) (h0:vs=[.ref t,.ref A,.int n]) (h1:n=k) (h2:k<as.length) (h3:Aq K H t [.ref S,.ref T,.ref R]) (h4:Ed K H T ths) (h5:Ih K H A as) (h6:Ga ths as) (h7:∀(r:Addr)(H':Hp),H r=none->Ad H H'->H' r=some (.tup [.str (DV ths as n).1,.int (DV ths as n).2])->Q (.ref r) H'):B7 K vs H Q
def Z2 (K:Aj):Sp:=λvs H Q ζ=>B7 K vs H Q
abbrev S4(P w K mg base):=BG P w K mg base "inside_of_sort" 1 ["net", "answers", "question"] (Z2 K)
def Z3(B:BH mg)(F:Bt K "inside_of_sort" "inside_of_sort" QF f fd)(c:mg "inside_of_sort" = some (.ref f)):S4 P w K mg base:=by
 refine BZ F c PZ (λg H Q E h=>?_) (λaa A ab s H g Q E a h=>?_);obtain⟨t,S,T,R,A,e,x,n,k,rfl,_⟩:=h;rfl;obtain⟨t,S,T,R,A,e,x,n,k,rfl,rfl,y,C,D,G,ok,q⟩:=h;obtain⟨g,v,N,I,L⟩:=G.get y
 refine⟨_,(Al (AU (i:=3) PZ.nd (AB AC (pv 1) (pv 2)))
  (Al (A8 (GJ (GW (pv 3))) (Ax (AJ (AD (Aa AH (Aa (pv 2) Ac))))) A7)
  (Al (A8 (Bx B0 (AB AC (pv 3) Ah) AH (Bs _)) (Al (Cf (AB AC (AB AC (pv 0) Ah) (AB AC (pv 3) Ah)) (BO (n:=2) rfl (Az (Ar (i:=4) PZ.nd) (Az (Ar (i:=5) PZ.nd) BN))))
   (Ax (A8 (Bx B0 (pv 4) AH (Bs _)) (Ax (AJ (AD (Aa AH (Aa (pv 5) Ac))))) A7))) A7)
  (Ax (AJ (AD (Aa AH (Aa Ah Ac)))))))),?_⟩
 rfl';refine j9 ⟨g,v,N,BJ I,?_⟩;rcases L with⟨b,rfl⟩|⟨p,Z,b,rfl,u⟩;refine⟨rfl,At (λζ=>?_) (λh=>absurd (A5 rfl) h)⟩;refine⟨AR,λr a=>?_⟩;rw[XA b] at q;exact q r _ a (A9 a) Ab;refine⟨rfl,At (λh=>absurd (Bd h) (by simp)) (λζ=>?_)⟩;refine j' (j9 ⟨_,.str p.1,u,rfl,rfl,rfl,At (λh=>?_) (λh=>?_)⟩);have d:p.1=f':=V.str.inj (Bd h);obtain⟨M,p1⟩:=ok.t p (Bq b) d;obtain⟨m,c⟩:=DJ M;have O:m<e.length:=(by lia);have j:=AM O;obtain⟨J,o,U,W,X⟩:=D.get j;have Y:BW J p.2=some (.ref o):=by rw[c];exact BJ W
 refine j' (j9 ⟨_,.ref T,C,rfl,j' (j9 ⟨_,.int p.2,u,rfl,j9 ⟨J,.ref o,U,Y,?_⟩⟩)⟩);refine⟨_,X,rfl,?_⟩;refine⟨rfl,rfl,At (λh=>?_) (λh=>?_)⟩;have l:e[m].1=i8:=V.str.inj (Bd h);refine⟨AR,λr a=>?_⟩;rw[XC b d c j l] at q;exact q r _ a (A9 a) Ab;have l:e[m].1≠i8:=λz=>h (A5 (by rw[z]));refine⟨AR,λr a=>?_⟩;rw[XD b d c j l] at q;exact q r _ a (A9 a) Ab;have d:p.1≠f':=λz=>h (A5 (by rw[z]));refine⟨AR,λr a=>?_⟩;rw[XB b d] at q;exact q r _ a (A9 a) Ab
inductive FK (K:Aj) (vs:S') (H:Hp) (Q:VK):Prop where
 |mk (t S T R A:Addr) (ths:J') (as:List (C')) (n:Int) (k:Nat) (p:Str×Int) (h0:vs=[.ref t,.ref A,.int n]) (h1:n=k) (h2:ths[k]?=some p) (h3:Aq K H t [.ref S,.ref T,.ref R]) (h4:Ed K H T ths) (h5:Ih K H A as) (h6:Ga ths as) (h7:∀(r:Addr)(H':Hp),H r=none->Ad H H'->H' r=some (.tup [.str (Fp ths as p).1,.int (Fp ths as p).2])->Q (.ref r) H'):FK K vs H Q
def Z4 (K:Aj):Sp:=λvs H Q ζ=>FK K vs H Q
abbrev Qb(P w K mg base):=BG P w K mg base "inside" 2 ["net", "answers", "thing"] (Z4 K)
def Z5(B:BH mg)(C:S4 P w K mg base)(F:Bt K "inside" "inside" QG f fd)(g:mg "inside" = some (.ref f)):Qb P w K mg base:=by
 refine BZ F g SH (λu H Q E h=>?_) (λM A N s H u Q E a h=>?_);obtain⟨t,S,T,R,A,c,b,n,k,p,rfl,_⟩:=h;rfl;obtain⟨t,S,T,R,A,c,b,n,k,p,rfl,rfl,j,l,o,v,ok,q⟩:=h;obtain⟨J,x,D,G,I⟩:=o.get j
 refine⟨_,(Al (Cf (AB AC (AB AC (pv 0) Ah) (pv 2)) (BO (n:=2) rfl (Az (Ar (i:=3) SH.nd) (Az (Ar (i:=4) SH.nd) BN))))
  (Al (A8 (Bx B0 (pv 3) AH (Bs _)) (Ax (AJ (AD (Aa AH (Aa (pv 4) Ac))))) A7)
  (Al (A8 (Bx B0 (pv 3) AH (Bs _)) (Ax (AJ (AV C (Aa (pv 0) (Aa (pv 1) (Aa (pv 4) Ac)))))) A7)
  (Ax (AJ (AD (Aa AH (Aa Ah Ac)))))))),?_⟩
 rfl';refine j' (j9 ⟨_,.ref T,l,rfl,j9 ⟨J,.ref x,D,BJ G,?_⟩⟩);refine⟨_,I,rfl,?_⟩;refine⟨rfl,rfl,At (λh=>?_) (λh=>?_)⟩;have d:p.1=i8:=V.str.inj (Bd h);refine⟨AR,λr a=>?_⟩;rw[show Fp c b p=(i3,p.2) from Ap d] at q;exact q r _ a (A9 a) Ab;have d:p.1≠i8:=λz=>h (A5 (by rw[z]));refine⟨rfl,rfl,At (λh=>?_) (λh=>?_)⟩;have e:p.1=i9:=V.str.inj (Bd h);obtain⟨y,L⟩:=ok.q p (Bq j) e;obtain⟨m,g⟩:=DJ y;rw[show Fp c b p=DV c b p.2 from(Ag d).trans (Ap e)] at q;exact⟨t,S,T,R,A,c,b,p.2,m,rfl,g,by lia,l,o,v,ok,q⟩;have e:p.1≠i9:=λz=>h (A5 (by rw[z]));refine⟨AR,λr a=>?_⟩;rw[show Fp c b p=(i4,0) from(Ag d).trans (Ag e)] at q;exact q r _ a (A9 a) Ab
inductive HL (K:Aj) (vs:S') (H:Hp) (Q:VK):Prop where
 |mk (t S T R A st:Addr) (ths:J') (as:List (C')) (p:CF) (h0:vs=[.ref t,.ref A,.ref st]) (h1:Aq K H t [.ref S,.ref T,.ref R]) (h2:Ed K H T ths) (h3:Ih K H A as) (h4:Ga ths as) (h5:Aq K H st (Lp p)) (h6:(p.2.1≠i3->0<=p.2.2/\p.2.2<as.length)) (h7:∀(r:Addr)(H':Hp),H r=none->Ad H H'->H' r=some (.tup [.str (EC ths as p).1,.int (EC ths as p).2])->Q (.ref r) H'):HL K vs H Q
def JG (K:Aj):Sp:=λvs H Q ζ=>HL K vs H Q
abbrev S5(P w K mg base):=BG P w K mg base "goal" 3 ["net", "answers", "step"] (JG K)
def Z6(B:BH mg)(O:Qb P w K mg base)(F:Bt K "goal" "goal" QH f fd)(e:mg "goal" = some (.ref f)):S5 P w K mg base:=by
 refine BZ F e Oc (λg H Q E h=>?_) (λaa A ab s H g Q E a h=>?_);obtain⟨t,S,T,R,A,st,o,u,p,rfl,_⟩:=h;rfl;obtain⟨t,S,T,R,A,st,o,u,p,rfl,D,G,x,ok,U,I,q⟩:=h
 refine⟨_,(Al (Cf (pv 2) (BO (n:=3) rfl (Az (Ar (i:=3) Oc.nd) (Az (Ar (i:=4) Oc.nd) (Az (Ar (i:=5) Oc.nd) BN)))))
  (Al (A8 (Bx B0 (pv 4) AH (Bs _)) (Ax (AJ (AD (Aa AH (Aa (pv 5) Ac))))) A7)
  (Al (AU (i:=6) Oc.nd (AB AC (pv 1) (pv 5)))
  (Al (A8 (GJ (GW (pv 6))) (Ax (AJ (AD (Aa AH (Aa (pv 5) Ac))))) A7)
  (Al (A8 (Bx B0 (AB AC (pv 6) Ah) AH (Bs _)) (Ax (AJ (AV O (Aa (pv 0) (Aa (pv 1) (Aa (AB AC (pv 6) Ah) Ac)))))) A7)
  (Ax (AJ (AD (Aa AH (Aa Ah Ac)))))))))),?_⟩
 rfl';refine⟨_,U,rfl,?_⟩;refine⟨rfl,rfl,At (λh=>?_) (λh=>?_)⟩;have b:p.2.1=i3:=V.str.inj (Bd h);refine⟨AR,λr a=>?_⟩;rw[XF b] at q;exact q r _ a (A9 a) Ab;have b:p.2.1≠i3:=λz=>h (A5 (by rw[z]));obtain⟨J,Y⟩:=I b;obtain⟨n,j⟩:=DJ J;obtain⟨g,v,W,L,M⟩:=x.get (k:=n) (by lia);have X:BW g p.2.2=some v:=by rw[j];exact BJ L
 refine j9 ⟨g,v,W,X,?_⟩;rcases M with⟨d,rfl⟩|⟨c,Z,d,rfl,y⟩;refine⟨rfl,At (λζ=>?_) (λh=>absurd (A5 rfl) h)⟩;refine⟨AR,λr a=>?_⟩;rw[XG b j d] at q;exact q r _ a (A9 a) Ab;refine⟨rfl,At (λh=>absurd (Bd h) (by simp)) (λζ=>?_)⟩;refine j' (j9 ⟨_,.str c.1,y,rfl,rfl,rfl,At (λh=>?_) (λh=>?_)⟩);have l:c.1=f':=V.str.inj (Bd h);obtain⟨N,q1⟩:=ok.t c (Bq d) l;obtain⟨m,e⟩:=DJ N;have C:=AM (show m<o.length by lia);rw[XI b j d l e C] at q;exact j' (j9 ⟨_,.int c.2,y,rfl,t,S,T,R,A,o,u,c.2,m,_,rfl,e,C,D,G,x,ok,q⟩);have l:c.1≠f':=λz=>h (A5 (by rw[z]));refine⟨AR,λr a=>?_⟩;rw[XH b j d l] at q;exact q r _ a (A9 a) Ab
def JH:([]:S').length+1+1+1+1<=sizeLine:=by decide
variable {s:DU}
def Z7{k:Nat}(h:W.sts[k]?=some s):D8 W (k:Int)=s.1:=by unfold D8;rw[BF,h]
def Z8{k:Nat}{s:BC}(h:W.ss[k]?=some s):B2 W (k:Int)=s.1:=by unfold B2;rw[BF,h]
def Z9{go:J'}{p:CF}{a:Int}(h:EK go p.1=some a):FC W sc go p i=[((sc,j0,(i:Int)),EC W.gs W.as p,a)]:=by unfold FC;rw[h]
def eV{go:J'}{p:CF}(h:EK go p.1=none):FC W sc go p i=[]:=by unfold FC;rw[h]
inductive Di (K:Aj) (vs:S') (H:Hp) (Q:VK):Prop where
 |mk (nt A t:Addr) (W:Wd) (sc st:Int) (h0:vs=[.ref nt,.ref A,.ref t,.int sc,.int st]) (h1:Bm K H nt A t W) (h2:Cj W) (h3:(0<=sc/\sc<W.ss.length)) (h4:(0<=st/\st<W.sts.length)) (h5:∀(D:Addr)(zs:List (Addr×Gn))(H':Hp),H D=none->Ad H H'->H' D=some (.lst (zs.map λz=>V.ref z.1))->(∀z∈zs,Kf H' z.1 z.2)->zs.map (·.2)=Gx W sc st->Q (.ref D) H'):Di K vs H Q
def eW (K:Aj):Sp:=λvs H Q ζ=>Di K vs H Q
abbrev Qc(P w K mg base):=BG P w K mg base "steps_gone" 4 ["net", "answers", "table", "scope", "state"] (eW K)
def eX(ak:BH mg)(az:Qa P w K mg base)(a0:S5 P w K mg base)(F:Bt K "steps_gone" "steps_gone" QI f fd)(c:mg "steps_gone" = some (.ref f)):Qc P w K mg base:=by
 refine BZ F c LZ (λvs H al an h=>?_) (λaN A aP s H vs al an hr h=>?_);obtain⟨B,A,t,W,sc,st,rfl,_⟩:=h;rfl
 . obtain⟨B,A,t,W,sc,st,rfl,C,ok,a1,a2,ao⟩:=h
   obtain⟨S,aq,ar,us,Gs,Es,ts,qt,qs,eN,x⟩:=C.net;obtain⟨au,o,a3,b1,av,b2,b3⟩:=C.tab;obtain⟨n,hn⟩:=DJ a1.1;obtain⟨k,hk⟩:=DJ a2.1;subst hn hk;have T:n<W.ss.length:=(by lia);have a4:k<W.sts.length:=(by lia);obtain⟨u,aa,E1,ax,aL,aM,g4,⟨c0,⟨tG,c1,E⟩,_⟩⟩:=x.sc.get T;have ae:=AM a4;have j:=Z8 g4;have eG:=Z7 ae;have a5:BW (us.map V.ref) (n:Int)=some (.ref u):=BJ (by rw[Bf,ax];rfl);have aO:=ok.st _ (Eo T)
   refine⟨_,(Al (AU (i:=5) LZ.nd (A1 Ac))
    (Al (Dq C0 rfl (Pt LK rfl ak.b_enumerate (Aa (AB AC (AB AC (AB AC (pv 0) Ah) (pv 3)) Ah) Ac)) (BO (n:=2) rfl (Az (Ar (i:=6) LZ.nd) (Az (Ar (i:=7) LZ.nd) BN))) (Al (AU (i:=8) LZ.nd (AV az (Aa (pv 2) (Aa (pv 4) (Aa (AB AC (pv 7) Ah) Ac)))))
     (Ax (A8 (GJ (Ra (pv 8))) (Al (Cf (AV a0 (Aa (pv 0) (Aa (pv 1) (Aa (pv 7) Ac)))) (BO (n:=2) rfl (Az (Ar (i:=9) LZ.nd) (Az (Ar (i:=10) LZ.nd) BN))))
      (Ax (E8 (EJ E6 Gi Gj Gv (pv 5) (Aa (AD (Aa (AD (Aa (pv 3) (Aa AH (Aa (pv 6) Ac)))) (Aa (pv 9) (Aa (pv 10) (Aa (pv 8) Ac))))) Ac))))) A7))))
    (Ax (AJ (pv 5))))),?_⟩
   rfl';refine⟨by decide,λD G=>?_⟩;obtain⟨aH,a6,l,a7⟩:=new_at (o:=.lst []) G;rw[<-a6];refine j' (j9 ⟨_,.ref S,Aq.of (l _ _ eN),rfl,j9 ⟨_,.ref u,Ai.of (l _ _ x.sc.top),a5,j' (j9 ⟨_,.ref aa,Aq.of (l _ _ c0),rfl,aa,rfl,⟨_,l _ _ c1⟩,?_⟩)⟩⟩)
   refine Pu LK (xs:=tG.map V.ref) (λi σ y=>∃I J L M U b,σ=[some (.ref B),some (.ref A),some (.ref t),some (.int n),some (.int k),some (.ref D),I,J,L,M,U]/\Ad H y/\y D=some (.lst (b.map λz:Addr×Gn=>V.ref z.1))/\(∀z∈b,Kf y z.1 z.2)/\b.map (·.2)=EL W n (D8 W k) ((B2 W n).take i) 0)
    ⟨none,none,none,none,none,[],rfl,l,a7,λz d=>by simp at d,by rw[D6];rfl⟩ (λi σ y a8=>by obtain⟨_,_,_,_,_,_,_,s,_⟩:=a8;exact Ai.of (s _ _ c1)) ?_ ?_
   rotate_left;refine λσ ab X=>AZ λNz r=>?_;obtain⟨I,J,L,M,U,b,rfl,N,v,d,c⟩:=X;refine r ?_;clear r;refine ao D b ab G N v d ?_;rw[c,An,E.len,j,Dw];unfold Gx;rw[j];refine λi aI T' σ ab hx a9 X=>AZ λNz r=>?_;obtain⟨I,J,L,M,U,b,rfl,N,v,d,c⟩:=X;refine r ?_;clear r;obtain⟨O,ag,rfl⟩:=getm hx;have ah:i<W.ss[n].1.length:=by rw[<-E.len];exact(Bi.mp ag).1
   have Q:=AM ah;have Y:=E.at_ i O _ ag Q;have mp:=Eo ah;generalize W.ss[n].1[i]=p at Q Y mp;obtain⟨H3,aA,g,aB⟩:=new_at (o:=.tup [.int i,.ref O]) a9;rw[<-aA];have a:=N.trans g;have ai:EL W n (D8 W k) ((B2 W n).take (i+1)) 0=EL W n (D8 W k) ((B2 W n).take i) 0++FC W n (D8 W k) p i:=(by rw[En,j,Q];show EL W n (D8 W k) (W.ss[n].1.take i++[p]) 0=_;rw[UN,Dx,Nat.zero_add,Nat.min_eq_left (by lia)]);refine⟨_,Aq.of aB,rfl,?_⟩;refine j' (j9 ⟨_,.str p.1,Aq.of (a _ _ Y),rfl,t,au,o,a3,W.sts,k,k,_,p.1,rfl,rfl,a.seqT b1,⟨av,a.seq b2,b3.same a⟩,ae,?_⟩);rw[<-eG]
   cases eg:EK (D8 W k) p.1 with
   |none=>refine⟨rfl,At (λh=>absurd h (by simp[DW])) (λζ=>?_)⟩;refine⟨_,_,_,_,_,b,rfl,a,g _ _ v,λz h=>(d z h).same g,?_⟩;rw[ai,eV eg,DR,c]
   |some af=>
    refine⟨rfl,At (λζ=>?_) (λh=>absurd (by simp[DW]) h)⟩;refine⟨B,S,aq,ar,A,O,W.gs,W.as,p,rfl,Aq.of (a _ _ eN),⟨_,Ai.of (a _ _ x.et),(x.tg.same a).dts⟩,C.ans.same a,ok.net,Aq.of (a _ _ Y),λe=>ok.by_ (Eo T) mp e,λaJ H4 hr s4 er=>?_⟩;refine⟨_,Aq.of er,rfl,?_⟩;have aC:=s4 _ _ (g _ _ v);refine⟨j9 ⟨rfl,_,Ai.of aC⟩,Fo,λm aD=>?_⟩;obtain⟨H5,aE,s5,ay⟩:=new_at (o:=.tup [.int n,.str "step",.int i]) aD;rw[<-aE];refine⟨JH,λz aF=>?_⟩;obtain⟨H6,aG,s6,ez⟩:=new_at (o:=.tup [.ref m,.str (EC W.gs W.as p).1,.int (EC W.gs W.as p).2,DW (some af)]) aF;rw[<-aG];have Z:=(s4.trans s5).trans s6;have aj:=Z _ _ (g _ _ v);have R:Keeps (·=D) H6 (upd H6 D (.lst (b.map (λz=>V.ref z.1)++[.ref z]))):=Keeps.one aj;have lz:b.length<=8:=(by have e1:=By List.length c;have e2:=MK W n (D8 W k) ((B2 W n).take i) 0;rw[Dx,j] at e2;rw[An] at e1;rw[j] at e1;lia);refine⟨_,aj,by rw[An];exact BX (by lia),?_⟩;refine⟨_,_,_,_,_,b++[(z,(((n:Int),j0,(i:Int)),EC W.gs W.as p,af))],rfl,λaK o e=>?_,by rw[Ab,Bh];rfl,λaw q=>?_,?_⟩;rw[AI (Be e G)];exact Z _ _ (a _ _ e);rcases BI.mp q with q|q;exact((d aw q).same (g.trans Z)).keeps R;rw[AX.mp q];exact⟨m,R.tup ez,R.tup (s6 _ _ ay)⟩;rw[ai,Z9 eg,Bh,c];rfl
variable {b:AO}
def eZ{r:Gn}(a:r.2.1.1=i3)(c:r.2.1.2∉AW b):kid b r=some (b.1++[r.1],r.2.1.2,r.2.2):=Ap ⟨a,c⟩
def fC{r:Gn}(h:¬(r.2.1.1=i3/\r.2.1.2∉AW b)):kid b r=none:=Ag h
def JI(f:α->Option β)(l:List α)(x:α):(l++[x]).filterMap f=l.filterMap f++(f x).toList:=by rw[List.filterMap_append];cases e:f x<;>simp[e]
def fD(b:AO):(AW b).length=b.1.length+1:=by unfold AW;simp
inductive BM (K:Aj) (vs:S') (H:Hp) (Q:VK):Prop where
 |mk (nt A t bt:Addr) (W:Wd) (b:AO) (h0:vs=[.ref nt,.ref A,.ref t,.ref bt]) (h1:Bm K H nt A t W) (h2:Cj W) (h3:C5 W b) (h4:(∃F,Dr F H bt b)) (h5:∀(D:Addr)(zs:List (Addr×AO))(H':Hp),H D=none->Ad H H'->H' D=some (.lst (zs.map λz=>V.ref z.1))->(∀z∈zs,Dr (λl=>H l=none/\l≠D) H' z.1 z.2)->zs.map (·.2)=DC W b->Q (.ref D) H'):BM K vs H Q
def fE (K:Aj):Sp:=λvs H Q ζ=>BM K vs H Q
abbrev S6(P w K mg base):=BG P w K mg base "longer_by_a_step" 5 ["net", "answers", "table", "beginning"] (fE K)
def fF(B:BH mg)(a3:Qc P w K mg base)(F:Bt K "longer_by_a_step" "longer_by_a_step" OO f fd)(d:mg "longer_by_a_step" = some (.ref f)):S6 P w K mg base:=by
 refine BZ F d Il (λvs H ay az h=>?_) (λaL A aP s H vs ay az hr h=>?_);obtain⟨nt,A,t,bt,W,b,rfl,_⟩:=h;rfl
 . obtain⟨nt,A,t,bt,W,b,rfl,hC,ok,U,⟨F,l,g,E,q,j,_⟩,a0⟩:=h
   have aM:g.length<=100:=(by have:=Lw W.ss.length (AW b) U.nd U.rng;rw[fD] at this;have:=ok.s5;rw[j.len];lia);have a4:=U.rng b.2.1 (by unfold AW;simp)
   refine⟨_,(Al (Cf (pv 3) (BO (n:=3) rfl (Az (Ar (i:=4) Il.nd) (Az (Ar (i:=5) Il.nd) (Az (Ar (i:=6) Il.nd) BN)))))
    (Al (AU (i:=7) Il.nd (AG My (Hc (te:=EI (Ie K) (Bj 0) (tC (.int ((0:Nat):Int)))) rfl Bw (Dy (pv 4)) (λζ ζ ζ ζ ζ=>(Ar (i:=0) Bw.nd)) (λζ ζ ζ ζ ζ=>Gu) (λζ ζ ζ ζ ζ=>(AB AC (pv 0) Ah))) (A1 (Aa (pv 5) Ac))))
    (Al (AU (i:=8) Il.nd (A1 Ac))
    (Al (Dq C0 rfl (Dy (AV a3 (Aa (pv 0) (Aa (pv 1) (Aa (pv 2) (Aa (pv 5) (Aa (pv 6) Ac))))))) (BO (n:=4) rfl (Az (Ar (i:=9) Il.nd) (Az (Ar (i:=10) Il.nd) (Az (Ar (i:=11) Il.nd) (Az (Ar (i:=12) Il.nd) BN))))) (Ax (A8 (PW.pt (KO (Bx B0 (pv 10) AH (Bs _)) (KN (Bx (Xr hr.units) (pv 11) (pv 7) (by with_unfolding_all rfl))))) (Ax (E8 (EJ E6 Gi Gj Gv (pv 8) (Aa (AD (Aa (AG My (pv 4) (A1 (Aa (pv 9) Ac))) (Aa (pv 11) (Aa (pv 12) Ac)))) Ac)))) A7)))
    (Ax (AJ (pv 8))))))),?_⟩
   rfl';refine⟨_,Aq.of E,rfl,?_⟩
   refine⟨⟨_,Ai.of q⟩,MG (xs:=g.map V.ref) (λD i J p=>Ad H p/\p D=some (.lst J)/\J=(b.1.take i).map λm=>V.int m.1)
    (λD r=>⟨A9 r,Ab,by rw[D6];rfl⟩) (λD i J p ag=>by obtain⟨s,_⟩:=ag;exact Ai.of (s _ _ q)) (λD i x J af RR r M hv k=>?_) (λa1 J aI aN hv=>?_)⟩
   obtain⟨N,eD,rfl⟩:=hv;obtain⟨tm,aq,rfl⟩:=getm M;have a5:i<b.1.length:=by rw[<-j.len];exact(Bi.mp aq).1
   have d:=AM a5;have a6:=j.at_ i tm _ aq d;have aa:b.1.take (i+1)=b.1.take i++[b.1[i]]:=by rw[En,d];rfl
   have a7:=j.len;refine j' (j9 ⟨_,.int b.1[i].1,Aq.of (N _ _ a6),rfl,?_⟩);refine k _ _ eD (by rw[An,Dx];exact BX (by lia)) ⟨λx o e=>?_,Ab,by rw[aa,Bh];rfl⟩;rw[AI (Be e r)];exact N _ _ e;obtain⟨s1,eC,rfl⟩:=hv;rw[An,j.len,Dw] at eC;refine⟨Fn,λC2 a8=>?_⟩;obtain⟨af,a9,N,aA⟩:=new_at (o:=.lst [.int b.2.1]) a8;rw[<-a9];have a7:=j.len;refine⟨a1,C2,_,_,rfl,rfl,N _ _ eC,aA,?_,λB hB=>?_⟩;rw[An];exact CT (BX (by show b.1.length+1<=1000;lia));have s3:=A9 (o:=.lst ((b.1.map λm=>V.int m.1)++[.int b.2.1])) hB
   have X:(upd af B (.lst ((b.1.map λm=>V.int m.1)++[.int b.2.1]))) B=some (.lst ((AW b).map V.int)):=by
    rw[Ab];unfold AW;simp
   generalize upd af B (.lst ((b.1.map λm=>V.int m.1)++[.int b.2.1]))=H3 at s3 X ⊢;have ar:=(s1.trans N).trans s3;refine⟨by decide,λD r=>?_⟩;have ab:H D=none:=ar.free r;obtain⟨H4,aB,s4,ah⟩:=new_at (o:=.lst []) r;rw[<-aB];have au:=ar.trans s4;refine⟨nt,A,t,W,b.2.1,b.2.2,rfl,hC.same au,ok,a4,U.st,λaJ u H5 hG Y eG aC av=>⟨⟨_,Ai.of eG⟩,?_⟩⟩;have ae:=au.trans Y;have aO:u.length<=8:=(by have E:=By List.length av;have q:=MK W b.2.1 (D8 W b.2.2) (B2 W b.2.1) 0;have j:=Pc ok b.2.1;rw[An] at E;unfold Gx at E;lia)
   refine Fz (xs:=u.map λz=>V.ref z.1) (λi σ p=>∃u9 ai aj ak a,σ=[some (.ref nt),some (.ref A),some (.ref t),some (.ref bt),some (.ref l),some (.int b.2.1),some (.int b.2.2),some (.ref B),some (.ref D),u9,ai,aj,ak]/\Keeps (·=D) H5 p/\p D=some (.lst (a.map λz:Addr×AO=>V.ref z.1))/\(∀z∈a,Dr (λl=>H l=none/\l≠D) p z.1 z.2)/\a.map (·.2)=((u.map (·.2)).take i).filterMap (kid b))
    ⟨none,none,none,none,[],rfl,Keeps.refl λx o m e=>by rw[m,Y _ _ ah] at e;exact⟨_,(BU e).symm⟩,Y _ _ ah,λz v=>by simp at v,by rw[D6];rfl⟩ (λi σ p ζ ag=>by obtain⟨_,_,_,_,_,_,k,_⟩:=ag;exact Ai.of (k.at_ _ _ eG λz=>by rw[z,ah] at hG;cases hG)) ?_ ?_
   rotate_left;refine λσ H6 I=>AZ λNz S=>?_;obtain⟨u9,ai,aj,ak,a,rfl,c,C,v,d⟩:=I;refine S ?_;clear S;refine a0 D a H6 ab (λx o e=>?_) C v ?_;exact c.at_ _ _ (ae _ _ e) (Be e ab);rw[d,An,<-An (f:=(·.2)),Dw,av];rfl;refine λi x σ H6 M I=>AZ λNz S=>?_;obtain⟨u9,ai,aj,ak,a,rfl,c,C,v,d⟩:=I;refine S ?_;clear S;refine Kj ?_;intro Nx Cy;obtain⟨z,I,rfl⟩:=getm M;obtain⟨m,al,an⟩:=aC z (Bq I);have al:=c.tup al;have an:=c.tup an;have aa:((u.map (·.2)).take (i+1)).filterMap (kid b)=((u.map (·.2)).take i).filterMap (kid b)++(kid b z.2).toList:=(by rw[En,Bf,I];exact JI _ _ _);have lz:a.length<=8:=(by have E:=By List.length d;have q:=List.length_filterMap_le (kid b) ((u.map (·.2)).take i);rw[Dx,An] at q;rw[An] at E;lia);refine⟨_,Aq.of al,rfl,?_⟩
   have skip:¬(z.2.2.1.1=i3/\z.2.2.1.2∉AW b)->a.map (·.2)=((u.map (·.2)).take (i+1)).filterMap (kid b):=λhn=>by
    rw[aa,fC hn,d];simp
   have aD:=c.at_ _ _ ((s4.trans Y) _ _ X) (λz=>by rw[z,r] at X;cases X);refine⟨rfl,rfl,At (λO=>?_) (λO=>Bl ?_)⟩;rotate_left;exact⟨_,_,_,_,a,rfl,c,C,v,skip λh=>O (A5 (by rw[h.1]))⟩;have O:z.2.2.1.1=i3:=V.str.inj (Bd O);refine⟨2,.int z.2.2.1.2,(AW b).map Dt.int,B,_,λaK hd=>?_,by decide,.int _,rfl,Ai.of aD,ML _,rfl,At (λG=>?_) (λG=>?_)⟩;obtain⟨y,_,rfl⟩:=AN.mp hd;exact .int _ _;rotate_left;refine⟨_,_,_,_,a,rfl,c,C,v,skip λh=>G ?_⟩;rw[FR λz=>h.2 (Gb.mp z)];rfl
   have G:z.2.2.1.2∉AW b:=λz=>by
    rw[Fm (Gb.mpr z)] at G;cases G
   have aE:=c.at_ _ _ (ae _ _ q) (Be q ab);refine⟨j9 ⟨rfl,_,Ai.of C⟩,Fn,λa2 hM=>?_⟩;obtain⟨H7,aF,Z,eM⟩:=new_at (o:=.lst [.ref m]) hM;rw[<-aF];refine⟨l,a2,_,_,rfl,rfl,Z _ _ aE,eM,by rw[An];exact CT (BX (by show g.length+1<=1000;lia)),λL hL=>?_⟩
   have aG:H L=none:=by
    have h6:=Z.free hL;cases e:H L with|none=>rfl|some o=>rw[c.at_ _ _ (ae _ _ e) (Be e ab)] at h6;cases h6
   have aw:L≠D:=λy=>by rw[y,Z _ _ C] at hL;cases hL
   have s8:=A9 (o:=.lst (g.map V.ref++[.ref m])) hL;have eL:(upd H7 L (.lst (g.map V.ref++[.ref m]))) L=some (.lst ((g++[m]).map V.ref)):=by rw[Ab,Bh];rfl
   generalize upd H7 L (.lst (g.map V.ref++[.ref m]))=H8 at s8 eL ⊢;refine⟨Fo,λao hr=>?_⟩;obtain⟨H9,aH,s9,er⟩:=new_at (o:=.tup [.ref L,.int z.2.2.1.2,.int z.2.2.2]) hr;rw[<-aH];have T:=(Z.trans s8).trans s9;have ax:=T _ _ C;have Q:Keeps (·=D) H9 (upd H9 D (.lst (a.map (λz=>V.ref z.1)++[.ref ao]))):=Keeps.one ax;refine⟨_,ax,by rw[An];exact BX (by lia),?_⟩;refine⟨_,_,_,_,a++[(ao,(b.1++[z.2.1],z.2.2.1.2,z.2.2.2))],rfl,⟨λx o e n=>?_,c.ls⟩,by rw[Ab,Bh];rfl,λy R=>?_,?_⟩;rw[AI n];exact T _ _ (c.at_ x o e n);rcases BI.mp R with R|R;exact((v y R).same T).keeps Q λx M=>M.2;rw[AX.mp R];refine⟨L,g++[m],Q.tup er,Q.at_ _ _ (s9 _ _ eL) aw,?_,aG,aw⟩;refine RT.snoc ?_ (Q.tup ((T) _ _ an));exact((j.same ae).keeps c |>.same T).keeps Q;rw[aa,eZ O G,Bh,d];rfl
inductive Dj (K:Aj) (vs:S') (H:Hp) (Q:VK):Prop where
 |mk (nt A t:Addr) (W:Wd) (sc st:Int) (h0:vs=[.ref nt,.ref A,.ref t,.int sc,.int st]) (h1:Bm K H nt A t W) (h2:Cj W) (h3:(0<=sc/\sc<W.ss.length)) (h4:(0<=st/\st<W.sts.length)) (h5:∀(D:Addr)(zs:List (Addr×AO))(H':Hp),H D=none->Ad H H'->H' D=some (.lst (zs.map λz=>V.ref z.1))->(∀z∈zs,Dr (λl=>H l=none/\l≠D) H' z.1 z.2)->DE W sc st (zs.map (·.2))->Q (.ref D) H'):Dj K vs H Q
def fG (K:Aj):Sp:=λvs H Q ζ=>Dj K vs H Q
abbrev S7(P w K mg base):=BG P w K mg base "beginnings" 6 ["net", "answers", "table", "scope", "state"] (fG K)
theorem fH(B:BH mg)(aq:S6 P w K mg base)(F:Bt K "beginnings" "beginnings" QJ f fd)(hm:mg "beginnings" = some (.ref f)):S7 P w K mg base:=by
 refine BZ F hm P1 (λvs H al an h=>?_) (λaC A aE s H vs al an U h=>?_);obtain⟨I,A,t,W,sc,st,rfl,_⟩:=h;rfl
 . obtain⟨I,A,t,W,sc,st,rfl,hC,ok,N,O,ao⟩:=h
   refine⟨_,(Al (AU (i:=5) P1.nd (A1 (Aa (AD (Aa (A1 Ac) (Aa (pv 3) (Aa (pv 4) Ac)))) Ac)))
    (Al (AU (i:=6) P1.nd Ah)
    (Al (WK C0 (Bx OY (pv 6) (CZ GL B.b_len (Aa (pv 5) Ac)) (Bs _)) (Al (E8 (EJ E6 PySem.F.slot_list_extend PySem.F.type_list_extend ME (pv 5) (Aa (AV aq (Aa (pv 0) (Aa (pv 1) (Aa (pv 2) (Aa (AB AC (pv 5) (pv 6)) Ac))))) Ac)))
     (Al (A8 (Bx J1 (CZ GL B.b_len (Aa (pv 5) Ac)) (Iv (v:=.int 200) rfl (Classical.choose_spec B.c_MOST_BEGINNINGS) ⟨_,rfl⟩) (Bs _)) (Ax WI) A7)
     (Ax (IS (i:=6) P1.nd rfl (j9 rfl) Ah IA)))))
    (Ax (AJ (CZ (XS Ke FA FA U.units (by decide) (by decide) (by decide)) B.b_sorted (Aa (pv 5) Ac))))))),?_⟩
   rfl';refine⟨by decide,λl hl=>?_⟩;obtain⟨a8,ar,s1,el⟩:=new_at (o:=.lst []) hl;rw[<-ar];refine⟨Fo,λaf U=>?_⟩;obtain⟨a9,au,X,er⟩:=new_at (o:=.tup [.ref l,.int sc,.int st]) U;rw[<-au];refine⟨Fn,λD Y=>?_⟩;have ag:=s1.trans X;have av:H D=none:=ag.free Y;have aw:l≠D:=Be (X _ _ el) Y;obtain⟨H3,ax,Z,ay⟩:=new_at (o:=.lst [.ref af]) Y;rw[<-ax];have az:=ag.trans Z;refine Bz ?_;cbv;refine RI ?_;cbv;refine NE (λσ' d=>∃(u6:V)(a:List (Addr×AO)),σ'=[some (.ref I),some (.ref A),some (.ref t),some (.int sc),some (.int st),some (.ref D),some u6]/\Ad H d/\d D=some (.lst (a.map λz=>V.ref z.1))/\(∀z∈a,Dr (λl=>H l=none/\l≠D) d z.1 z.2)/\Gy W sc st (a.map λz:Addr×AO=>z.2) (a.map λz:Addr×AO=>z.2).length) ?_ (λaA hN=>?_);refine λσ' H4 Q=>AZ λNz r=>?_;obtain⟨u6,a,rfl,E,u,g,q⟩:=Q;refine r ?_;clear r;have hf:=q.few ok N O;rw[An] at hf;refine⟨D,a.map λz=>(V.ref z.1,z.2),rfl,?_,by rw[An];lia,λy J=>?_,λD2 C hp hs S=>?_⟩;rw[D1];exact Ai.of u;obtain⟨z,R,rfl⟩:=AN.mp J;exact(g z R).dt;have j:=A9 (o:=.lst (C.map (·.1))) S
   obtain⟨c,rfl⟩:∃c:List (Addr×AO),C=c.map λz=>(V.ref z.1,z.2):=by
    have:∀{l:List (DB DD)},(∀y∈l,y∈a.map λz=>((V.ref z.1,z.2):DB DD))->∃c:List (Addr×AO),l=c.map λz=>(V.ref z.1,z.2):=by
     intro l
     induction l with|nil=>exact λζ=>⟨[],rfl⟩|cons y l ih=>intro h;obtain⟨c,rfl⟩:=ih λz g=>h z (Du _ g);obtain⟨z,_,rfl⟩:=AN.mp (h y BS);exact⟨z::c,rfl⟩
    exact this λy J=>hp.mem_iff.mp J
   have L:(c.map λz=>((V.ref z.1,z.2):DB DD)).map (·.2)=c.map (·.2):=by rw[D1];rfl
   have M:(c.map λz=>((V.ref z.1,z.2):DB DD)).map (·.1)=c.map λz=>V.ref z.1:=by rw[D1];rfl
   have a0:(c.map (·.2)).Perm (a.map (·.2)):=by
    have:=hp.map (·.2)
    rwa [L,D1] at this
   rw[L] at hs;rw[M] at j ⊢
   have nm:∀z∈c,z∈a:=λz R=>by
    have:=hp.mem_iff.mp (AN.mpr ⟨z,R,rfl⟩);obtain⟨y,J,e⟩:=AN.mp this;injection e with M L;have:y=z:=Prod.ext (V.ref.inj M) L;rw[<-this];exact J
   refine ao D2 c _ (E.free S) (E.trans j) Ab (λz R=>?_) (q.all ok N O a0 hs);refine((g z (nm z R)).mono' ?_).same j;intro x o ex k;exact⟨k.1,λy=>by rw[y,S] at ex;cases ex⟩;refine⟨λm σ d=>∃(p:Nat)(a:List (Addr×AO)),σ=[some (.ref I),some (.ref A),some (.ref t),some (.int sc),some (.int st),some (.ref D),some (.int p)]/\Ad H d/\d D=some (.lst (a.map λz=>V.ref z.1))/\(∀z∈a,Dr (λl=>H l=none/\l≠D) d z.1 z.2)/\Gy W sc st (a.map λz:Addr×AO=>z.2) p/\m=62-p,⟨_,0,[(af,([],sc,st))],rfl,az,ay,λz g=>?_,Gy.start W sc st,rfl⟩,?_⟩;rw[AX.mp g];exact⟨l,[],Z _ _ er,(X.trans Z) _ _ el,RT.nil,hl,aw⟩;refine λm σ H4 Q=>AZ λNz r=>?_;obtain⟨p,a,rfl,E,u,g,q,aB⟩:=Q;refine r ?_;clear r;have hf:=q.few ok N O;have a1:=q.le;rw[An] at hf a1;refine⟨_,j9 ⟨_,Ai.of u,rfl⟩,rfl,?_⟩;by_cases ah:p<a.length;rotate_left;have ep:p=a.length:=(by lia);rw[DS (by rw[An];lia)];refine Bl (hN _ _ ⟨_,a,rfl,E,u,g,?_⟩);rw[An,<-ep];exact q;rw[A5 (by rw[An];lia)];refine Cw ?_;have ai:=AM ah;have aj:(a.map (·.2))[p]?=some a[p].2:=by rw[Bf,ai];rfl
   have aa:=q.turn aj;have ib:=(q.is _ (Bq aj)).ok ok N O;refine⟨λσ' d=>∃(C:List (Addr×AO)),σ'=[some (.ref I),some (.ref A),some (.ref t),some (.int sc),some (.int st),some (.ref D),some (.int ((p+1:Nat):Int))]/\Ad H d/\d D=some (.lst (C.map λz=>V.ref z.1))/\(∀z∈C,Dr (λl=>H l=none/\l≠D) d z.1 z.2)/\Gy W sc st (C.map λz:Addr×AO=>z.2) (p+1),?_,?_⟩;refine λσ' d Q=>AZ λNz r=>?_;obtain⟨C,rfl,j,T,a2,a3⟩:=Q;refine r ?_;clear r;exact⟨_,by lia,p+1,C,rfl,j,T,a2,a3,rfl⟩;have a4:BW (a.map λz=>V.ref z.1) (p:Int)=some (.ref a[p].1):=BJ (by rw[Bf,ai];rfl);refine⟨j9 ⟨rfl,_,Ai.of u⟩,j9 ⟨_,.ref a[p].1,Ai.of u,a4,I,A,t,a[p].1,W,a[p].2,rfl,hC.same E,ok,ib,⟨_,g _ (Eo ah)⟩,λD2 n G S j a5 a6 ab=>?_⟩⟩;have aD:n.length<=8:=(by have M:=By List.length ab;have L:=XU W a[p].2;have e3:=Pc ok a[p].2.2.1;rw[An] at M;lia);have T:=j _ _ u;have k5:Keeps (·=D) G (upd G D (.lst (a.map (λz=>V.ref z.1)++n.map λz=>V.ref z.1))):=Keeps.one T;refine⟨D,D2,_,_,rfl,rfl,T,a5,by rw[An,An];exact CT (BX (by lia)),?_⟩;have a7:=aa.few ok N O;rw[<-ab,<-Bh,An] at a7;rw[<-ab,<-Bh] at aa;have ae:(upd G D (.lst (a.map (λz=>V.ref z.1)++n.map λz=>V.ref z.1))) D=some (.lst ((a++n).map λz=>V.ref z.1)):=(by rw[Ab,Bh])
   have sn:Ad H (upd G D (.lst (a.map (λz=>V.ref z.1)++n.map λz=>V.ref z.1))):=λb o e=>by
    rw[AI (Be e av)];exact j _ _ (E _ _ e)
   have ak:∀z∈a++n,Dr (λl=>H l=none/\l≠D) (upd G D (.lst (a.map (λz=>V.ref z.1)++n.map λz=>V.ref z.1))) z.1 z.2:=λz h=>by
    rcases BI.mp h with h|h;exact((g z h).same j).keeps k5 λx k=>k.2;refine((a6 z h).mono λx k=>⟨E.free k.1,?_⟩).keeps k5 λx k=>k.2;intro y;rw[y,u] at k;cases k.1
   generalize upd G D (.lst (a.map (λz=>V.ref z.1)++n.map λz=>V.ref z.1))=H6 at ae sn ak ⊢;refine⟨_,j9 ⟨_,Ai.of ae,rfl⟩,rfl,?_⟩;rw[DS (by rw[An];lia)];refine Bl ?_;refine⟨_,rfl,a++n,?_,sn,ae,ak,aa⟩;simp
inductive EX (K:Aj) (vs:S') (H:Hp) (Q:VK):Prop where
 |mk (t a o:Addr) (inn:V) (ss:List DU) (n:Int) (k:Nat) (s:DU) (x:Str) (h0:vs=[.ref t,.int n,.str x]) (h1:n=k) (h2:Aq K H t [.ref a,inn,.ref o]) (h3:Hg K H a ss) (h4:ss[k]?=some s) (h5:Q (.bl (dec (x∈s.2))) H):EX K vs H Q
def fI (K:Aj):Sp:=λvs H Q ζ=>EX K vs H Q
abbrev S8(P w K mg base):=BG P w K mg base "has_end" 1 ["table", "state", "label"] (fI K)
def fJ(B:BH mg)(F:Bt K "has_end" "has_end" QK f fd)(c:mg "has_end" = some (.ref f)):S8 P w K mg base:=by
 refine BZ F c V0 (λb H Q E h=>?_) (λO A R s H b Q E j h=>?_);obtain⟨t,a,o,J,l,n,k,s,x,rfl,_⟩:=h;rfl;obtain⟨t,a,o,J,l,n,k,s,x,rfl,rfl,m,⟨b,p,r⟩,u,q⟩:=h;obtain⟨v,C,L⟩:=r.get' (i:=k) (d:=J8 s) (by rw[Bf,u];rfl);obtain⟨st,g,e,rfl,M,N,D⟩:=J9 L
 refine⟨_,(Al (AU (i:=3) V0.nd (AB AC (AB AC (AB AC (pv 0) Ah) (pv 1)) Ah))
  (Ax (AJ (K2 (Ll j.units) (pv 2) (pv 3) (by with_unfolding_all rfl))))),?_⟩
 rfl';refine j' (j9 ⟨_,.ref a,m,rfl,?_⟩);refine j9 ⟨b,.ref st,p,BJ C,?_⟩;refine j' (j9 ⟨_,.ref e,M,rfl,?_⟩);refine⟨2,.str x,s.2.map Dt.str,e,_,λd hd=>?_,by decide,.str x,rfl,D,Ak.strs _,?_⟩;obtain⟨y,_,rfl⟩:=AN.mp hd;exact .str _ _
 have G:dec (Dt.str x∈s.2.map Dt.str)=dec (x∈s.2):=MF ⟨λh=>by
  obtain⟨y,I,z⟩:=AN.mp h;rw[<-Dt.str.inj z];exact I,λh=>AN.mpr ⟨x,h,rfl⟩⟩
 rw[G];exact q
def JJ{k:Nat}(h:W.sts[k]?=some s):FS W (k:Int)=s.2:=by unfold FS;rw[BF,h]
def fL{k:Nat}{s:BC}(h:W.ss[k]?=some s):FD W (k:Int)=s.2:=by unfold FD;rw[BF,h]
variable {x:Str}
def Md{q:CA}(a:q.2.1=x)(c:q.1∈FS W b.2.2):EN W b x q i=[b.1++[(b.2.1,i0,(i:Int))]]:=Ap ⟨a,c⟩
def JK{q:CA}(h:¬(q.2.1=x/\q.1∈FS W b.2.2)):EN W b x q i=[]:=Ag h
def Wn{bs:List AO}(h:bs[i]?=some b):DF W x (bs.take (i+1))=DF W x (bs.take i)++CC W b x (FD W b.2.1) 0:=by rw[En,h];show(bs.take i++[b]).flatMap _=_;rw[List.flatMap_append];simp[DF]
def Ox{bs:List AO}(i:Nat):(DF W x (bs.take i)).length<=(DF W x bs).length:=by
 have:DF W x bs=DF W x (bs.take i)++DF W x (bs.drop i):=(by unfold DF;rw[<-List.flatMap_append,List.take_append_drop]);rw[this,AY];lia
theorem Wo(W:Wd)(b:AO)(x:Str):∀(l:List CA)(j i:Nat),(CC W b x (l.take j) i).length<=(CC W b x l i).length
 |[],j,i=>by rw[List.take_nil];exact AK _
 |q::l,0,i=>Dp _
 |q::l,j+1,i=>by show(EN W b x q i++CC W b x (l.take j) (i+1)).length<=(EN W b x q i++CC W b x l (i+1)).length;rw[AY,AY];have:=Wo W b x l j (i+1);lia
inductive Cn (K:Aj) (vs:S') (H:Hp) (Q:VK):Prop where
 |mk (nt A t D:Addr) (x:Str) (F:Addr->Prop) (W:Wd) (zs:List (Addr×AO)) (h0:vs=[.ref nt,.ref t,.ref D,.str x]) (h1:Bm K H nt A t W) (h2:Cj W) (h3:H D=some (.lst (zs.map λz=>V.ref z.1))) (h4:(∀z∈zs,Dr F H z.1 z.2)) (h5:(∀z∈zs,C5 W z.2)) (h6:(DF W x (zs.map (·.2))).length<=62) (h7:∀(D2:Addr)(ws:List (Addr×List Au))(H':Hp),H D2=none->Ad H H'->H' D2=some (.lst (ws.map λz=>V.ref z.1))->(∀z∈ws,Cs (λl=>H l=none/\l≠D2) H' z.1 z.2)->MM W x (zs.map (·.2)) (ws.map (·.2))->Q (.ref D2) H'):Cn K vs H Q
def fN (K:Aj):Sp:=λvs H Q ζ=>Cn K vs H Q
abbrev S9(P w K mg base):=BG P w K mg base "found_behind" 2 ["net", "table", "begun", "name"] (fN K)
def fO(an:BH mg)(aF:S8 P w K mg base)(F:Bt K "found_behind" "found_behind" QL f fd)(r:mg "found_behind" = some (.ref f)):S9 P w K mg base:=by
 refine BZ F r L0 (λvs H a3 a4 h=>?_) (λbe ao bi s H vs a3 a4 hr h=>?_);obtain⟨nt,ao,t,D,x,F,W,u,rfl,_⟩:=h;rfl
 . obtain⟨nt,ao,t,D,x,F,W,u,rfl,hC,ok,eD,hz,aG,bf,a5⟩:=h
   obtain⟨a6,aZ,ba,us,Gs,Es,ts,qt,qs,eN,N3⟩:=hC.net;obtain⟨a7,o,aH,b1,a8,b2,b3⟩:=hC.tab
   refine⟨_,(Al (AU (i:=4) L0.nd (A1 Ac))
    (Al (Dq C0 rfl (Dy (pv 2)) (BO (n:=3) rfl (Az (Ar (i:=5) L0.nd) (Az (Ar (i:=6) L0.nd) (Az (Ar (i:=7) L0.nd) BN)))) (Ax (Dq C0 rfl (Pt LK rfl an.b_enumerate (Aa (AB AC (AB AC (AB AC (pv 0) Ah) (pv 6)) Ah) Ac)) (BO (n:=2) rfl (Az (Ar (i:=8) L0.nd) (Az (Ar (i:=9) L0.nd) BN))) (Ax (A8 (PW.pt (KO (Bx B0 (AB AC (pv 9) Ah) (pv 3) (Bs _)) (KN (FZ (AV aF (Aa (pv 1) (Aa (pv 7) (Aa (AB AC (pv 9) Ah) Ac)))))))) (Ax (E8 (EJ E6 Gi Gj Gv (pv 4) (Aa (AG My (pv 5) (A1 (Aa (AD (Aa (pv 6) (Aa AH (Aa (pv 8) Ac)))) Ac))) Ac)))) A7)))))
    (Ax (AJ (CZ (XQ Ke hr.units (by decide)) an.b_sorted (Aa (pv 4) Ac)))))),?_⟩
   rfl';refine⟨by decide,λP hP=>?_⟩;obtain⟨U,aI,s1,ar⟩:=new_at (o:=.lst []) hP;rw[<-aI];have bg:D≠P:=Be eD hP;have N:∀{d:Hp},Keeps (·=P) U d->Ad H d:=λk x o e=>k.at_ _ _ (s1 _ _ e) (Be e hP)
   refine⟨⟨_,Ai.of (s1 _ _ eD)⟩,Fz (xs:=u.map λz=>V.ref z.1) (λi σ d=>∃u5 u6 u7 v A a,σ=[some (.ref nt),some (.ref t),some (.ref D),some (.str x),some (.ref P),u5,u6,u7,v,A]/\Keeps (·=P) U d/\d P=some (.lst (a.map λz:Addr×List Au=>V.ref z.1))/\(∀z∈a,Cs (λl=>H l=none/\l≠P) d z.1 z.2)/\a.map (·.2)=DF W x ((u.map (·.2)).take i))
    ⟨none,none,none,none,none,[],rfl,Keeps.refl λx o m e=>by rw[m,ar] at e;exact⟨_,(BU e).symm⟩,ar,λz hz=>by simp at hz,by rw[D6];rfl⟩ (λi σ d ζ af=>by obtain⟨_,_,_,_,_,_,_,k,_⟩:=af;exact Ai.of (N k _ _ eD)) ?_ ?_⟩
   rotate_left;refine λσ a9 C=>AZ λI b=>?_;obtain⟨u5,u6,u7,v,A,a,rfl,R,ag,S,r⟩:=C;refine b ?_;clear b;rw[An,<-An (f:=(·.2)),Dw] at r;have lw:a.length<=62:=by have:=By List.length r;rw[An] at this;lia
   refine⟨P,a.map λz=>(V.ref z.1,z.2),rfl,?_,by rw[An];lia,λy g=>?_,λD2 aJ J hs ah=>?_⟩;rw[D1];exact Ai.of ag;obtain⟨z,ai,rfl⟩:=AN.mp g;exact(S z ai).dt;obtain⟨vs,r1,r2,r3,r4⟩:=UW (c:=Bn) J;have s3:=A9 (o:=.lst (aJ.map (·.1))) ah;rw[r1] at s3 ⊢;rw[r2] at hs;have q:=N R;refine a5 D2 vs _ (q.free ah) (q.trans s3) Ab (λz ai=>?_) ⟨by rw[<-r];exact r3,hs⟩;refine((S z (r4 z ai)).mono' ?_).same s3;intro x o ex hx;exact⟨hx.1,λy=>by rw[y,ah] at ex;cases ex⟩;refine λi y σ a9 g C=>AZ λI b=>?_;obtain⟨u5,u6,u7,v,A,a,rfl,R,ag,S,r⟩:=C;refine b ?_;clear b;obtain⟨z,au,rfl⟩:=getm g;have mz:=Bq au;have aa:=aG z mz;have q:=N R;refine AZ λI b=>?_;obtain⟨l,B,aB,aC,e3,_⟩:=hz z mz;refine b ?_;clear b;have e1:=q _ _ aB;have aK:=aa.rng z.2.2.1 (by unfold AW;simp);have aL:=aa.st;obtain⟨n,T⟩:=DJ aK.1;obtain⟨k,hk⟩:=DJ aL.1;have aM:n<W.ss.length:=(by lia);have aN:k<W.sts.length:=(by lia);refine AZ λI b=>?_;obtain⟨aq,bb,E1,aD,bc,bd,g4,⟨c0,_,⟨tE,c1,c2⟩⟩⟩:=N3.sc.get aM;refine b ?_;clear b;have av:=AM aN;have eT:FD W z.2.2.1=W.ss[n].2:=by rw[T];exact fL g4
   have eE:FS W z.2.2.2=W.sts[k].2:=by rw[hk];exact JJ av
   have aO:BW (us.map V.ref) z.2.2.1=some (.ref aq):=by rw[T];exact BJ (by rw[Bf,aD];rfl)
   have aw:(u.map (·.2))[i]?=some z.2:=by rw[Bf,au];rfl
   have bh:B.length<=100:=(by have:=Lw W.ss.length (AW z.2) aa.nd aa.rng;rw[show(AW z.2).length=z.2.1.length+1 by unfold AW;simp] at this;have:=ok.s5;rw[e3.len];lia);have aP:=Ox (W:=W) (x:=x) (bs:=u.map (·.2)) (i+1);rw[Wn aw,AY] at aP;refine⟨_,Aq.of e1,rfl,?_⟩;refine j' (j9 ⟨_,.ref a6,Aq.of (q _ _ eN),rfl,j9 ⟨_,.ref aq,Ai.of (q _ _ N3.sc.top),aO,j' (j9 ⟨_,.ref E1,Aq.of (q _ _ c0),rfl,E1,rfl,⟨_,q _ _ c1⟩,?_⟩)⟩⟩)
   refine Pu LK (xs:=tE.map V.ref) (λj σ d=>∃v A a,σ=[some (.ref nt),some (.ref t),some (.ref D),some (.str x),some (.ref P),some (.ref l),some (.int z.2.2.1),some (.int z.2.2.2),v,A]/\Keeps (·=P) U d/\d P=some (.lst (a.map λz:Addr×List Au=>V.ref z.1))/\(∀z∈a,Cs (λl=>H l=none/\l≠P) d z.1 z.2)/\a.map (·.2)=DF W x ((u.map (·.2)).take i)++CC W z.2 x ((FD W z.2.2.1).take j) 0)
    ⟨_,_,a,rfl,R,ag,S,by rw[r,D6];simp[CC]⟩ (λj σ d af=>by obtain⟨_,_,_,_,k,_⟩:=af;exact Ai.of (N k _ _ c1)) ?_ ?_
   rotate_left;refine λσ H3 C=>AZ λI b=>?_;obtain⟨v,A,a,rfl,X,aj,ak,O⟩:=C;refine b ?_;clear b;refine⟨_,_,_,_,_,a,rfl,X,aj,ak,?_⟩;rw[Wn aw,O,An,c2.len,eT,Dw];refine λj y T' σ H3 g aQ C=>AZ λI b=>?_;obtain⟨v,A,a,rfl,X,aj,ak,O⟩:=C;refine b ?_;clear b;obtain⟨tp,ax,rfl⟩:=getm g;have aR:j<W.ss[n].2.length:=by rw[<-c2.len];exact(Bi.mp ax).1
   have J:=AM aR;have ay:=c2.at_ j tp _ ax J;generalize W.ss[n].2[j]=p at J ay;obtain⟨H4,aS,Y,aT⟩:=new_at (o:=.tup [.int j,.ref tp]) aQ;rw[<-aS];have aU:=N X;have E:=aU.trans Y;have k4:Keeps (·=P) U H4:=X.same Y;have Q:=Y _ _ aj;have al:∀z∈a,Cs (λl=>H l=none/\l≠P) H4 z.1 z.2:=λz h=>(ak z h).same Y;have a2:=Aq.of (K:=K) (E _ _ ay);have az:CC W z.2 x ((FD W z.2.2.1).take (j+1)) 0=CC W z.2 x ((FD W z.2.2.1).take j) 0++EN W z.2 x p j:=(by rw[En,eT,J];show CC W z.2 x (W.ss[n].2.take j++[p]) 0=_;rw[UR,Dx,Nat.zero_add,Nat.min_eq_left (by lia)])
   have skip:¬(p.2.1=x/\p.1∈FS W z.2.2.2)->a.map (·.2)=DF W x ((u.map (·.2)).take i)++CC W z.2 x ((FD W z.2.2.1).take (j+1)) 0:=λT=>by
    rw[az,JK T,DR,O]
   have lw:a.length<100:=(by have:=By List.length O;rw[An,AY] at this;have G:=Wo W z.2 x (FD W z.2.2.1) j 0;lia);refine⟨_,Aq.of aT,rfl,?_⟩;refine j' (j9 ⟨_,.str p.2.1,a2,rfl,rfl,rfl,At (λG=>?_) (λG=>Bl ?_)⟩);rotate_left;exact⟨_,_,a,rfl,k4,Q,al,skip λh=>G (A5 (by rw[h.1]))⟩;have G:p.2.1=x:=V.str.inj (Bd G);refine j' (j9 ⟨_,.str p.1,a2,rfl,t,a7,o,aH,W.sts,z.2.2.2,k,_,p.1,rfl,hk,E.seqT b1,⟨a8,E.seq b2,b3.same E⟩,av,rfl,At (λM=>?_) (λM=>?_)⟩);rotate_left;exact⟨_,_,a,rfl,k4,Q,al,skip λh=>M (Fm (by rw[<-eE];exact h.2))⟩;have M:p.1∈FS W z.2.2.2:=by rw[eE];exact Fa.mp M
   refine⟨j9 ⟨rfl,_,Ai.of Q⟩,Fo,λm aV=>?_⟩;obtain⟨H5,aW,s5,aE⟩:=new_at (o:=.tup [.int z.2.2.1,.str "told",.int j]) aV;rw[<-aW];refine⟨Fn,λaA hM=>?_⟩;obtain⟨H6,aX,s6,eM⟩:=new_at (o:=.lst [.ref m]) hM;rw[<-aX];have ab:=s5.trans s6;refine⟨l,aA,_,_,rfl,rfl,ab _ _ (E _ _ aC),eM,by rw[An];exact CT (BX (by show B.length+1<=1000;lia)),λL Z=>?_⟩;have aY:H L=none:=(E.trans ab).free Z;have a0:L≠P:=λy=>by rw[y,ab _ _ Q] at Z;cases Z
   have s7:=A9 (o:=.lst (B.map V.ref++[.ref m])) Z;have eL:(upd H6 L (.lst (B.map V.ref++[.ref m]))) L=some (.lst ((B++[m]).map V.ref)):=by rw[Ab,Bh];rfl
   generalize upd H6 L (.lst (B.map V.ref++[.ref m]))=H7 at s7 eL ⊢;have ae:=ab.trans s7;have a1:=ae _ _ Q;have k7:Keeps (·=P) H7 (upd H7 P (.lst (a.map (λz=>V.ref z.1)++[.ref L]))):=Keeps.one a1;refine⟨_,a1,by rw[An];exact BX (by lia),?_⟩;refine⟨_,_,a++[(L,z.2.1++[(z.2.2.1,i0,(j:Int))])],rfl,(k4.same ae).set rfl,by rw[Ab,Bh];rfl,λy g=>?_,?_⟩;rcases BI.mp g with g|g;exact((al y g).same ae).keeps k7 λx hx=>hx.2;rw[AX.mp g];refine⟨B++[m],k7.at_ _ _ eL a0,?_,aY,a0⟩;exact RT.snoc ((e3.same (E.trans ae)).keeps k7) (k7.tup ((s6.trans s7) _ _ aE));rw[az,Md G M,Bh,O,Fv];rfl
inductive Co (K:Aj) (vs:S') (H:Hp) (Q:VK):Prop where
 |mk (t:Addr) (F:Addr->Prop) (sts:List DU) (inn:Int) (ord:A') (h0:vs=[.ref t]) (h1:F1 K F H t sts inn ord) (h2:ord.length<=40) (h3:∀(p:Addr)(H':Hp),H p=none->Ad H H'->Ht H' p ord->Q (.ref p) H'):Co K vs H Q
def fP (K:Aj):Sp:=λvs H Q ζ=>Co K vs H Q
abbrev Qd(P w K mg base):=BG P w K mg base "better_pairs" 1 ["table"] (fP K)
theorem fQ(B:BH mg)(F:Bt K "better_pairs" "better_pairs" OP f fd)(I:mg "better_pairs" = some (.ref f)):Qd P w K mg base:=by
 refine BZ F I Zo (λJ H Q E h=>?_) (λaj af al s H J Q E L h=>?_);obtain⟨t,F,U,W,ord,rfl,_⟩:=h;rfl;obtain⟨t,F,U,W,ord,rfl,M,ai,q⟩:=h;obtain⟨ta,o,ak,X,N,_,_,_,_,_,v,TO⟩:=M.ex;refine⟨_,(Ax (AJ (Mw (Ym rfl (LA L)) B.b_dict (Aa (Hc rfl B6 (Dy (AB AC (pv 0) Ah)) (λζ ζ ζ ζ ζ=>(Ar (i:=0) B6.nd)) (λζ ζ ζ ζ ζ=>Gu) (λζ ζ ζ ζ ζ=>(AD (Aa (pv 0) (Aa Gm Ac))))) Ac)))),?_⟩;rfl'
 refine j' (j9 ⟨_,.ref o,Aq.of N,rfl,⟨_,Ai.of v⟩,MG (xs:=X.map V.ref) (λP i a g=>Ad H g/\g P=some (.lst a)/\a.length=i/\EO g a ((ord.take i).map λp=>(Fc p,V.bl true)))
  (λP j=>⟨A9 j,Ab,rfl,.nil⟩) (λP i a g Y=>by obtain⟨s,_⟩:=Y;exact Ai.of (s _ _ v)) (λP i ag a Z RR j O n k=>?_) (λP a Z j n=>?_)⟩)
 obtain⟨c,r,d,m⟩:=n;obtain⟨x,C,rfl⟩:=getm O;have aa:i<ord.length:=by rw[<-TO.len];exact(Bi.mp C).1
 have D:=AM aa;have ab:=c _ _ (TO.at_ i _ _ C D);refine⟨AR,λT R=>?_⟩;obtain⟨y,ae,l,S⟩:=new_at (o:=.tup [.ref x,.bl true]) R;rw[<-ae];have G:=l _ _ r
 have u:∀b xs,y b=some (.tup xs)->(upd y P (.lst (a++[.ref T]))) b=some (.tup xs):=λb xs e=>by
  rw[AI (Mq e G (λz=>nomatch z))];exact e
 refine k _ _ G (by rw[d];exact BX (by lia)) ⟨λb ah e=>?_,Ab,by rw[AY,d];rfl,?_⟩;rw[AI (Be e j)];exact l _ _ (c _ _ e);rw[En,D,Bh];exact Paired.snoc ((m.tups λb xs e=>l _ _ e).tups u) ⟨T,x,rfl,u _ _ S,u _ _ (l _ _ ab)⟩;obtain⟨c,r,d,m⟩:=n;rw[An,TO.len,Dw] at m;rw[An,TO.len] at d;refine⟨P,a,_,rfl,r,by rw[d];exact BX (by lia),m,λp A=>?_⟩;exact q p _ (c.free A) (c.trans (A9 A)) ⟨_,Ab,Yv⟩
inductive EY (K:Aj) (vs:S') (H:Hp) (Q:VK):Prop where
 |mk (D:Addr) (F:Addr->Prop) (zs:List (Addr×List Au)) (h0:vs=[.ref D]) (h1:H D=some (.lst (zs.map λz=>V.ref z.1))) (h2:(∀z∈zs,Cs F H z.1 z.2)) (h3:zs.length<=100) (h4:∀(d:List Au->Addr)(c:List Au->Au->Addr)(H':Hp),Ad H H'->A6 dW H' (A4 (zs.map (·.2))) d c->(∀p,DX (A4 (zs.map (·.2))) p->H (d p)=none)->Q (.ref (d [])) H'):EY K vs H Q
def fS (K:Aj):Sp:=λvs H Q ζ=>EY K vs H Q
abbrev Qe(P w K mg base):=BG P w K mg base "tree_of" 1 ["ways"] (fS K)
def fU(ao:BH mg)(F:Bt K "tree_of" "tree_of" QM f fd)(l:mg "tree_of" = some (.ref f)):Qe P w K mg base:=by
 refine BZ F l L1 (λvs H aq ar h=>?_) (λaE aA aH s H vs aq ar hr h=>?_);obtain⟨D,F,a,rfl,_⟩:=h;rfl
 . obtain⟨D,F,a,rfl,eD,hz,lz,au⟩:=h
   refine⟨_,(Al (AU (i:=1) L1.nd RC)
    (Al (Dq C0 rfl (Pt LK rfl ao.b_enumerate (Aa (pv 0) Ac)) (BO (n:=2) rfl (Az (Ar (i:=2) L1.nd) (Az (Ar (i:=3) L1.nd) BN))) (Al (AU (i:=4) L1.nd (pv 1))
     (Ax (Dq C0 rfl (Dy (pv 3)) (Ar (i:=5) L1.nd) (Ax (AU (i:=4) L1.nd (AB AC (EJ PySem.F.plainAttrs_dict PySem.F.slot_dict_setdefault PySem.F.type_dict_setdefault (Ye (MB hr)) (pv 4) (Aa (pv 5) (Aa (AD (Aa (pv 2) (Aa RC Ac))) Ac))) Ah)))))))
    (Ax (AJ (pv 1))))),?_⟩
   rfl';refine λt ht=>?_;obtain⟨av,ay,s1,et⟩:=new_at (o:=.dT []) ht;rw[<-ay]
   refine⟨D,rfl,⟨_,s1 _ _ eD⟩,Pu LK (xs:=a.map λz=>V.ref z.1) (λi σ v=>∃(U W X A:U')(d:List Au->Addr)(c:List Au->Au->Addr),σ=[some (.ref D),some (.ref t),U,W,X,A]/\Ad H v/\d []=t/\A6 dW v (A4 ((a.map (·.2)).take i)) d c/\∀p,DX (A4 ((a.map (·.2)).take i)) p->H (d p)=none)
    ⟨none,none,none,none,λζ=>t,λζ ζ=>t,rfl,s1,rfl,?_,λp u=>ht⟩ (λi σ v aa=>by obtain⟨_,_,_,_,_,_,_,s,_⟩:=aa;exact Ai.of (s _ _ eD)) ?_ ?_⟩
   have nil:∀p,DX (A4 ((a.map (·.2)).take 0)) p->p=[]:=λp u=>by
    rcases u with h|⟨kw,h,_⟩;exact h;rw[D6] at h;cases h
   refine⟨λp u=>?_,λp m k l=>?_,λp aw u az ζ=>(nil p u).trans (nil aw az).symm⟩;show av t=some (.dT (DG _ _ p));rw[et,D6];rfl;rw[D6] at l;cases l;rotate_left;refine λσ ag G=>AZ λN q=>?_;obtain⟨U,W,X,A,d,c,rfl,Y,rfl,O,Q⟩:=G;refine q ?_;clear q;rw[An,<-An (f:=(·.2)),Dw] at O Q;exact au d c ag Y O Q;refine λi y aB σ ag Z hT G=>AZ λN q=>?_;obtain⟨U,W,X,A,d,c,rfl,Y,hd,O,Q⟩:=G;refine q ?_;clear q;refine Kj ?_;intro Nx Cy;obtain⟨z,ab,rfl⟩:=getm Z;have mz:=Bq ab;have aF:=(Bi.mp ab).1;have a0:(a.map (·.2))[i]?=some z.2:=by rw[Bf,ab];rfl
   obtain⟨H3,a1,s3,eT⟩:=new_at (o:=.tup [.int (i:Int),.ref z.1]) hT;rw[<-a1];have aj:=Y.trans s3;obtain⟨ms,ah,f3,_⟩:=(hz z mz).same aj;refine⟨_,Aq.of eT,rfl,?_⟩
   refine⟨⟨_,Ai.of ah⟩,Fz (xs:=ms.map V.ref) (λj σ v=>∃(A:U')(d:List Au->Addr)(c:List Au->Au->Addr),σ=[some (.ref D),some (.ref t),some (.int (i:Int)),some (.ref z.1),some (.ref (d (z.2.take j))),A]/\Ad H v/\RT Gw v ms z.2/\v z.1=some (.lst (ms.map V.ref))/\d []=t/\A6 dW v (A4 ((a.map (·.2)).take i)++[(i,z.2.take j)]) d c/\∀p,DX (A4 ((a.map (·.2)).take i)++[(i,z.2.take j)]) p->H (d p)=none)
    ⟨A,d,c,by rw[D6,hd];rfl,aj,f3,ah,hd,by rw[D6];exact(O.sameW s3).begin,λp u=>Q p ?_⟩ (λj σ v ζ aa=>by obtain⟨_,_,_,_,_,_,e,_⟩:=aa;exact Ai.of e) ?_ ?_⟩
   rw[D6] at u;rcases u with h|⟨kw,h1,J⟩;exact .inl h;rcases BI.mp h1 with y|y;exact .inr ⟨kw,y,J⟩;rw[AX.mp y] at J;exact .inl (List.prefix_nil.mp J);rotate_left;refine λσ H4 G=>AZ λN q=>?_;obtain⟨A,d,c,rfl,L,_,_,S,B,I⟩:=G;refine q ?_;clear q;rw[An,f3.len,Dw,<-Yx a0] at B I;exact⟨_,_,_,_,d,c,rfl,L,S,B,I⟩;refine λj y σ H4 Z G=>AZ λN q=>?_;obtain⟨A,d,c,rfl,L,R,e4,S,B,I⟩:=G;refine q ?_;clear q;refine Kj ?_;intro Nx Cy;obtain⟨mk,ak,rfl⟩:=getm Z;have hj:j<z.2.length:=by rw[<-f3.len];exact(Bi.mp ak).1
   have ae:=AM hj;have ai:=R.at_ j _ _ ak ae;have C:z.2.take (j+1)=z.2.take j++[z.2[j]]:=by rw[En,ae];rfl
   generalize z.2[j]=m at ae ai C;generalize hg:z.2.take j=g at B I C ⊢;have al:DX (A4 ((a.map (·.2)).take i)++[(i,g)]) g:=.inr ⟨_,DI _ (AX.mpr rfl),List.prefix_refl g⟩;have eB:=B.dct g al;have aD:=Sh (A4 ((a.map (·.2)).take i)++[(i,g)]) g;have aG:(A4 ((a.map (·.2)).take i)++[(i,g)]).length<=101:=(by unfold A4;rw[AY,An,List.length_zipIdx,Dx,An,FM];lia);have lr:(DG (A4 ((a.map (·.2)).take i)++[(i,g)]) c g).length<sizeLine:=by unfold DG;rw[An];exact BX (by lia)
   refine⟨j' (j' (j9 ⟨rfl,j' ⟨_,eB⟩⟩)),λe he=>?_⟩;have s5:=A9 (o:=.dT []) he;have ee:(upd H4 e (.dT [])) e=some (.dT []):=Ab;have an:=he;generalize upd H4 e (.dT [])=H5 at s5 ee ⊢;refine⟨AR,λT5 a2=>?_⟩;obtain⟨H6,a3,s6,T⟩:=new_at (o:=.tup [.int (i:Int),.ref e]) a2;rw[<-a3];have r:=s5.trans s6;refine⟨d g,_,FT m,mk,.ref T5,rfl,rfl,r _ _ eB,r _ _ ai,lr,λaC E=>?_,λE=>?_⟩;rw[NS] at E;by_cases l:m∈(TreeM.keysAt (A4 ((a.map (·.2)).take i)++[(i,g)]) g).map (·.1);rw[Ap l] at E;cases E;obtain⟨⟨m',k⟩,hk,rfl⟩:=AN.mp l;have a4:=B.tup g m' k hk;refine j' (j9 ⟨_,.ref (d (g++[m'])),Aq.of (r _ _ a4),rfl,?_⟩);refine⟨some (.ref mk),d,c,by rw[C];rfl,L.trans r,R.same r,r _ _ e4,S,by rw[C];exact(B.sameW r).stay l,λp u=>I p ((Pk l).mp (by rw[C] at u;exact u))⟩;rw[Ag l] at E;cases E;have l:m∉(TreeM.keysAt (A4 ((a.map (·.2)).take i)++[(i,g)]) g).map (·.1):=λl=>by rw[NS,Ap l] at E;cases E
   refine AZ λN q=>?_;obtain⟨d',c',T7,a5,a6,a7⟩:=B.grow l an I (L.free an) r (s6 _ _ ee) T;refine q ?_;clear q;have a8:∀{b o},H b=some o->b≠d g:=λ{b o}M z=>by rw[z,I g al] at M;cases M
   have s7:Ad H (upd H6 (d g) (.dT (Bk (DG (A4 ((a.map (·.2)).take i)++[(i,g)]) c g) (FT m) (.ref T5)))):=λb o M=>by
    rw[AI (a8 M)];exact r _ _ (L _ _ M)
   have af:=r _ _ eB;have a9:T5≠d g:=λy=>by rw[y,af] at T;cases T
   refine j' (j9 ⟨_,.ref e,Aq.of (by rw[AI a9];exact T),rfl,?_⟩);refine⟨some (.ref mk),d',c',by rw[C,a5];rfl,s7,⟨R.len,λn ax b h1 J=>?_⟩,?_,a7.trans S,by rw[C];exact T7,by rw[C];exact a6⟩;have x:=r _ _ (R.at_ n ax b h1 J);rw[AI (Mq x af (λz=>nomatch z))];exact x;have x:=r _ _ e4;rw[AI (Mq x af (λz=>nomatch z))];exact x
inductive Ek (K:Aj) (vs:S') (H:Hp) (Q:VK):Prop where
 |mk (nt S T R mk:Addr) (us Gs Es:G') (ss:List BC) (m:Au) (h0:vs=[.ref nt,.ref mk]) (h1:Aq K H nt [.ref S,.ref T,.ref R]) (h2:C4 H S us Gs Es ss) (h3:Aq K H mk (Gw m)) (h4:Ef ss m) (h5:Q (.str (Fs ss m)) H):Ek K vs H Q
def fV (K:Aj):Sp:=λvs H Q ζ=>Ek K vs H Q
abbrev Ta(P w K mg base):=BG P w K mg base "label_at" 1 ["net", "mark"] (fV K)
def fW(ab:BH mg)(F:Bt K "label_at" "label_at" QN f fd)(t:mg "label_at" = some (.ref f)):Ta P w K mg base:=by
 refine BZ F t MT (λI H Q E h=>?_) (λai ae aj s H I Q E hr h=>?_);obtain⟨J,S,T,R,mk,us,L,M,A,m,rfl,_⟩:=h;rfl;obtain⟨J,S,T,R,mk,us,L,M,A,m,rfl,N,B,t,⟨n,k,C,v,g,j,D⟩,q⟩:=h;have Z:n<A.length:=(Bi.mp j).1;obtain⟨u,af,E1,O,ag,ah,G,⟨U,⟨l,W,o⟩,⟨p,X,r⟩⟩⟩:=B.get Z;rw[j] at G;have Y:=BU G;rw[<-Y] at o r;have aa:BW (us.map V.ref) m.1=some (.ref u):=by rw[v];exact BJ (by rw[Bf,O];rfl)
 refine⟨_,(Al (Cf (pv 1) (BO (n:=3) rfl (Az (Ar (i:=2) MT.nd) (Az (Ar (i:=3) MT.nd) (Az (Ar (i:=4) MT.nd) BN)))))
  (Al (Cf (AB AC (AB AC (pv 0) Ah) (pv 2)) (BO (n:=2) rfl (Az (Ar (i:=5) MT.nd) (Az (Ar (i:=6) MT.nd) BN))))
  (Al (A8 (Bx B0 (pv 3) AH (Bs _)) (Ax (AJ (AB AC (AB AC (pv 5) (pv 4)) Ah))) A7)
  (Ax (AJ (AB AC (AB AC (pv 6) (pv 4)) Ah)))))),?_⟩
 rfl';refine⟨_,t,rfl,?_⟩;refine j' (j9 ⟨_,.ref S,N,rfl,j9 ⟨_,.ref u,Ai.of B.top,aa,?_⟩⟩);refine⟨_,Aq.of U,rfl,?_⟩;refine⟨rfl,rfl,At (λh=>?_) (λh=>?_)⟩;have b:m.2.1=j0:=V.str.inj (Bd h);rcases D with⟨_,a⟩|⟨e,_⟩;have c:=AM a;rw[X5 v g j b c] at q;have d:l[k]?=some (l[k]'(by rw[o.len];exact a)):=AM _;have x:=o.at_ _ _ _ d c;have y:BW (l.map V.ref) m.2.2=some (.ref (l[k]'(by rw[o.len];exact a))):=by rw[g];exact BJ (by rw[Bf,d];rfl)
 exact j9 ⟨_,_,Ai.of W,y,j' (j9 ⟨_,.str C.1[k].1,Aq.of x,rfl,q⟩)⟩;exact absurd (e.symm.trans b) R8;have b:m.2.1≠j0:=λz=>h (A5 (by rw[z]));rcases D with⟨e,_⟩|⟨_,a⟩;exact absurd e b;have c:=AM a;rw[UX v g j b c] at q;have d:p[k]?=some (p[k]'(by rw[r.len];exact a)):=AM _;have x:=r.at_ _ _ _ d c;have y:BW (p.map V.ref) m.2.2=some (.ref (p[k]'(by rw[r.len];exact a))):=by rw[g];exact BJ (by rw[Bf,d];rfl)
 exact j9 ⟨_,_,Ai.of X,y,j' (j9 ⟨_,.str C.2[k].1,Aq.of x,rfl,q⟩)⟩
def Wp{bet:Au->Au->Bool}{ws:TreeM.Ws Au}{a:List Au}{m:Au}{t:List Au}:TreeM.gat bet ws a (m::t)=((TreeM.keysAt ws a).filter λb=>bet b.1 m).map (·.2)++TreeM.gat bet ws (a++[m]) t:=rfl
theorem Wq{bet:Au->Au->Bool}{ws:TreeM.Ws Au}:∀{b a:List Au},(TreeM.gat bet ws a b).length<=b.length*ws.length
 |[],_=>Dp _
 |m::t,a=>by rw[Wp,AY,An,CV];have d:=OK (λc:Au×Nat=>bet c.1 m) (TreeM.keysAt ws a);have e:=Sh ws a;have f:=Wq (bet:=bet) (ws:=ws) (b:=t) (a:=a++[m]);rw[Nat.add_mul,Nat.one_mul];lia
inductive CP (K:Aj) (vs:S') (H:Hp) (Q:VK):Prop where
 |mk (nt S T R bp l:Addr) (us Gs Es:G') (ss:List BC) (ord:A') (ws:TreeM.Ws Au) (d:List Au->Addr) (c:List Au->Au->Addr) (F:Addr->Prop) (w:List Au) (h0:vs=[.ref nt,.ref bp,.ref (d []),.ref l]) (h1:H nt=some (.tup [.ref S,.ref T,.ref R])) (h2:C4 H S us Gs Es ss) (h3:Ht H bp ord) (h4:A6 dF H ws d c) (h5:ws.length<=100) (h6:(∀kw∈ws,∀m∈kw.2,Ef ss m)) (h7:Cs F H l w) (h8:MN ss w) (h9:∀H',Ad H H'->Q (Pj ((TreeM.gat (B5 ss ord) ws [] w).map λk:Nat=>(k:Int))) H'):CP K vs H Q
def fX (K:Aj):Sp:=λvs H Q ζ=>CP K vs H Q
abbrev Qf(P w K mg base):=BG P w K mg base "first_hider" 2 ["net", "better", "tree", "way"] (fX K)
def fY(a3:BH mg)(aq:Ta P w K mg base)(F:Bt K "first_hider" "first_hider" QO f fd)(B:mg "first_hider" = some (.ref f)):Qf P w K mg base:=by
 refine BZ F B L3 (λvs H a4 a5 h=>?_) (λaR aM aV s H vs a4 a5 hr h=>?_);obtain⟨L,S,T,aa,O,l,us,Gs,Es,n,ord,ws,d,c,F,w,rfl,_⟩:=h;rfl
 . obtain⟨L,S,T,aa,O,l,us,Gs,Es,n,ord,ws,d,c,F,w,rfl,eN,SC,BD,TT,a8,a9,⟨ms,el,rl,_⟩,ok,a6⟩:=h
   obtain⟨kb,eb,hb⟩:=BD
   refine⟨_,(Al (AU (i:=4) L3.nd (A1 Ac))
    (Al (AU (i:=5) L3.nd (pv 2))
    (Al (Dq C0 rfl (Dy (pv 3)) (Ar (i:=6) L3.nd) (Al (AU (i:=7) L3.nd (AV aq (Aa (pv 0) (Aa (pv 6) Ac))))
     (Al (Dq C0 rfl (I0 (pv 5)) (Ar (i:=8) L3.nd) (Ax (A8 (Bx (Xn (MB hr)) (AD (Aa (AV aq (Aa (pv 0) (Aa (pv 8) Ac))) (Aa (pv 7) Ac))) (pv 1) (by with_unfolding_all rfl)) (Ax (E8 (EJ E6 Gi Gj Gv (pv 4) (Aa (AB AC (II (MB hr) (pv 5) (pv 8) (λζ ζ=>rfl)) Ah) Ac)))) A7)))
     (Ax (AU (i:=5) L3.nd (AB AC (Xc (MB hr) (pv 5) (pv 6) (AD (Aa Ah (Aa RC Ac))) ⟨rfl,rfl,rfl,rfl⟩) Ah))))))
    (Ax (AJ (I7 rfl (by rfl) a3.b_min (Aa (pv 4) Ac))))))),?_⟩
   rfl';refine⟨by decide,λN X=>?_⟩;obtain⟨aN,aA,s1,aB⟩:=new_at (o:=.lst []) X;rw[<-aA];refine Bz ?_;cbv;refine Bz ?_;cbv
   refine⟨⟨_,Ai.of (s1 _ _ el)⟩,Fz (xs:=ms.map V.ref) (λj σ p=>∃(a:Addr)(u6 u7 C:U')(t:P'),σ=[some (.ref L),some (.ref O),some (.ref (d [])),some (.ref l),some (.ref N),some (.ref a),u6,u7,C]/\Ad H p/\p N=some (.lst ((t.map λk:Nat=>(k:Int)).map V.int))/\t++TreeM.gat (B5 n ord) ws (w.take j) (w.drop j)=TreeM.gat (B5 n ord) ws [] w/\a≠N/\((DX ws (w.take j)/\a=d (w.take j))\/(¬DX ws (w.take j)/\H a=none/\Rd p a (.dT []))))
    ⟨d [],none,none,none,[],rfl,s1,aB,rfl,?_,.inl ⟨.inl rfl,rfl⟩⟩ (λj σ p ζ af=>by obtain⟨_,_,_,_,_,_,s,_⟩:=af;exact Ai.of (s _ _ el)) ?_ ?_⟩
   obtain⟨o,x⟩:=TT.dct [] (.inl rfl);exact Be x X;rotate_left;refine λσ Z ag=>AZ λNz R=>?_;obtain⟨a,u6,u7,C,t,rfl,A,ah,u,_⟩:=ag;refine R ?_;clear R;rw[An,rl.len,List.drop_length] at u;have u:t=_:=(DR t).symm.trans u;subst u;exact⟨N,_,rfl,ah,a6 Z A⟩;refine λj aO σ Z hy ag=>AZ λNz R=>?_;obtain⟨a,u6,u7,C,t,rfl,A,ah,u,ar,ai⟩:=ag;refine R ?_;clear R;refine Kj ?_;intro Nx Cy;obtain⟨mk,au,rfl⟩:=getm hy;have hj:j<w.length:=by rw[<-rl.len];exact(Bi.mp au).1
   have aj:=AM hj;have ae:=rl.at_ j _ _ au aj;have av:=ok.1 _ (Eo hj);have D:w.take (j+1)=w.take j++[w[j]]:=by rw[En,aj];rfl
   have dk:w.drop j=w[j]::w.drop (j+1):=Ml hj;rw[dk,Wp] at u;generalize w[j]=m at aj ae D av u;generalize aS:w.take j=g at D u ai ⊢;refine⟨L,S,T,aa,mk,us,Gs,Es,n,m,rfl,Aq.of (A _ _ eN),SC.same A,Aq.of (A _ _ ae),av,?_⟩;refine Bz ?_;cbv;have aC:Rd Z a (.dT (DG ws c g)):=(by rcases ai with⟨v,q⟩|⟨v,_,q⟩;obtain⟨o,x⟩:=TT.dct g v;rw[q];exact .inr ⟨o,A _ _ x⟩;unfold DG;rw[U8 v];exact q);refine NE (λσ' p=>∃(C:U'),σ'=[some (.ref L),some (.ref O),some (.ref (d [])),some (.ref l),some (.ref N),some (.ref a),some (.ref mk),some (.str (Fs n m)),C]/\Ad H p/\p N=some (.lst (((t++((TreeM.keysAt ws g).filter λE=>B5 n ord E.1 m).map (·.2)).map λk:Nat=>(k:Int)).map V.int))/\Rd p a (.dT (DG ws c g))) ?_ (λN' aD=>?_)
   case refine_2 =>
    refine⟨a,_,rfl,aC,λo G=>?_⟩
    have Q:Ad H (upd Z a (.frz o (.dT (DG ws c g)))):=λb a7 e=>by
     by_cases aw:b=a;subst aw;rw[Ab];rcases ai with⟨v,q⟩|⟨_,q,_⟩;obtain⟨o',x⟩:=TT.dct g v;rw[<-q] at x;have x2:=A _ _ x;rcases G with G|G;rw[x2] at G;cases G;rw[x2] at G;cases G;rw[x] at e;exact e;rw[e] at q;cases q;rw[AI aw];exact A _ _ e
    have M:(upd Z a (.frz o (.dT (DG ws c g)))) N=_:=(AI (Ne.symm ar)).trans ah;have ax:(upd Z a (.frz o (.dT (DG ws c g)))) a=some (.frz o (.dT (DG ws c g))):=Ab;generalize upd Z a (.frz o (.dT (DG ws c g)))=H3 at Q M ax ⊢
    refine Yh (λi σ p=>∃(C:U'),σ=[some (.ref L),some (.ref O),some (.ref (d [])),some (.ref l),some (.ref N),some (.ref a),some (.ref mk),some (.str (Fs n m)),C]/\Ad H p/\p N=some (.lst (((t++(((TreeM.keysAt ws g).take i).filter λE=>B5 n ord E.1 m).map (·.2)).map λk:Nat=>(k:Int)).map V.int))/\p a=some (.frz o (.dT (DG ws c g))))
     ⟨_,rfl,Q,by rw[D6];show H3 N=some (.lst (((t++[]).map _).map _));rw[DR];exact M,ax⟩ (λi σ p ζ af=>by obtain⟨_,_,_,_,e⟩:=af;exact e) ?_ ?_
    rotate_left;rintro σ H4 ⟨ak,rfl,I,J,U⟩;unfold DG at J;rw[An,Dw] at J;exact aD _ _ ⟨ak,rfl,I,J,.inr ⟨o,U⟩⟩;rintro i k aP b σ H4 hi ay ⟨ak,rfl,I,J,U⟩;unfold DG at hi;rw[Bf] at hi;obtain⟨⟨x,ab⟩,hx,e⟩:=E5.mp hi;have e1:=By Prod.fst e;have e2:=By Prod.snd e;dsimp only at e1 e2;subst e1 e2;have mx:=Bq hx;have al:x∈(TreeM.keysAt ws g).map (·.1):=AN.mpr ⟨_,mx,rfl⟩;have aE:Ef n x:=(by obtain⟨kw,v,q⟩:=TreeM.keysAt_mem.mp al;exact a9 kw v x (q.subset (by simp)));have aF:=TT.tup g x ab mx;have aT:DX ws g:=(by obtain⟨kw,v,q⟩:=TreeM.keysAt_mem.mp al;exact .inr ⟨kw,v,(Mn g _).trans q⟩);have az:(TreeM.keysAt ws g).take (i+1)=(TreeM.keysAt ws g).take i++[(x,ab)]:=by rw[En,hx];rfl
    refine⟨L,S,T,aa,b,us,Gs,Es,n,x,rfl,Aq.of (I _ _ eN),SC.same I,Aq.of ay,aE,?_⟩;refine⟨AR,λaQ hp=>?_⟩;obtain⟨H5,an,r,ep⟩:=new_at (o:=.tup [.str (Fs n x),.str (Fs n m)]) hp;rw[<-an];have y:=I.trans r;refine⟨O,_,rfl,EA.t (k:=Fc (Fs n x,Fs n m)) (y _ _ eb) ep,rfl,?_⟩;rw[hb];refine At (λh=>?_) (λh=>?_);have ao:B5 n ord x m=true:=(by simpa [B5] using h);refine⟨j9 ⟨rfl,_,Ai.of (r _ _ J)⟩,a,.ref (c g x),rfl,?_,j' (j9 ⟨_,.int (ab:Int),Aq.of (y _ _ aF),rfl,_,r _ _ J,?_,?_⟩)⟩;refine .inr ⟨_,FT x,b,.inr ⟨o,r _ _ U⟩,rfl,r _ _ ay,?_⟩;rw[NS,Ap al];rw[An,An,AY,An];have v:=OK (λE:Au×Nat=>B5 n ord E.1 m) ((TreeM.keysAt ws g).take i);have q:=Sh ws g;have h3:(((TreeM.keysAt ws g).take i)).length<=(TreeM.keysAt ws g).length:=by rw[Dx];lia
    have h4:=By List.length u;have h5:=Wq (bet:=B5 n ord) (ws:=ws) (b:=w) (a:=[]);have h6:w.length*ws.length<=100*100:=Nat.mul_le_mul ok.2 a8;rw[AY] at h4;exact X7 (by lia);refine⟨_,rfl,λb' a7 e=>?_,?_,?_⟩;rw[AI (Be e X)];exact y _ _ e;rw[Ab,az,M1,KA,Ap ao];simp;rw[AI ar];exact r _ _ U;have ao:¬B5 n ord x m=true:=(by simpa [B5] using h);refine⟨_,rfl,y,?_,r _ _ U⟩;rw[az,M1,KA,Ag ao];simpa using r _ _ J
   rintro σ' H3 ⟨ak,rfl,Q,M,a2⟩;have aU:((DG ws c g).map (·.1)).length=(DG ws c g).length:=An _;refine⟨a,rfl,.inr ⟨_,a2⟩,λe Y=>?_⟩;obtain⟨H4,aG,I,ee⟩:=new_at (o:=.dT []) Y;rw[<-aG];refine⟨AR,λT5 aH=>?_⟩;obtain⟨H5,an,r,aI⟩:=new_at (o:=.tup [.int 0,.ref e]) aH;rw[<-an];have W:=I.trans r;have y:=Q.trans W;have aL:Rd H5 a (.dT (DG ws c g)):=a2.elim (λz=>.inl (W _ _ z)) λ⟨o,z⟩=>.inr ⟨o,W _ _ z⟩;have aJ:e≠N:=λz=>by rw[z,M] at Y;cases Y
   refine⟨_,.inr ⟨_,FT m,mk,aL,rfl,y _ _ ae,rfl⟩,?_⟩;rw[NS];have a0:(t++((TreeM.keysAt ws g).filter λE=>B5 n ord E.1 m).map (·.2))++TreeM.gat (B5 n ord) ws (g++[m]) (w.drop (j+1))=TreeM.gat (B5 n ord) ws [] w:=by rw[Fv];exact u
   by_cases B:m∈(TreeM.keysAt ws g).map (·.1);rw[Ap B];obtain⟨⟨m',k⟩,hk,rfl⟩:=AN.mp B;have aK:=TT.tup g m' k hk;have a1:=Fb.mpr B;refine j' (j9 ⟨_,.ref (d (g++[m'])),Aq.of (y _ _ aK),rfl,?_⟩);refine⟨_,_,_,_,_,rfl,y,W _ _ M,by rw[D];exact a0,?_,.inl ⟨by rw[D];exact a1,by rw[D]⟩⟩;obtain⟨o,x⟩:=TT.dct _ a1;exact Be x X;rw[Ag B];refine j' (j9 ⟨_,.ref e,Aq.of aI,rfl,?_⟩);exact⟨_,_,_,_,_,rfl,y,W _ _ M,by rw[D];exact a0,aJ,.inr ⟨λz=>B (Fb.mp (by rw[D] at z;exact z)),Q.free Y,.inl (r _ _ ee)⟩⟩
inductive DO (K:Aj) (vs:S') (H:Hp) (Q:VK):Prop where
 |mk (nt S T R t D:Addr) (us Gs Es:G') (ss:List BC) (F G:Addr->Prop) (sts:List DU) (inn:Int) (ord:A') (zs:List (Addr×List Au)) (h0:vs=[.ref nt,.ref t,.ref D]) (h1:H nt=some (.tup [.ref S,.ref T,.ref R])) (h2:C4 H S us Gs Es ss) (h3:F1 K F H t sts inn ord) (h4:ord.length<=40) (h5:(∀x,(x,x)∉ord)) (h6:H D=some (.lst (zs.map λz=>V.ref z.1))) (h7:(∀z∈zs,Cs G H z.1 z.2)) (h8:(∀z∈zs,MN ss z.2)) (h9:zs.length<=100) (h10:∀(P:Addr)(ys:List (Addr×List Au))(H':Hp),H P=none->Ad H H'->H' P=some (.lst (ys.map λz=>V.ref z.1))->(∀z∈ys,Cs (λl=>H l=none/\l≠P) H' z.1 z.2)->ys.map (·.2)=Fd ss ord (zs.map (·.2)) (zs.map (·.2))->Q (.ref P) H'):DO K vs H Q
def fZ (K:Aj):Sp:=λvs H Q ζ=>DO K vs H Q
abbrev Tb(P w K mg base):=BG P w K mg base "seen_ways" 3 ["net", "table", "ways"] (fZ K)
def f0(aq:BH mg)(az:Qd P w K mg base)(a0:Qe P w K mg base)(a1:Qf P w K mg base)(F:Bt K "seen_ways" "seen_ways" OQ f fd)(J:mg "seen_ways" = some (.ref f)):Tb P w K mg base:=by
 refine BZ F J SI (λa H ar au h=>?_) (λaB a8 aE s H a ar au hr h=>?_);obtain⟨nt,S,T,aa,t,ab,us,Gs,Es,g,F,G,af,ag,ord,d,rfl,_⟩:=h;rfl;obtain⟨nt,S,T,aa,t,ab,us,Gs,Es,g,F,G,af,ag,ord,d,rfl,eN,SC,TB,ax,ah,L,p,ai,lz,av⟩:=h
 refine⟨_,(Al (AU (i:=3) SI.nd (AV az (Aa (pv 1) Ac)))
  (Al (AU (i:=4) SI.nd (Hs (AV a0 (Aa (pv 2) Ac))))
  (Ax (AJ (Hc (te:=Rq (IV K) (Cr (Bj 0) Cg)) rfl CN (Dy (pv 2)) (λζ ζ ζ ζ ζ=>(Ar (i:=0) CN.nd)) (λζ ζ ζ ζ ζ=>(Hb (GJ (GW (AV a1 (Aa (pv 1) (Aa (pv 2) (Aa (pv 3) (Aa (pv 0) Ac))))))))) (λζ ζ ζ ζ ζ=>(Mw W1 aq.b_list (Aa (pv 0) Ac)))))))),?_⟩
 rfl';refine⟨t,F,af,ag,ord,rfl,TB,ax,λbp a9 aC M BD=>?_⟩;refine⟨ab,G,d,rfl,M _ _ L,λz h=>(p z h).same M,lz,λaw c aA s2 T2 aj H3 q f4=>?_⟩;have s3:=q.same s2;have T3:=T2.frz aj q f4;have a2:=BD.same s3;clear T2 aj q f4 s2 BD;have n:=M.trans s3;have lw:(A4 (d.map (·.2))).length<=100:=by unfold A4;rw[An,List.length_zipIdx,An];exact lz
 have a3:∀kw∈A4 (d.map (·.2)),∀m∈kw.2,Ef g m:=λkw a4 m J=>by
  obtain⟨z,h1,h2⟩:=AN.mp (Bq (C6.mp a4));exact(ai z h1).1 m (by rw[h2];exact J)
 refine⟨⟨_,Ai.of (n _ _ L)⟩,UC (xs:=d.map λz=>V.ref z.1) (λP i r B=>∃a:List (Addr×List Au),r=(a.map λz=>V.ref z.1)/\Ad H3 B/\B P=some (.lst r)/\(∀z∈a,Cs (λl=>H l=none/\l≠P) B z.1 z.2)/\a.map (·.2)=Fd g ord (d.map (·.2)) ((d.map (·.2)).take i)/\a.length<=i)
  (λP u=>⟨[],rfl,A9 u,Ab,λz p=>by simp at p,by rw[D6];rfl,AK _⟩) (λP i r B a5=>by obtain⟨_,_,s,_⟩:=a5;exact Ai.of (s _ _ (n _ _ L))) (λP i ae r H4 RR R0 u hy N k k0=>?_) (λP r H4 u N=>?_)⟩
 refine AZ λNz y=>?_;obtain⟨a,rfl,j,O,I,A,lv⟩:=N;refine y ?_;clear y;obtain⟨z,U,rfl⟩:=getm hy;have aD:i<d.length:=(Bi.mp U).1;have Q:=Bq U;have ak:(d.map (·.2))[i]?=some z.2:=by rw[Bf,U];rfl
 have W:=n.trans j;refine⟨nt,S,T,aa,bp,z.1,us,Gs,Es,g,ord,_,aw,c,G,z.2,rfl,W _ _ eN,SC.same W,a2.same j,T3.same j,lw,a3,(p z Q).same W,ai z Q,λH5 C=>?_⟩;have X:=j.trans C;have al:=n.trans X;have Y:=C _ _ O;refine⟨rfl,At (λh=>?_) (λh=>?_)⟩;have Z:=(Pl ah).mp (Ct.mp (Bd h));obtain⟨ms,ay,q,_⟩:=(p z Q).same al;refine⟨z.1,_,rfl,j9 (Ai.of ay),λl D=>?_⟩;obtain⟨H6,a6,E,el⟩:=new_at (o:=.lst (ms.map V.ref)) D;rw[<-a6];have an:=E _ _ Y;have ao:l≠P:=λae=>by rw[ae,Y] at D;cases D
 have R:Keeps (·=P) H6 (upd H6 P (.lst (a.map (λz=>V.ref z.1)++[.ref l]))):=Keeps.one an;refine k _ _ an (by rw[An];exact BX (by lia)) ⟨a++[(l,z.2)],by rw[Bh];rfl,λb o e=>?_,Ab,λw a7=>?_,?_,by rw[AY,FM];lia⟩;rw[AI (Be e u)];exact E _ _ (X _ _ e);rcases BI.mp a7 with h|h;exact((I w h).same (C.trans E)).keeps R λx hx=>hx.2;rw[AX.mp h];exact⟨ms,R.at_ _ _ el ao,(q.same E).keeps R,al.free D,ao⟩;rw[Vc ak,Ag (by rw[Z];exact Ce),Bh,A];rfl
 have Z:((d.map (·.2)).any λv=>Eg g ord v z.2)=true:=by
  cases e:(d.map (·.2)).any λv=>Eg g ord v z.2 with|true=>rfl|false=>exact absurd (A5 (Ct.mpr ((Pl ah).mpr e))) h
 exact k0 _ ⟨a,rfl,X,Y,λw hw=>(I w hw).same C,by rw[Vc ak,Ap Z];exact A,by lia⟩;refine AZ λNz y=>?_;obtain⟨a,rfl,j,O,I,A,lv⟩:=N;refine y ?_;clear y;rw[An,<-An (f:=(·.2)),Dw] at A;exact av P a H4 ((n).free u) (n.trans j) O I A
inductive El (K:Aj) (vs:S') (H:Hp) (Q:VK):Prop where
 |mk (nt A t D:Addr) (x:Str) (F G:Addr->Prop) (W:Wd) (inn:Int) (ord:A') (sc st:Int) (zs:List (Addr×AO)) (h0:vs=[.ref nt,.ref t,.ref D,.str x]) (h1:Bm K H nt A t W) (h2:F1 K F H t W.sts inn ord) (h3:Cj W) (h4:Cc W) (h5:ord.length<=40) (h6:(∀x,(x,x)∉ord)) (h7:(0<=sc/\sc<W.ss.length)) (h8:(0<=st/\st<W.sts.length)) (h9:H D=some (.lst (zs.map λz=>V.ref z.1))) (h10:(∀z∈zs,Dr G H z.1 z.2)) (h11:DE W sc st (zs.map (·.2))) (h12:∀(r D2 P:Addr)(ws ys:List (Addr×List Au))(H':Hp),Ad H H'->H' r=some (.tup [.ref D,.ref D2,.ref P])->H D2=none->H' D2=some (.lst (ws.map λz=>V.ref z.1))->(∀z∈ws,Cs (λl=>H l=none) H' z.1 z.2)->MM W x (zs.map (·.2)) (ws.map (·.2))->H P=none->H' P=some (.lst (ys.map λz=>V.ref z.1))->(∀z∈ys,Cs (λl=>H l=none) H' z.1 z.2)->ys.map (·.2)=Fd W.ss ord (ws.map (·.2)) (ws.map (·.2))->Q (.ref r) H'):El K vs H Q
def f5 (K:Aj):Sp:=λvs H Q ζ=>El K vs H Q
abbrev Tc(P w K mg base):=BG P w K mg base "look_for" 4 ["net", "table", "begun", "name"] (f5 K)
def f6(aj:BH mg)(aa:S9 P w K mg base)(ab:Tb P w K mg base)(F:Bt K "look_for" "look_for" QP f fd)(J:mg "look_for" = some (.ref f)):Tc P w K mg base:=by
 refine BZ F J Wa (λL H Q E h=>?_) (λan A ao s H L Q E u h=>?_);obtain⟨j,A,t,D,x,F,G,W,C,ord,sc,st,k,rfl,_⟩:=h;rfl;obtain⟨j,A,t,D,x,F,G,W,C,ord,sc,st,k,rfl,v,M,ok,y,N,ae,e,g,O,U,c,q⟩:=h;obtain⟨S,T,R,us,V,X,ts,qt,qs,Y,Z⟩:=v.net
 refine⟨_,(Al (AU (i:=4) Wa.nd (AV aa (Aa (pv 0) (Aa (pv 1) (Aa (pv 2) (Aa (pv 3) Ac))))))
  (Ax (AJ (AD (Aa (pv 2) (Aa (pv 4) (Aa (AV ab (Aa (pv 0) (Aa (pv 1) (Aa (pv 4) Ac)))) Ac))))))),?_⟩
 rfl';refine⟨j,A,t,D,x,G,W,k,rfl,v,ok,O,U,λz af=>((c.mem _).mp (AN.mpr ⟨z,af,rfl⟩)).ok ok e g,y.fnd x sc st _ e g c,λl d ak ag a I B m=>?_⟩;have ah:∀z∈d,z.2∈DF W x (k.map (·.2)):=λz h=>m.perm.mem_iff.mp (AN.mpr ⟨z,h,rfl⟩);have lw:d.length<=100:=(by have h1:=m.perm.length_eq;have h2:=y.fnd x sc st _ e g c;rw[An] at h1;lia);refine⟨j,S,T,R,t,l,us,V,X,W.ss,F,_,W.sts,C,ord,d,rfl,a _ _ Y,Z.sc.same a,M.same a,N,ae,I,B,λz h=>Sa ok e g c (ah z h),lw,λP ys al hP n eP hy ai=>?_⟩;refine⟨Fo,λr u=>?_⟩;have b:=A9 (o:=.tup [.ref D,.ref l,.ref P]) u;refine q r l P d ys _ ((a.trans n).trans b) Ab ag (b _ _ (n _ _ I)) (λz h=>(((B z h).mono' λζ ζ ζ p=>p.1).same n).same b) m (a.free hP) (b _ _ eP) (λz h=>((hy z h).mono' λx o ζ p=>a.free p.1).same b) ai
inductive Dk (K:Aj) (vs:S') (H:Hp) (Q:VK):Prop where
 |mk (nt S T R t D O:Addr) (us Gs Es:G') (ss:List BC) (F G:Addr->Prop) (sts:List DU) (inn:Int) (ord:A') (ws:List (Addr×List Au)) (os:List (Addr×Ow)) (h0:vs=[.ref nt,.ref t,.ref D,.ref O]) (h1:H nt=some (.tup [.ref S,.ref T,.ref R])) (h2:C4 H S us Gs Es ss) (h3:F1 K F H t sts inn ord) (h4:ord.length<=40) (h5:(∀x,(x,x)∉ord)) (h6:H D=some (.lst (ws.map λz=>V.ref z.1))) (h7:(∀z∈ws,Cs G H z.1 z.2)) (h8:(∀z∈ws,MN ss z.2)) (h9:ws.length<=100) (h10:H O=some (.lst (os.map λz=>V.ref z.1))) (h11:(∀z∈os,Fq G H z.1 z.2)) (h12:(∀z∈os,MN ss z.2.1)) (h13:∀(v:V)(H':Hp),Ad H H'->Sr G H' v (GA ss ord (ws.map (·.2)) (os.map (·.2)))->Q v H'):Dk K vs H Q
def f7 (K:Aj):Sp:=λvs H Q ζ=>Dk K vs H Q
abbrev Td(P w K mg base):=BG P w K mg base "first_owed" 3 ["net", "table", "found", "owed"] (f7 K)
def f8(a0:BH mg)(ao:Qd P w K mg base)(aq:Qe P w K mg base)(ar:Qf P w K mg base)(F:Bt K "first_owed" "first_owed" QQ f fd)(r:mg "first_owed" = some (.ref f)):Td P w K mg base:=by
 refine BZ F r Od (λvs H aj ak h=>?_) (λa4 a1 a6 s H vs aj ak hr h=>?_);obtain⟨u,S,T,R,t,D,O,us,J,L,b,F,G,aa,ab,ord,a,k,rfl,_⟩:=h;rfl
 . obtain⟨u,S,T,R,t,D,O,us,J,L,b,F,G,aa,ab,ord,a,k,rfl,eN,SC,TB,an,ae,eD,hw,au,af,M,ho,av,q⟩:=h
   refine⟨_,(Al (AU (i:=4) Od.nd (AV ao (Aa (pv 1) Ac)))
    (Al (AU (i:=5) Od.nd (Hs (AV aq (Aa (pv 2) Ac))))
    (Al (Dq C0 rfl (Dy (pv 3)) (BO (n:=2) rfl (Az (Ar (i:=6) Od.nd) (Az (Ar (i:=7) Od.nd) BN))) (Ax (A8 (GJ (GW (AV ar (Aa (pv 0) (Aa (pv 4) (Aa (pv 5) (Aa (pv 6) Ac))))))) (Ax (AJ (AD (Aa (pv 6) (Aa (pv 7) Ac))))) A7)))
    (Ax (AJ Ci))))),?_⟩
   rfl';refine⟨t,F,aa,ab,ord,rfl,TB,an,λN a2 a5 y Q=>?_⟩;refine⟨D,G,a,rfl,y _ _ eD,λz h=>(hw z h).same y,af,λd c a3 U W ag H3 A X=>?_⟩;have Y:=A.same U;have T3:=W.frz ag A X;have aw:=Q.same Y;clear W ag A X U Q;have p:=y.trans Y;have lw:(A4 (a.map (·.2))).length<=100:=by unfold A4;rw[An,List.length_zipIdx,An];exact af
   have ax:∀Z∈A4 (a.map (·.2)),∀m∈Z.2,Ef b m:=λZ ay m r=>by
    obtain⟨z,h1,h2⟩:=AN.mp (Bq (C6.mp ay));exact(au z h1).1 m (by rw[h2];exact r)
   refine⟨⟨_,Ai.of (p _ _ M)⟩,Fz (xs:=k.map λz=>V.ref z.1) (λi σ H'=>∃B C,σ=[some (.ref u),some (.ref t),some (.ref D),some (.ref O),some (.ref N),some (.ref (d [])),B,C]/\Ad H3 H'/\GA b ord (a.map (·.2)) (k.map (·.2))=GA b ord (a.map (·.2)) ((k.map (·.2)).drop i))
    ⟨none,none,rfl,λζ ζ e=>e,rfl⟩ (λi σ H' ζ az=>by obtain⟨_,_,_,s,_⟩:=az;exact Ai.of (s _ _ (p _ _ M))) ?_ ?_⟩
   rotate_left;rintro σ H4 ⟨B,C,rfl,g,j⟩;rw[An,<-An (f:=(·.2)),List.drop_length] at j;refine q _ _ (p.trans g) ?_;rw[j];rfl;rintro i x σ H4 hx ⟨B,C,rfl,g,j⟩;obtain⟨z,ah,rfl⟩:=getm hx;have mz:=Bq ah;have E:=p.trans g;obtain⟨l,e1,wl⟩:=((ho z mz).same E).way;have hd:=Jh (l:=k.map (·.2)) (i:=i) (x:=z.2) (by rw[Bf,ah];rfl);rw[hd] at j;refine⟨_,Aq.of e1,rfl,?_⟩;refine⟨u,S,T,R,N,l,us,J,L,b,ord,_,d,c,G,z.2.1,rfl,E _ _ eN,SC.same E,aw.same g,T3.same g,lw,ax,wl,av z mz,λH5 s5=>?_⟩;have ai:=g.trans s5;refine⟨rfl,At (λh=>?_) (λh=>?_)⟩;have I:=(Pl ae).mp (Ct.mp (Bd h));refine⟨AR,λal hp=>?_⟩;have s6:=A9 (o:=.tup [.ref l,.int z.2.2]) hp;refine q _ _ ((p.trans ai).trans s6) ?_;rw[j,YL I];exact⟨al,l,rfl,Ab,(wl.same s5).same s6⟩
   have I:((a.map (·.2)).any λv=>Eg b ord v z.2.1)=true:=by
    cases e:(a.map (·.2)).any λv=>Eg b ord v z.2.1 with|true=>rfl|false=>exact absurd (A5 (Ct.mpr ((Pl ae).mpr e))) h
   exact⟨_,_,rfl,ai,by rw[j,YM I]⟩
inductive Dl (K:Aj) (vs:S') (H:Hp) (Q:VK):Prop where
 |mk (nt S T R mk:Addr) (us Gs Es:G') (ss:List BC) (m:Au) (h0:vs=[.ref nt,.ref mk]) (h1:Aq K H nt [.ref S,.ref T,.ref R]) (h2:C4 H S us Gs Es ss) (h3:Aq K H mk (Gw m)) (h4:Ef ss m) (h5:m.2.1=i0) (h6:∀t,H t=some (.tup (CB (Ki ss m)))->Q (.ref t) H):Dl K vs H Q
def f9 (K:Aj):Sp:=λvs H Q ζ=>Dl K vs H Q
abbrev Oy(P w K mg base):=BG P w K mg base "telling_at" 1 ["net", "mark"] (f9 K)
def gA(B:BH mg)(F:Bt K "telling_at" "telling_at" QR f fd)(c:mg "telling_at" = some (.ref f)):Oy P w K mg base:=by
 refine BZ F c Oe (λx H Q E h=>?_) (λaf A ag s H x Q E hr h=>?_);obtain⟨y,S,T,R,mk,us,z,C,j,m,rfl,_⟩:=h;rfl;obtain⟨y,S,T,R,mk,us,z,C,j,m,rfl,D,l,c,⟨n,k,s',o,p,d,G⟩,Y,q⟩:=h;have W:n<j.length:=(Bi.mp d).1;obtain⟨u,aa,I,J,ab,ae,r,⟨L,⟨tG,b1,M⟩,⟨a,N,b⟩⟩⟩:=l.get W;rw[d] at r;have O:=BU r;rw[<-O] at M b;have X:BW (us.map V.ref) m.1=some (.ref u):=by rw[o];exact BJ (by rw[Bf,J];rfl)
 refine⟨_,(Al (Cf (pv 1) (BO (n:=3) rfl (Az (Ar (i:=2) Oe.nd) (Az (Ar (i:=3) Oe.nd) (Az (Ar (i:=4) Oe.nd) BN)))))
  (Al (AU (i:=5) Oe.nd (AB AC (AB AC (AB AC (pv 0) Ah) (pv 2)) Ah))
  (Ax (AJ (AB AC (pv 5) (pv 4)))))),?_⟩
 rfl';refine⟨_,c,rfl,?_⟩;refine j' (j9 ⟨_,.ref S,D,rfl,j9 ⟨_,.ref u,Ai.of l.top,X,j' (j9 ⟨_,.ref I,Aq.of L,rfl,?_⟩)⟩⟩);rcases G with⟨e,_⟩|⟨_,g⟩;exact absurd (Y.symm.trans e) R8;have t:=AM g;rw[Sm o p d t] at q;have v:a[k]?=some (a[k]'(by rw[b.len];exact g)):=AM _;have U:=b.at_ _ _ _ v t;have Z:BW (a.map V.ref) m.2.2=some (.ref (a[k]'(by rw[b.len];exact g))):=by rw[p];exact BJ (by rw[Bf,v];rfl)
 exact j9 ⟨_,_,Ai.of N,Z,q _ U⟩
inductive Dm (K:Aj) (vs:S') (H:Hp) (Q:VK):Prop where
 |mk (nt A t P:Addr) (G:Addr->Prop) (W:Wd) (ys:List (Addr×List Au)) (h0:vs=[.ref nt,.ref A,.ref P]) (h1:Bm K H nt A t W) (h2:Cc W) (h3:H P=some (.lst (ys.map λz=>V.ref z.1))) (h4:(∀z∈ys,Cs G H z.1 z.2)) (h5:(∀z∈ys,DY W.ss z.2)) (h6:∀(v:V)(H':Hp),Ad H H'->Sr G H' v (F3 W (ys.map (·.2)))->Q v H'):Dm K vs H Q
def gB (K:Aj):Sp:=λvs H Q ζ=>Dm K vs H Q
abbrev Tf(P w K mg base):=BG P w K mg base "first_open" 2 ["net", "answers", "seen"] (gB K)
def gC(an:BH mg)(aj:Oy P w K mg base)(F:Bt K "first_open" "first_open" QS f fd)(hm:mg "first_open" = some (.ref f)):Tf P w K mg base:=by
 refine BZ F hm MU (λvs H Q aa h=>?_) (λao A ar s H vs Q aa hr h=>?_);obtain⟨g,A,t,P,ab,W,c,rfl,_⟩:=h;rfl
 . obtain⟨g,A,t,P,ab,W,c,rfl,I,sm,J,hy,R,q⟩:=h
   obtain⟨ae,af,ag,us,Gs,Es,ts,qt,qs,eN,N3⟩:=I.net
   refine⟨_,(Al (Dq C0 rfl (Dy (pv 2)) (Ar (i:=3) MU.nd) (Al (Cf (AV aj (Aa (pv 0) (Aa (AB AC (pv 3) (Ms Mu Ah)) Ac))) (BO (n:=4) rfl (Az (Ar (i:=4) MU.nd) (Az (Ar (i:=5) MU.nd) (Az (Ar (i:=6) MU.nd) (Az (Ar (i:=7) MU.nd) BN))))))
    (Ax (A8 (PW.pt (KO (Bx B0 (pv 6) AH (Bs _)) (KN (GJ (GW (AB AC (pv 1) (pv 7))))))) (Ax (AJ (AD (Aa (pv 3) (Aa (pv 7) Ac))))) A7))))
    (Ax (AJ Ci))),?_⟩
   try dsimp only[AF,Cx.nox,Cx.wish]
   refine⟨⟨_,Ai.of J⟩,Fz (xs:=c.map λz=>V.ref z.1) (λi σ L=>∃j r u v y,σ=[some (.ref g),some (.ref A),some (.ref P),j,r,u,v,y]/\Ad H L/\F3 W (c.map (·.2))=F3 W ((c.map (·.2)).drop i))
    ⟨none,none,none,none,none,rfl,λζ ζ e=>e,rfl⟩ (λi σ L ζ ak=>by obtain⟨_,_,_,_,_,_,s,_⟩:=ak;exact Ai.of (s _ _ J)) ?_ ?_⟩
   rotate_left;refine λσ H4 E=>AZ λNz d=>?_;obtain⟨j,r,u,v,y,rfl,a,b⟩:=E;refine d ?_;clear d;rw[An,<-An (f:=(·.2)),List.drop_length] at b;refine q _ _ a ?_;rw[b];rfl;refine λi x σ H4 hx E=>AZ λNz d=>?_;obtain⟨j,r,u,v,y,rfl,a,b⟩:=E;refine d ?_;clear d;obtain⟨z,S,rfl⟩:=getm hx;have B:=Bq S;have hd:=Jh (l:=c.map (·.2)) (i:=i) (x:=z.2) (by rw[Bf,S];rfl);rw[hd] at b;have tk:=Px sm (R z B);have M:=(hy z B).same a;obtain⟨vv,m,N,mo,ai⟩:=R z B;have T:=M;rw[N] at T;obtain⟨ms,mk,l1,l2,l3⟩:=Vl T;refine j9 ⟨_,.ref mk,Ai.of l1,l2,g,ae,af,ag,mk,us,Gs,Es,W.ss,m,rfl,Aq.of (a _ _ eN),N3.sc.same a,Aq.of l3,mo,ai,λtp U=>?_⟩;have et:Ki W.ss m=DL W.ss z.2:=(by rw[N,NW]);rw[et] at U;refine⟨_,Aq.of U,rfl,?_⟩;refine⟨rfl,rfl,At (λh=>?_) (λh=>?_)⟩;rotate_left;have hn:(DL W.ss z.2).2.2.1≠i6:=λe=>h (A5 (by rw[e]));refine Bl ?_;refine⟨_,_,_,_,_,rfl,a,?_⟩;rw[b,MO (Ag λe=>hn e.1)];have X:(DL W.ss z.2).2.2.1=i6:=V.str.inj (Bd h);rcases tk with⟨e,_⟩|⟨_,k0,k1⟩;rw[X] at e;exact absurd e (by decide +kernel);obtain⟨k,C⟩:=DJ k0;have al:k<W.as.length:=(by lia);obtain⟨G,ah,Y,hv,hc⟩:=(I.ans.same a).get al;have Z:BW G (DL W.ss z.2).2.2.2=some ah:=by rw[C];exact BJ hv
   rcases hc with⟨D,rfl⟩|⟨p,ta,D,rfl,aq⟩;refine j9 ⟨G,_,Y,Z,rfl,At (λζ=>?_) (λh=>absurd (A5 rfl) h)⟩;refine⟨AR,λp hp=>?_⟩;have O:=A9 (o:=.tup [.ref z.1,.int (DL W.ss z.2).2.2.2]) hp;refine q _ _ (a.trans O) ?_;rw[b,Ss (q:=(DL W.ss z.2).2.2.2) (Ap ⟨X,by rw[C,BF];exact D⟩)];exact⟨p,z.1,rfl,Ab,M.same O⟩;refine j9 ⟨G,_,Y,Z,rfl,At (λh=>absurd (Bd h) (by simp)) (λζ=>?_)⟩;refine⟨_,_,_,_,_,rfl,a,?_⟩;rw[b,MO (Ag λe=>by have:=e.2;rw[C,BF,D] at this;cases this)]
inductive EZ (K:Aj) (vs:S') (H:Hp) (Q:VK):Prop where
 |mk (nt A t l:Addr) (G:Addr->Prop) (W:Wd) (w:List Au) (h0:vs=[.ref nt,.ref A,.ref l]) (h1:Bm K H nt A t W) (h2:Cc W) (h3:Cs G H l w) (h4:DY W.ss w) (h5:Je W w=none) (h6:Q (DW (B1 W w)) H):EZ K vs H Q
def gD (K:Aj):Sp:=λvs H Q ζ=>EZ K vs H Q
abbrev Tg(P w K mg base):=BG P w K mg base "meaning" 2 ["net", "answers", "way"] (gD K)
def gE(ai:BH mg)(aa:Oy P w K mg base)(F:Bt K "meaning" "meaning" QU f fd)(C:mg "meaning" = some (.ref f)):Tg P w K mg base:=by
 refine BZ F C L4 (λD H Q E h=>?_) (λaj A ak s H D Q E hr h=>?_);obtain⟨g,A,t,l,G,W,w,rfl,_⟩:=h;rfl;obtain⟨g,A,t,l,G,W,w,rfl,j,I,o,r,d,q⟩:=h;obtain⟨S,T,R,us,J,L,ts,qt,qs,M,N⟩:=j.net;have O:=Px I r;obtain⟨vv,m,u,U,X⟩:=r;have Y:Ki W.ss m=DL W.ss w:=(by rw[u,NW]);rw[u] at o;obtain⟨ms,mk,Z,l2,l3⟩:=Vl o
 refine⟨_,(Al (Cf (AV aa (Aa (pv 0) (Aa (AB AC (pv 2) (Ms Mu Ah)) Ac))) (BO (n:=4) rfl (Az (Ar (i:=3) L4.nd) (Az (Ar (i:=4) L4.nd) (Az (Ar (i:=5) L4.nd) (Az (Ar (i:=6) L4.nd) BN))))))
  (Al (A8 (Bx B0 (pv 5) AH (Bs _)) (Ax (AJ (pv 6))) A7)
  (Al (Cf (AB AC (pv 1) (pv 6)) (BO (n:=2) rfl (Az (Ar (i:=5) L4.nd) (Az (Ar (i:=6) L4.nd) BN))))
  (Al (A8 (Bx B0 (pv 5) AH (Bs _)) (Ax (AJ (pv 6))) A7)
  (Ax (AJ Ci)))))),?_⟩
 rfl';refine j9 ⟨_,.ref mk,Ai.of Z,l2,g,S,T,R,mk,us,J,L,W.ss,m,rfl,Aq.of M,N.sc,Aq.of l3,U,X,λtp z=>?_⟩;rw[Y] at z;refine⟨_,Aq.of z,rfl,?_⟩;refine⟨rfl,rfl,At (λh=>?_) (λh=>?_)⟩;have ht:(DL W.ss w).2.2.1=f':=V.str.inj (Bd h);rw[show B1 W w=some (DL W.ss w).2.2.2 from Ap ht] at q;exact q;have x:(DL W.ss w).2.2.1≠f':=λe=>h (A5 (by rw[e]));rcases O with⟨e,_⟩|⟨ab,k0,k1⟩;exact absurd e x;obtain⟨k,a⟩:=DJ k0;have ae:k<W.as.length:=(by lia);obtain⟨B,v,af,hv,hc⟩:=j.ans.get ae;have ag:BW B (DL W.ss w).2.2.2=some v:=by rw[a];exact BJ hv
 rcases hc with⟨b,rfl⟩|⟨p,ta,b,rfl,ah⟩;unfold Je at d;rw[Ap ⟨ab,by rw[a,BF];exact b⟩] at d;cases d;have y:B1 W w=if p.1=f' then some p.2 else none:=(by unfold B1;rw[Ag x,a,BF,b]);refine j9 ⟨B,_,af,ag,?_⟩;refine⟨_,ah,rfl,?_⟩;refine⟨rfl,rfl,At (λh=>?_) (λh=>?_)⟩;have c:p.1=f':=V.str.inj (Bd h);rw[y,Ap c] at q;exact q;have c:p.1≠f':=λe=>h (A5 (by rw[e]));rw[y,Ag c] at q;exact q
inductive Kw (K:Aj) (vs:S') (H:Hp) (Q:VK):Prop where
 |mk (nt A t O r D D2 P:Addr) (F G:Addr->Prop) (W:Wd) (inn:Int) (ord:A') (ws ys:List (Addr×List Au)) (os:List (Addr×Ow)) (at_:Int) (h0:vs=[.ref nt,.ref A,.ref t,.ref O,.ref r,.int at_]) (h1:Bm K H nt A t W) (h2:F1 K F H t W.sts inn ord) (h3:Cc W) (h4:ord.length<=40) (h5:(∀x,(x,x)∉ord)) (h6:H r=some (.tup [.ref D,.ref D2,.ref P])) (h7:H D2=some (.lst (ws.map λz=>V.ref z.1))) (h8:(∀z∈ws,Cs G H z.1 z.2)) (h9:(∀z∈ws,MN W.ss z.2)) (h10:ws.length<=100) (h11:(∀z∈ws,DY W.ss z.2)) (h12:H P=some (.lst (ys.map λz=>V.ref z.1))) (h13:(∀z∈ys,Cs G H z.1 z.2)) (h14:ys.map (·.2)=Fd W.ss ord (ws.map (·.2)) (ws.map (·.2))) (h15:H O=some (.lst (os.map λz=>V.ref z.1))) (h16:(∀z∈os,Fq G H z.1 z.2)) (h17:(∀z∈os,MN W.ss z.2.1)) (h18:∀(v:Addr)(a:C')(w:Option Wt)(H':Hp),Ad H H'->Bp W ord (ws.map (·.2)) (os.map (·.2)) at_=(a,w)->AL G H' (.ref v) (.tup [Bb a,Hx w])->Q (.ref v) H'):Kw K vs H Q
def Me (K:Aj):Sp:=λvs H Q ζ=>Kw K vs H Q
abbrev HM(P w K mg base):=BG P w K mg base "met" 4 ["net", "answers", "table", "owed", "look", "at"] (Me K)
def gF(ah:BH mg)(a3:Td P w K mg base)(a4:Tf P w K mg base)(a5:Tg P w K mg base)(F:Bt K "met" "met" Mp f fd)(hm:mg "met" = some (.ref f)):HM P w K mg base:=by
 refine BZ F hm Jw (λj H av aw h=>?_) (λaM A aO s H j av aw hr h=>?_);obtain⟨R,A,t,ae,ai,aj,D2,P,F,G,W,an,ord,a,m,S,at_,rfl,_⟩:=h;rfl
 . obtain⟨R,A,t,ae,ai,aj,D2,P,F,G,W,an,ord,a,m,S,at_,rfl,hC,TB,sm,a1,a6,er,a7,hw,a8,lw,a9,eP,hy,N,eO,ho,aA,q⟩:=h
   obtain⟨ax,ay,az,us,Gs,Es,ts,qt,qs,eN,N3⟩:=hC.net
   have ao:∀z∈m,DY W.ss z.2:=λz h=>by
    have d:z.2∈m.map (·.2):=AN.mpr ⟨z,h,rfl⟩;rw[N] at d;obtain⟨y,p,h3⟩:=AN.mp (Vk d);rw[<-h3];exact a9 y p
   have ly:m.length<=100:=(by have d:=By List.length N;have p:=Yz (ss:=W.ss) (ord:=ord) (all:=a.map (·.2)) (l:=a.map (·.2));rw[An] at d p;lia)
   refine⟨_,(Al (Cf (pv 4) (BO (n:=3) rfl (Az (Ar (i:=6) Jw.nd) (Az (Ar (i:=7) Jw.nd) (Az (Ar (i:=8) Jw.nd) BN)))))
    (Al (AU (i:=9) Jw.nd (AV a3 (Aa (pv 0) (Aa (pv 2) (Aa (pv 7) (Aa (pv 3) Ac))))))
    (Al (A8 (GJ (GW (pv 9))) (Ax (AU (i:=9) Jw.nd (AV a4 (Aa (pv 0) (Aa (pv 1) (Aa (pv 8) Ac)))))) A7)
    (Al (A8 (GJ (Ra (pv 9))) (Al (Cf (pv 9) (BO (n:=2) rfl (Az (Ar (i:=10) Jw.nd) (Az (Ar (i:=11) Jw.nd) BN))))
     (Ax (AJ (AD (Aa Ci (Aa (AD (Aa (pv 5) (Aa (pv 10) (Aa (pv 11) Ac)))) Ac)))))) A7)
    (Al (AU (i:=12) Jw.nd (Hc rfl Ge (Dy (pv 8)) (λζ ζ ζ ζ ζ=>(Ar (i:=0) Ge.nd)) (λζ ζ ζ ζ ζ=>Gu) (λζ ζ ζ ζ ζ=>(AV a5 (Aa (pv 1) (Aa (pv 2) (Aa (pv 0) Ac)))))))
    (Al (A8 (FZ (CZ (Xi rfl) ah.b_all (Aa (Hc rfl Gf (Dy (pv 12)) (λζ ζ ζ ζ ζ=>(Ar (i:=0) Gf.nd)) (λζ ζ ζ ζ ζ=>Gu) (λζ ζ ζ ζ ζ=>(GX (GW (pv 0))))) Ac))) (Ax (AJ (AD (Aa (AD (Aa AH (Aa (pv 5) Ac))) (Aa Ci Ac))))) A7)
    (Al (A8 (FZ (CZ (Yo rfl) ah.b_any (Aa (Hc (te:=EI TC (Bj 0) (EI (Ie K) (Bj 1) (tC (.int ((0:Nat):Int))))) rfl Gg (Dy (pv 12)) (λζ ζ ζ ζ ζ=>(Ar (i:=0) Gg.nd)) (λζ ζ ζ ζ ζ=>Gu) (λζ ζ ζ ζ ζ=>(K2 Mv (pv 0) (AB AC (pv 1) Ah) (Bs _)))) Ac))) (Ax (AJ (AD (Aa (AD (Aa AH (Aa (pv 5) Ac))) (Aa Ci Ac))))) A7)
    (Ax (AJ (AD (Aa (AD (Aa AH (Aa (AB AC (pv 12) Ah) Ac))) (Aa Ci Ac)))))))))))),?_⟩
   rfl';refine⟨_,Aq.of er,rfl,?_⟩;refine⟨R,ax,ay,az,t,D2,ae,us,Gs,Es,W.ss,F,G,W.sts,an,ord,a,S,rfl,eN,N3.sc,TB,a1,a6,a7,hw,a8,lw,eO,ho,aA,λa2 aK T aa=>?_⟩;refine Bz ?_;cbv;refine NE (λσ' E=>∃v,σ'=[some (.ref R),some (.ref A),some (.ref t),some (.ref ae),some (.ref ai),some (.int at_),some (.ref aj),some (.ref D2),some (.ref P),some v,none,none,none]/\Ad H E/\Sr G E v (Ii W ord (a.map (·.2)) (S.map (·.2)))) ?_ (λaL hN=>?_);rotate_left
   cases e:GA W.ss ord (a.map (·.2)) (S.map (·.2)) with
   |none=>rw[e] at aa;obtain rfl:a2=.non:=aa;refine⟨rfl,At (λζ=>?_) (λh=>absurd (A5 rfl) h)⟩;refine⟨R,A,t,P,G,W,m,rfl,hC.same T,sm,T _ _ eP,λz h=>(hy z h).same T,ao,λv2 ak r aq=>?_⟩;refine hN _ _ ⟨v2,rfl,T.trans r,?_⟩;unfold Ii;rw[e];rw[N] at aq;exact aq
   |some o=>rw[e] at aa;obtain⟨al,l,rfl,d,p⟩:=aa;refine⟨rfl,At (λh=>absurd (Bd h) (by simp)) (λζ=>?_)⟩;refine hN _ _ ⟨_,rfl,T,?_⟩;unfold Ii;rw[e];exact⟨al,l,rfl,d,p⟩
   rintro σ' ak ⟨v,rfl,r,g⟩
   cases e:Ii W ord (a.map (·.2)) (S.map (·.2)) with
   |some o=>rw[e] at g;obtain⟨al,l,rfl,d,p⟩:=g;refine⟨rfl,At (λζ=>?_) (λh=>absurd rfl h)⟩;refine⟨_,Aq.of d,rfl,?_⟩;refine⟨Fo,λJ C=>?_⟩;obtain⟨H3,aB,u,e3⟩:=new_at (o:=.tup [.int at_,.ref l,.int o.2]) C;rw[<-aB];refine⟨AR,λx D=>?_⟩;have c:=A9 (o:=.tup [.non,.ref J]) D;exact q x _ _ _ ((r.trans u).trans c) (YI e) (.tup Ab (.cons .non (.cons (.tup (c _ _ e3) (.cons (.int _) (.cons ((p.same u).same c).own (.cons (.int _) .nil)))) .nil)))
   |none=>
    rw[e] at g;obtain rfl:v=.non:=g;refine⟨rfl,At (λh=>absurd h (by decide)) (λζ=>?_)⟩;have aC:=Vm (YJ e)
    refine⟨⟨_,Ai.of (r _ _ eP)⟩,MG (xs:=m.map λz=>V.ref z.1) (λM i j E=>Ad ak E/\E M=some (.lst j)/\j=((m.map (·.2)).take i).map λw=>DW (B1 W w))
     (λM hM=>⟨A9 hM,Ab,by rw[D6];rfl⟩) (λM i j E aD=>by obtain⟨s,_⟩:=aD;exact Ai.of (s _ _ (r _ _ eP))) (λM i y j H3 RR hM aE g k=>?_) (λM j H3 hM g=>?_)⟩
    obtain⟨u,I,rfl⟩:=g;obtain⟨z,ar,rfl⟩:=getm aE;have mz:=Bq ar;have O:=r.trans u;have mo:z.2∈Fd W.ss ord (a.map (·.2)) (a.map (·.2)):=by rw[<-N];exact AN.mpr ⟨z,mz,rfl⟩
    refine⟨R,A,t,z.1,G,W,z.2,rfl,hC.same O,sm,(hy z mz).same O,ao z mz,aC _ mo,?_⟩;refine k _ _ I ?_ ⟨λb o e=>?_,Ab,?_⟩;rw[An,Dx,An];exact BX (by lia);rw[AI (Be e hM)];exact u _ _ e;rw[En,Bf,ar,Bh];rfl;obtain⟨u,I,rfl⟩:=g;rw[An,<-An (f:=(·.2)),Dw,N] at I;generalize af:Fd W.ss ord (a.map (·.2)) (a.map (·.2))=seen at *;have ls:seen.length<=100:=by rw[<-N,An];exact ly
    have O:=r.trans u;refine Bz ?_;cbv;refine⟨⟨_,Ai.of I⟩,Ul (xs:=seen.map λw=>DW (B1 W w)) (λv=>V.bl (decide (v=V.non))) (by rw[An];exact CT (BX (by lia))) (Ai.of I) (λa0 y H4 D4 R4 aN c aF k4=>(k4 _ (Ad.refl _))) (λH4 D4 c aF e4=>?_)⟩;refine⟨D4,(seen.map λw=>DW (B1 W w)).map λv=>decide (v=V.non),rfl,Ai.of (by rw[e4,D1 (f:=λv=>decide (v=V.non))];rfl),rfl,At (λh=>?_) (λh=>?_)⟩;refine⟨AR,λJ C=>?_⟩;obtain⟨H5,aG,B,e5⟩:=new_at (o:=.tup [.str "none",.int at_]) C;rw[<-aG];refine⟨AR,λx D=>?_⟩;have L:=A9 (o:=.tup [.ref J,.non]) D;refine q x (some ("none",at_)) none _ (((O.trans c).trans B).trans L) ?_ (.tup Ab (.cons (.tup (L _ _ e5) (.cons (.str _) (.cons (.int _) .nil))) (.cons .non .nil)));rw[So e,af,Pw (FF.mp h)];have U:¬∀w∈seen,B1 W w=none:=λz=>h (FF.mpr z);cases Q:seen with|nil=>rw[Q] at U;exact absurd (λw hw=>by cases hw) U|cons X r0=>have ab:=c _ _ I;have h0:BW (seen.map λw=>DW (B1 W w)) ((0:Nat):Int)=some (DW (B1 W X)):=BJ (by rw[Q];rfl);refine⟨⟨_,Ai.of ab⟩,Ul (xs:=seen.map λw=>DW (B1 W w)) (λv=>V.bl (!decide (v=DW (B1 W X)))) (by rw[An];exact CT (BX (by lia))) (Ai.of ab) (λa0 y H5 D5 R5 aH B aI k5=>?_) (λH5 D5 B aI e5=>?_)⟩;obtain⟨w,_,rfl⟩:=getm aH;exact j9 ⟨_,_,Ai.of (B _ _ ab),h0,YK _ _,k5 _ (Ad.refl _)⟩;refine⟨D5,(seen.map λw=>DW (B1 W w)).map λv=>!decide (v=DW (B1 W X)),rfl,Ai.of (by rw[e5,D1 (f:=λv=>!decide (v=DW (B1 W X)))];rfl),rfl,At (λh5=>?_) (λh5=>?_)⟩;refine⟨AR,λJ C=>?_⟩;obtain⟨H6,ag,L,e6⟩:=new_at (o:=.tup [.str "torn",.int at_]) C;rw[<-ag];refine⟨AR,λx D=>?_⟩;have Y:=A9 (o:=.tup [.ref J,.non]) D;refine q x (some ("torn",at_)) none _ ((((O.trans c).trans B).trans L).trans Y) ?_ (.tup Ab (.cons (.tup (Y _ _ e6) (.cons (.str _) (.cons (.int _) .nil))) (.cons .non .nil)));have Z:=Hy.mp h5;rw[Q] at U Z;rw[So e,af,Q,Vh U Z];have Z:∀v∈seen,B1 W v=B1 W X:=m8 λz=>h5 (Hy.mpr z);have au:=U;rw[Q] at au Z;obtain⟨n,en,ea⟩:=Sq (at_:=at_) au Z;have aJ:=B _ _ ab;rw[en] at h0;refine j9 ⟨_,.int n,Ai.of aJ,h0,AR,λJ C=>?_⟩;obtain⟨H6,ag,L,e6⟩:=new_at (o:=.tup [.str "thing",.int n]) C;rw[<-ag];refine⟨AR,λx D=>?_⟩;have Y:=A9 (o:=.tup [.ref J,.non]) D;refine q x (some ("thing",n)) none _ ((((O.trans c).trans B).trans L).trans Y) ?_ (.tup Ab (.cons (.tup (Y _ _ e6) (.cons (.str _) (.cons (.int _) .nil))) (.cons .non .nil)));rw[So e,af,Q,ea]
inductive CQ (K:Aj) (vs:S') (H:Hp) (Q:VK):Prop where
 |mk (nt A t D:Addr) (F:Addr->Prop) (W:Wd) (zs:List (Addr×AO)) (h0:vs=[.ref nt,.ref A,.ref t,.ref D]) (h1:Bm K H nt A t W) (h2:Cj W) (h3:H D=some (.lst (zs.map λz=>V.ref z.1))) (h4:(∀z∈zs,Dr F H z.1 z.2)) (h5:(∀z∈zs,C5 W z.2)) (h6:zs.length<=62) (h7:(Gz W (zs.map (·.2))).length<=62) (h8:∀(D2:Addr)(ws:List (Addr×Ow))(H':Hp),H D2=none->Ad H H'->H' D2=some (.lst (ws.map λz=>V.ref z.1))->(∀z∈ws,Fq (λl=>H l=none/\l≠D2) H' z.1 z.2)->NO W (zs.map (·.2)) (ws.map (·.2))->Q (.ref D2) H'):CQ K vs H Q
def gG (K:Aj):Sp:=λvs H Q ζ=>CQ K vs H Q
abbrev Th(P w K mg base):=BG P w K mg base "owed_behind" 5 ["net", "answers", "table", "begun"] (gG K)
def gH(a1:BH mg)(a8:Qc P w K mg base)(F:Bt K "owed_behind" "owed_behind" QV f fd)(C:mg "owed_behind" = some (.ref f)):Th P w K mg base:=by
 refine BZ F C Jx (λa H a2 a3 h=>?_) (λaM A aV s H a a2 a3 hr h=>?_);obtain⟨Y,A,t,af,F,W,D,rfl,_⟩:=h;rfl
 . obtain⟨Y,A,t,af,F,W,D,rfl,hC,ok,eD,hz,a9,aN,aO,a4⟩:=h
   refine⟨_,(Al (AU (i:=4) Jx.nd (A1 Ac))
    (Al (Dq C0 rfl (Dy (pv 3)) (BO (n:=3) rfl (Az (Ar (i:=5) Jx.nd) (Az (Ar (i:=6) Jx.nd) (Az (Ar (i:=7) Jx.nd) BN)))) (Ax (Dq C0 rfl (Dy (AV a8 (Aa (pv 0) (Aa (pv 1) (Aa (pv 2) (Aa (pv 6) (Aa (pv 7) Ac))))))) (BO (n:=4) rfl (Az (Ar (i:=8) Jx.nd) (Az (Ar (i:=9) Jx.nd) (Az (Ar (i:=10) Jx.nd) (Az (Ar (i:=11) Jx.nd) BN))))) (Ax (A8 (Bx B0 (pv 9) AH (Bs _)) (Ax (E8 (EJ E6 Gi Gj Gv (pv 4) (Aa (AD (Aa (AG My (pv 5) (A1 (Aa (pv 8) Ac))) (Aa (pv 10) Ac))) Ac)))) A7)))))
    (Ax (AJ (CZ (XR Ke FA hr.units (by decide) (by decide)) a1.b_sorted (Aa (pv 4) Ac)))))),?_⟩
   rfl';refine⟨by decide,λP Z=>?_⟩;obtain⟨aq,aA,s1,aw⟩:=new_at (o:=.lst []) Z;rw[<-aA];have ag:∀{p:Hp},Keeps (·=P) aq p->Ad H p:=λk x o e=>k.at_ _ _ (s1 _ _ e) (Be e Z)
   refine⟨⟨_,Ai.of (s1 _ _ eD)⟩,Fz (xs:=D.map λz=>V.ref z.1) (λi σ p=>∃u5 u6 u7 I J M N u,σ=[some (.ref Y),some (.ref A),some (.ref t),some (.ref af),some (.ref P),u5,u6,u7,I,J,M,N]/\Keeps (·=P) aq p/\p P=some (.lst (u.map λz:Addr×Ow=>V.ref z.1))/\(∀z∈u,Fq (λl=>H l=none/\l≠P) p z.1 z.2)/\u.map (·.2)=Gz W ((D.map (·.2)).take i))
    ⟨none,none,none,none,none,none,none,[],rfl,Keeps.refl λx o m e=>by rw[m,aw] at e;exact⟨_,(BU e).symm⟩,aw,λz hz=>by simp at hz,by rw[D6];rfl⟩ (λi σ p ζ ah=>by obtain⟨_,_,_,_,_,_,_,_,_,k,_⟩:=ah;exact Ai.of (ag k _ _ eD)) ?_ ?_⟩
   rotate_left;refine λσ ar O=>AZ λNz d=>?_;obtain⟨u5,u6,u7,I,J,M,N,u,rfl,S,U,hw,C⟩:=O;refine d ?_;clear d;rw[An,<-An (f:=(·.2)),Dw] at C;have lw:u.length<=62:=by have:=By List.length C;rw[An] at this;lia
   refine⟨P,u.map λz=>(V.ref z.1,z.2),rfl,?_,by rw[An];lia,λy r=>?_,λD2 aB hp hs ai=>?_⟩;rw[D1];exact Ai.of U;obtain⟨z,aj,rfl⟩:=AN.mp r;exact(hw z aj).dt;obtain⟨a,r1,r2,r3,r4⟩:=UW (c:=Pf) hp;have q:=A9 (o:=.lst (aB.map (·.1))) ai;rw[r1] at q ⊢;rw[r2] at hs;have G:=ag S;refine a4 D2 a _ (G.free ai) (G.trans q) Ab (λz aj=>?_) ⟨by rw[<-C];exact r3,hs⟩;refine((hw z (r4 z aj)).mono' ?_).same q;intro x o ex hx;exact⟨hx.1,λy=>by rw[y,ai] at ex;cases ex⟩;refine λi y σ ar r O=>AZ λNz d=>?_;obtain⟨u5,u6,u7,I,J,M,N,u,rfl,S,U,hw,C⟩:=O;refine d ?_;clear d;obtain⟨z,ak,rfl⟩:=getm r;have aP:i<D.length:=(Bi.mp ak).1;have mz:=Bq ak;have aa:=a9 z mz;have G:=ag S;refine AZ λNz d=>?_;obtain⟨l,v,a7,av,e3,_⟩:=hz z mz;refine d ?_;clear d;have e1:=G _ _ a7;have aC:=aa.rng z.2.2.1 (by unfold AW;simp);have aD:(D.map (·.2))[i]?=some z.2:=by rw[Bf,ak];rfl
   have aQ:v.length<=100:=(by have:=Lw W.ss.length (AW z.2) aa.nd aa.rng;rw[show(AW z.2).length=z.2.1.length+1 by unfold AW;simp] at this;have:=ok.s5;rw[e3.len];lia);have aE:u.length<=8*i:=(by have E:=By List.length C;rw[An] at E;have h2:=UV (f:=λb=>(Gx W b.2.1 b.2.2).filterMap (ow b)) (k:=8) ((D.map (·.2)).take i) λb=>Ea (List.length_filterMap_le _ _) (Ea (MK W b.2.1 (D8 W b.2.2) (B2 W b.2.1) 0) (Pc ok b.2.1));rw[Dx,An] at h2;unfold Gz at E;have h3:min i D.length=i:=(by lia);rw[h3] at h2;lia);refine⟨_,Aq.of e1,rfl,?_⟩;refine⟨Y,A,t,W,z.2.2.1,z.2.2.2,rfl,hC.same G,ok,aC,aa.st,λa5 Q H3 hG q eG aF ax=>⟨⟨_,Ai.of eG⟩,?_⟩⟩;have aG:a5≠P:=λy=>by rw[y,U] at hG;cases hG
   have aR:Q.length<=8:=(by have e1:=By List.length ax;have e2:=MK W z.2.2.1 (D8 W z.2.2.2) (B2 W z.2.2.1) 0;have e3:=Pc ok z.2.2.1;rw[An] at e1;unfold Gx at e1;lia)
   refine Fz (xs:=Q.map λz=>V.ref z.1) (λj σ p=>∃I J M N a,σ=[some (.ref Y),some (.ref A),some (.ref t),some (.ref af),some (.ref P),some (.ref l),some (.int z.2.2.1),some (.int z.2.2.2),I,J,M,N]/\Keeps (·=P) H3 p/\p P=some (.lst (a.map λz:Addr×Ow=>V.ref z.1))/\(∀z∈a,Fq (λl=>H l=none/\l≠P) p z.1 z.2)/\a.map (·.2)=Gz W ((D.map (·.2)).take i)++((Q.map (·.2)).take j).filterMap (ow z.2)/\a.length<=8*i+j)
    ⟨_,_,_,_,u,rfl,Keeps.refl λx o m e=>by rw[m,q _ _ U] at e;exact⟨_,(BU e).symm⟩,q _ _ U,λz h=>(hw z h).same q,by rw[C,D6];simp,aE⟩ (λj σ p ζ ah=>by obtain⟨_,_,_,_,_,_,k,_⟩:=ah;exact Ai.of (k.at_ _ _ eG aG)) ?_ ?_
   rotate_left;refine λσ H4 O=>AZ λNz d=>?_;obtain⟨I,J,M,N,a,rfl,B,R,ab,ae,_⟩:=O;refine d ?_;clear d;refine⟨_,_,_,_,_,_,_,a,rfl,⟨λx o e n=>B.at_ _ _ (q _ _ (S.at_ x o e n)) n,S.ls⟩,R,ab,?_⟩;rw[X4 aD,ae,An,<-An (f:=(·.2)),Dw,ax];refine λj y σ H4 r O=>AZ λNz d=>?_;obtain⟨I,J,M,N,a,rfl,B,R,ab,ae,aS⟩:=O;refine d ?_;clear d;obtain⟨g,al,rfl⟩:=getm r;have aT:j<Q.length:=(Bi.mp al).1;obtain⟨m,an,ao⟩:=aF g (Bq al);have an:=B.tup an;have ao:=B.tup ao;have ay:((Q.map (·.2)).take (j+1)).filterMap (ow z.2)=((Q.map (·.2)).take j).filterMap (ow z.2)++(ow z.2 g.2).toList:=(by rw[En,Bf,al];exact Lx _ _ _);refine⟨_,Aq.of an,rfl,?_⟩;refine⟨rfl,rfl,At (λE=>?_) (λE=>?_)⟩;rotate_left;refine⟨_,_,_,_,a,rfl,B,R,ab,?_,by lia⟩;rw[ay,IZ (λe=>E (A5 (by rw[e]))),ae];simp;have E:g.2.2.1.1=i7:=V.str.inj (Bd E);have aU:Ad ar H3:=q;have aH:H4 l=some (.lst (v.map V.ref)):=B.at_ _ _ (q _ _ (G _ _ av)) (Be av Z);have aI:RT Gw H4 v z.2.1:=(e3.same (G.trans q)).keeps B;refine⟨j9 ⟨rfl,_,Ai.of R⟩,Fn,λa6 hM=>?_⟩;obtain⟨H5,aJ,s5,eM⟩:=new_at (o:=.lst [.ref m]) hM;rw[<-aJ];refine⟨l,a6,_,_,rfl,rfl,s5 _ _ aH,eM,by rw[An];exact CT (BX (by show v.length+1<=1000;lia)),λL hL=>?_⟩
   have aK:H L=none:=by
    have h4:=s5.free hL;cases e:H L with|none=>rfl|some o=>rw[B.at_ _ _ (q _ _ (G _ _ e)) (Be e Z)] at h4;cases h4
   have az:L≠P:=λy=>by rw[y,s5 _ _ R] at hL;cases hL
   have s6:=A9 (o:=.lst (v.map V.ref++[.ref m])) hL;have eL:(upd H5 L (.lst (v.map V.ref++[.ref m]))) L=some (.lst ((v++[m]).map V.ref)):=by rw[Ab,Bh];rfl
   generalize upd H5 L (.lst (v.map V.ref++[.ref m]))=H6 at s6 eL ⊢;refine⟨AR,λau hr=>?_⟩;obtain⟨H7,aL,s7,er⟩:=new_at (o:=.tup [.ref L,.int g.2.2.1.2]) hr;rw[<-aL];have X:=(s5.trans s6).trans s7;have a0:=X _ _ R;have T:Keeps (·=P) H7 (upd H7 P (.lst (a.map (λz=>V.ref z.1)++[.ref au]))):=Keeps.one a0;refine⟨_,a0,by rw[An];exact BX (by lia),?_⟩;refine⟨_,_,_,_,a++[(au,(z.2.1++[g.2.1],g.2.2.1.2))],rfl,(B.same X).set rfl,by rw[Ab,Bh];rfl,λy r=>?_,?_,by rw[AY,FM];lia⟩;rcases BI.mp r with r|r;exact((ab y r).same X).keeps T λx hx=>hx.2;rw[AX.mp r];refine⟨L,v++[m],T.tup er,T.at_ _ _ (s7 _ _ eL) az,?_,aK,az⟩;exact RT.snoc ((aI.same X).keeps T) (T.tup (X _ _ ao));rw[ay,IY E,Bh,ae,Fv];rfl
def both{A G:Prop}(k:A->G)(a:A):G:=k a
def Oz:([]:S').length+1+1+1+1<=sizeLine:=by decide
inductive E3 (K:Aj) (vs:S') (H:Hp) (Q:VK):Prop where
 |mk (nt A t ask u:Addr) (F:Addr->Prop) (W:Wd) (inn:Int) (ord:A') (q:Qu) (h0:vs=[.ref nt,.ref A,.ref t,.ref ask]) (h1:Bm K H nt A t W) (h2:F1 K F H t W.sts inn ord) (h3:Cj W) (h4:Cc W) (h5:ord.length<=40) (h6:(∀x,(x,x)∉ord)) (h7:(0<=inn/\inn<W.sts.length)) (h8:H ask=some (.tup [.int q.1,.int q.2.1,.ref u])) (h9:H u=some (.tup (q.2.2.map V.str))) (h10:(0<=q.1/\q.1<W.ss.length)) (h11:(0<=q.2.1/\q.2.1<W.sts.length)) (h12:1<=q.2.2.length) (h13:q.2.2.length<=8) (h14:∀(r L T:Addr)(av wv:V)(lv:S')(a:C')(w:Option Wt)(ls:W')(ts:E')(H':Hp),Ad H H'->H' r=some (.tup [av,wv,.ref L,.ref T])->H L=none->H' L=some (.lst lv)->H' T=some (.lst (ts.map V.int))->AL (λx=>H x=none) H' av (Bb a)->AL (λx=>H x=none) H' wv (Hx w)->Am (λx=>H x=none/\x≠L) H' lv (ls.map Jg)->LU W inn ord q.1 q.2.1 q.2.2 0 a w ls ts->Q (.ref r) H'):E3 K vs H Q
def gI (K:Aj):Sp:=λvs H Q ζ=>E3 K vs H Q
abbrev M0(P w K mg base):=BG P w K mg base "look_up" 7 ["net", "answers", "table", "asked"] (gI K)
def gJ(aN:BH mg)(b8:S7 P w K mg base)(b9:Tc P w K mg base)(bA:HM P w K mg base)(bB:Th P w K mg base)(bC:Qb P w K mg base)(F:Bt K "look_up" "look_up" QW f fd)(hm:mg "look_up" = some (.ref f)):M0 P w K mg base:=by
 refine BZ F hm F6 (λvs H aO bx h=>?_) (λcl A cx s H vs aO bx hr h=>?_);obtain⟨Q,A,t,aR,ay,F,W,S,ord,q,rfl,_⟩:=h;rfl
 . obtain⟨Q,A,t,aR,ay,F,W,S,ord,q,rfl,X,TB,ok,sm,aQ,aS,ca,eq,eu,bD,bE,cm,cn,qk⟩:=h
   obtain⟨bz,Tn,b0,us,Gs,Es,cp,qt,qs,eN,N3⟩:=X.net
   refine⟨_,(Al (Cf (pv 3) (BO (n:=3) rfl (Az (Ar (i:=4) F6.nd) (Az (Ar (i:=5) F6.nd) (Az (Ar (i:=6) F6.nd) BN)))))
    (Al (AU (i:=7) F6.nd (A1 Ac))
    (Al (AU (i:=8) F6.nd (A1 Ac))
    (Ax (Dq C0 rfl (Pt TK rfl aN.b_enumerate (Aa (pv 6) Ac)) (BO (n:=2) rfl (Az (Ar (i:=9) F6.nd) (Az (Ar (i:=10) F6.nd) BN))) (Al (AU (i:=11) F6.nd (AV b8 (Aa (pv 0) (Aa (pv 1) (Aa (pv 2) (Aa (pv 4) (Aa (pv 5) Ac)))))))
     (Al (E8 (EJ E6 Gi Gj Gv (pv 7) (Aa (AV b9 (Aa (pv 0) (Aa (pv 2) (Aa (pv 11) (Aa (pv 10) Ac))))) Ac)))
     (Al (Cf (AV bA (Aa (pv 0) (Aa (pv 1) (Aa (pv 2) (Aa (AV bB (Aa (pv 0) (Aa (pv 1) (Aa (pv 2) (Aa (pv 11) Ac))))) (Aa (AB AC (pv 7) (Ms Mu Ah)) (Aa (pv 9) Ac))))))) (BO (n:=2) rfl (Az (Ar (i:=12) F6.nd) (Az (Ar (i:=13) F6.nd) BN))))
     (Al (A8 (PW.pt (OU (GJ (GW (pv 12))) (OU (Bx Mv (AB AC (pv 12) Ah) AH (Bs _)) (Re (Bx B0 (pv 9) (AG Mt (CZ GL aN.b_len (Aa (pv 6) Ac)) Ah) (Bs _)))))) (Ax (AJ (AD (Aa (pv 12) (Aa (pv 13) (Aa (pv 7) (Aa (pv 8) Ac))))))) A7)
     (Al (E8 (EJ E6 Gi Gj Gv (pv 8) (Aa (AB AC (pv 12) Ah) Ac)))
     (Al (Cf (AV bC (Aa (pv 0) (Aa (pv 1) (Aa (AB AC (pv 12) Ah) Ac)))) (BO (n:=2) rfl (Az (Ar (i:=14) F6.nd) (Az (Ar (i:=15) F6.nd) BN))))
     (Al (A8 (Bx B0 (pv 14) AH (Bs _)) (Ax (AJ (AD (Aa Ci (Aa (AD (Aa (pv 9) (Aa (A1 Ac) (Aa (pv 15) Ac)))) (Aa (pv 7) (Aa (pv 8) Ac))))))) A7)
     (Al (A8 (Bx B0 (pv 14) AH (Bs _)) (Ax (AJ (AD (Aa (AD (Aa AH (Aa (AG Ev (pv 9) Ah) Ac))) (Aa Ci (Aa (pv 7) (Aa (pv 8) Ac))))))) A7)
     (Al (AU (i:=4) F6.nd (pv 15))
     (Ax (AU (i:=5) F6.nd (AB AC (pv 2) Ah))))))))))))))))),?_⟩
   rfl';refine⟨_,Aq.of eq,rfl,?_⟩;refine⟨by decide,λL hL=>?_⟩;obtain⟨aP,bF,s1,a0⟩:=new_at (o:=.lst []) hL;rw[<-bF];refine Bz ?_;cbv;refine⟨by decide,λT hT=>?_⟩;have s2:=A9 (o:=.lst []) hT;have aT:(upd aP T (.lst [])) T=some (.lst []):=Ab;have aU:=s2 _ _ a0;generalize upd aP T (.lst [])=Z at s2 aT aU ⊢;have aV:L≠T:=λz=>by rw[z,hT] at a0;cases a0
   have bG:H T=none:=s1.free hT;refine Bz ?_;cbv
   refine⟨ay,rfl,⟨_,Aq.of ((s1.trans s2) _ _ eu)⟩,Pu TK (xs:=q.2.2.map V.str) (λi σ Y=>∃(sc st:Int)(u9 aW aX aY aZ ba bb:U')(lv:S')(ls:W')(j:E'),σ=[some (.ref Q),some (.ref A),some (.ref t),some (.ref aR),some (.int sc),some (.int st),some (.ref ay),some (.ref L),some (.ref T),u9,aW,aX,aY,aZ,ba,bb]/\Ad H Y/\Y L=some (.lst lv)/\Y T=some (.lst (j.map V.int))/\Am (λx=>H x=none/\x≠L/\x≠T) Y lv (ls.map Jg)/\lv.length=i/\j.length=i/\i<q.2.2.length/\(0<=sc/\sc<W.ss.length)/\(0<=st/\st<W.sts.length)/\∀a w ai aj,LU W S ord sc st (q.2.2.drop i) i a w ai aj->LU W S ord q.1 q.2.1 q.2.2 0 a w (ls++ai) (j++aj))
    ⟨_,_,none,none,none,none,none,none,none,[],[],[],rfl,s1.trans s2,aU,aT,.nil,rfl,rfl,by lia,bD,bE,λa w ai aj z=>z⟩ (λi σ Y bH=>by obtain⟨_,_,_,_,_,_,_,_,_,_,_,_,_,s,_⟩:=bH;exact Aq.of (s _ _ eu)) ?_ ?_⟩
   rotate_left;refine λσ Y a1=>AZ λNz J=>?_;obtain⟨_,_,_,_,_,_,_,_,_,_,_,_,_,_,_,_,_,_,_,hi,_⟩:=a1;refine J ?_;clear J;rw[An] at hi;exact absurd hi (GU _);refine λi xv Te σ H3 hx bI a1=>AZ λNz J=>?_;obtain⟨sc,st,u9,aW,aX,aY,aZ,ba,bb,lv,ls,j,rfl,s3,bJ,bK,bL,bM,bN,hi,M,N,aw⟩:=a1;refine J ?_;clear J;refine Kj ?_;intro Nx Cy;obtain⟨x,bO,rfl⟩:=getm hx;have ae:=Jh bO;obtain⟨H4,bP,s4,bQ⟩:=new_at (o:=.tup [.int i,.str x]) bI;rw[<-bP];have ak:=s3.trans s4;have al:=s4 _ _ bJ;have a2:=s4 _ _ bK;refine⟨_,Aq.of bQ,rfl,?_⟩;refine⟨Q,A,t,W,sc,st,rfl,X.same ak,ok,M,N,λah e H5 hD s5 eD hz v=>?_⟩;refine Bz ?_;cbv;have U:=ak.trans s5;have O:=s5 _ _ al;have af:=s5 _ _ a2;have EH:∀{Hn:Hp}{x:Addr},Ad H Hn->Hn L=some (.lst lv)->Hn T=some (.lst (j.map V.int))->Hn x=none->H x=none/\x≠L/\x≠T:=λ{Hn x}s R e2 h=>⟨s.free h,λz=>(by rw[z,R] at h;cases h),λz=>(by rw[z,e2] at h;cases h)⟩;refine⟨j9 ⟨rfl,_,Ai.of O⟩,Q,A,t,ah,x,F,_,W,S,ord,sc,st,e,rfl,X.same U,TB.same U,ok,sm,aQ,aS,M,N,eD,hz,v,λr D2 P d l H6 s6 er a3 bc hw hF hP eP c bd=>?_⟩;have bR:=U.trans s6;have be:=s6 _ _ O;have bS:=s6 _ _ af;have u:Keeps (·=L) H6 (upd H6 L (.lst (lv++[.ref r]))):=Keeps.one be;have an:Ad H (upd H6 L (.lst (lv++[.ref r]))):=λb o ab=>by rw[AI (Be ab hL)];exact bR _ _ ab
   have a4:(upd H6 L (.lst (lv++[.ref r]))) L=some (.lst (lv++[.ref r])):=Ab;refine⟨_,be,BX (by lia),?_⟩;generalize upd H6 L (.lst (lv++[.ref r]))=G at u an a4 ⊢;have nD:ah≠L:=λz=>by rw[z,al] at hD;cases hD
   have bT:D2≠L:=λz=>by rw[z,O] at a3;cases a3
   have nP:P≠L:=λz=>by rw[z,O] at hP;cases hP
   have bf:=u.at_ _ _ bS (Ne.symm aV);have a5:=u.tup er;have a6:=u.at_ _ _ (s6 _ _ eD) nD;have aI:=u.at_ _ _ bc bT;have a7:=u.at_ _ _ eP nP;have a8:∀z∈e,Dr (λx=>H x=none/\x≠L/\x≠T) G z.1 z.2:=λz h=>(((hz z h).mono' λy o ζ c=>EH ak al a2 c.1).same s6).keeps u λy c=>c.2.1;have a9:∀z∈d,Cs (λx=>H x=none/\x≠L/\x≠T) G z.1 z.2:=λz h=>((hw z h).mono' λy o ζ c=>EH U O af c).keeps u λy c=>c.2.1;have aA:∀z∈l,Cs (λx=>H x=none/\x≠L/\x≠T) G z.1 z.2:=λz h=>((c z h).mono' λy o ζ c=>EH U O af c).keeps u λy c=>c.2.1;have bs:Am (λx=>H x=none/\x≠L/\x≠T) G lv (ls.map Jg):=(((bL.same s4).same s5).same s6).keeps u λy c=>c.2.1;have cq:=v;have bg:=v.few;rw[An] at bg;refine⟨Q,A,t,ah,_,W,e,rfl,X.same an,ok,a6,a8,λz bU=>((v.mem _).mp (AN.mpr ⟨z,bU,rfl⟩)).ok ok M N,bg,sm.owd sc st _ M N v,λb1 az H8 hO B eO ho bh=>?_⟩;have aB:=an.trans B;have bi:=B _ _ a4;have bV:=B _ _ bf;have bj:∀z∈d,z.2∈DF W x (e.map (·.2)):=λz h=>hF.perm.mem_iff.mp (AN.mpr ⟨z,h,rfl⟩);have lw:d.length<=100:=(by have h1:=hF.perm.length_eq;have h2:=sm.fnd x sc st _ M N v;rw[An] at h1;lia);have bk:∀z∈d,DY W.ss z.2:=λz h=>Vj ok M N v (bj z h);have cb:∀{x:Addr},G x=none->H x=none/\x≠L/\x≠T:=λ{x}h=>⟨an.free h,λz=>(by rw[z,a4] at h;cases h),λz=>(by rw[z,bf] at h;cases h)⟩;refine j9 ⟨_,.ref r,Ai.of bi,Pe _ _,Q,A,t,b1,r,ah,D2,P,F,(λx=>H x=none/\x≠L/\x≠T),W,S,ord,d,l,az,(i:Int),rfl,X.same aB,TB.same aB,sm,aQ,aS,B _ _ a5,B _ _ aI,λz h=>(a9 z h).same B,λz h=>Sa ok M N v (bj z h),lw,bk,B _ _ a7,λz h=>(aA z h).same B,bd,eO,λz h=>(ho z h).mono' λy o ζ c=>cb c.1,λz h=>X6 ok M N v (bh.perm.mem_iff.mp (AN.mpr ⟨z,h,rfl⟩)),λm a w C s9 bt hm=>?_⟩;have aC:=aB.trans s9;have bl:=s9 _ _ bi;have ao:=s9 _ _ bV;obtain⟨av,wv,b2,ha,bW⟩:=hm.two;have LK:C7 W ord sc st x (e.map (·.2),d.map (·.2),l.map (·.2)) (az.map (·.2)):=⟨v,hF,bd,bh⟩
   have bm:AL (λx=>H x=none/\x≠L/\x≠T) C (.ref r) (Jg (e.map (·.2),d.map (·.2),l.map (·.2))):=by
    have b3:=EH ak al a2 hD;have b4:=EH U O af a3;have b5:=EH U O af hP;have b6:Am (λx=>H x=none/\x≠L/\x≠T) G (e.map λz=>V.ref z.1) ((e.map (·.2)).map DD.D):=(by rw[D1];exact Am.of_all λz h=>(a8 z h).own);have b7:Am (λx=>H x=none/\x≠L/\x≠T) G (d.map λz=>V.ref z.1) ((d.map (·.2)).map Bn.D):=(by rw[D1];exact Am.of_all λz h=>(a9 z h).own);have f3:Am (λx=>H x=none/\x≠L/\x≠T) G (l.map λz=>V.ref z.1) ((l.map (·.2)).map Bn.D):=(by rw[D1];exact Am.of_all λz h=>(aA z h).own);exact((AL.tup a5 (.cons (.lst a6 b3 b6) (.cons (.lst aI b4 b7) (.cons (.lst a7 b5 f3) .nil)))).same B).same s9
   have bu:Am (λx=>H x=none/\x≠L/\x≠T) C (lv++[.ref r]) ((ls++[(e.map (·.2),d.map (·.2),l.map (·.2))]).map Jg):=(by rw[Bh];exact((bs.same B).same s9).snoc bm);clear a9 aA a8 bs bm hw c hz ho eD bc eP er a6 aI a7 a5 u;refine⟨_,Aq.of b2,rfl,?_⟩
   have aq:((∀k,a≠some (f',k))\/q.2.2.drop (i+1)=[])->∀I,C I=none->aO (.ref I) (upd C I (.tup [av,wv,.ref L,.ref T])):=λcg I bX=>by
    have g:=A9 (o:=.tup [av,wv,.ref L,.ref T]) bX;refine qk I L T av wv (lv++[.ref r]) a w _ j _ (aC.trans g) Ab hL (g _ _ bl) (g _ _ ao) ((ha.mono λζ ζ ζ h=>h.1).same g) ((bW.mono λζ ζ ζ h=>h.1).same g) ((bu.mono λζ ζ ζ h=>⟨h.1,h.2.1⟩).same g) ?_;have:=aw a w [(e.map (·.2),d.map (·.2),l.map (·.2))] [] (by rw[ae];exact .stop LK bt cg);rw[DR] at this;exact this
   cases a with
   |none=>obtain rfl:=ha.ansN;exact⟨rfl,At (λζ=>Cw ⟨Oz,aq (.inl λk z=>(by cases z))⟩) (λh=>absurd (A5 rfl) h)⟩
   |some p=>
    obtain⟨pa,rfl,aD⟩:=ha.ansS;refine⟨rfl,At (λh=>absurd (Bd h) (by simp)) (λζ=>?_)⟩;refine j' (j9 ⟨_,.str p.1,Aq.of aD,rfl,rfl,rfl,At (λh=>?_) (λh=>?_)⟩);refine Cw ⟨Oz,aq (.inl λk z=>?_)⟩;have:p.1=f':=By Prod.fst (BU z);rw[this] at h;simp at h
    have hp:p.1=f':=m8 λz=>h (by
     have:decide (V.str p.1=V.str "thing")=false:=DS λy=>z (V.str.inj y);rw[this];rfl)
    have ax:Bp W ord (d.map (·.2)) (az.map (·.2)) i=(some (f',p.2),w):=(by rw[bt,<-hp]);refine⟨_,j' ⟨_,Aq.of (aC _ _ eu),rfl⟩,rfl,rfl,At (λh2=>?_) (λh2=>?_)⟩;have e2:(i:Int)=((q.2.2.map V.str).length:Nat)-1:=V.int.inj (Bd h2);rw[An] at e2;exact⟨Oz,aq (.inr (List.drop_eq_nil_of_le (by lia)))⟩;have bn:i+1<q.2.2.length:=(by refine m8 λz=>h2 (A5 ?_);rw[An];congr 1;lia);clear aq;have rng:=Py ok sm (λck hv=>by obtain⟨z,h1,rfl⟩:=AN.mp hv;exact bk z h1) ax;obtain⟨n,hn⟩:=DJ rng.1;have bo:n<W.gs.length:=(by lia);have hg:=AM bo;have ar:Keeps (·=T) C (upd C T (.lst (j.map V.int++[.int p.2]))):=Keeps.one ao;have g:Ad H (upd C T (.lst (j.map V.int++[.int p.2]))):=λb o ab=>by rw[AI (Be ab bG)];exact aC _ _ ab
    have bv:(upd C T (.lst (j.map V.int++[.int p.2]))) T=some (.lst ((j++[p.2]).map V.int)):=by rw[Ab,Bh];rfl
    refine⟨j9 ⟨rfl,_,Ai.of ao⟩,j' (j9 ⟨_,.int p.2,Aq.of aD,rfl,_,ao,by rw[An];exact BX (by lia),?_⟩)⟩;generalize upd C T (.lst (j.map V.int++[.int p.2]))=cs at ar g bv ⊢;have cc:=ar.at_ _ _ bl aV;have ch:=ar.tup aD;have cj:=bu.keeps ar λy c=>c.2.2;have cd:=X.same g;refine j' (j9 ⟨_,.int p.2,Aq.of ch,rfl,Q,bz,Tn,b0,A,W.gs,W.as,p.2,n,W.gs[n],rfl,hn,hg,Aq.of (g _ _ eN),⟨_,Ai.of (g _ _ N3.et),(N3.tg.same g).dts⟩,cd.ans,ok.net,λb ct hb au eb=>?_⟩);have ag:=g.trans au;have aJ:=au _ _ cc;have aK:=au _ _ bv;have aM:=cj.same au
    have ei:B8 W p.2=Fp W.gs W.as W.gs[n]:=by
     show(match W.gs[p.2.toNat]? with|some p=>Fp W.gs W.as p|none=>("no",0))=_
     rw[hn,BF,hg]
    obtain⟨y2,I,bw⟩:∃y2 I,q.2.2.drop (i+1)=y2::I:=⟨_,_,Ml bn⟩;rw[bw] at ae;refine⟨_,Aq.of eb,rfl,?_⟩;generalize bp:Fp W.gs W.as W.gs[n]=D at *;refine⟨rfl,rfl,At (λh3=>?_) (λh3=>?_)⟩;have e3:D.1=i7:=V.str.inj (Bd h3);refine⟨by decide,λe0 bq=>?_⟩;obtain⟨bY,aL,aE,bZ⟩:=new_at (o:=.lst []) bq;rw[<-aL];refine⟨Fo,λR aF=>?_⟩;obtain⟨cu,cf,br,aG⟩:=new_at (o:=.tup [.int i,.ref e0,.int D.2]) aF;rw[<-cf];refine⟨Oz,λr3 aH=>?_⟩;have aa:=A9 (o:=.tup [.non,.ref R,.ref L,.ref T]) aH;have E:=(aE.trans br).trans aa;refine qk r3 L T .non (.ref R) (lv++[.ref r]) none (some ((i:Int),[],D.2)) _ _ _ (ag.trans E) Ab hL (E _ _ aJ) (E _ _ aK) .non (.tup (aa _ _ aG) (.cons (.int _) (.cons (.lst ((br.trans aa) _ _ bZ) (ag.free bq) .nil) (.cons (.int _) .nil)))) ((aM.mono λζ ζ ζ h=>⟨h.1,h.2.1⟩).same E) ?_;exact aw none (some ((i:Int),[],D.2)) [(e.map (·.2),d.map (·.2),l.map (·.2))] [p.2] (by rw[ae];exact .opn LK ax (ei.trans (Prod.ext e3 rfl)));have e3:D.1≠i7:=λz=>h3 (A5 (by rw[z]));refine⟨rfl,rfl,At (λh4=>?_) (λh4=>?_)⟩;have e4:D.1=i4:=V.str.inj (Bd h4);refine⟨AR,λR aF=>?_⟩;obtain⟨bY,aL,aE,aG⟩:=new_at (o:=.tup [.str "none",.int ((i:Int)+1)]) aF;rw[<-aL];refine⟨Oz,λr3 aH=>?_⟩;have aa:=A9 (o:=.tup [.ref R,.non,.ref L,.ref T]) aH;have E:=aE.trans aa;refine qk r3 L T (.ref R) .non (lv++[.ref r]) (some (j2,(i:Int)+1)) none _ _ _ (ag.trans E) Ab hL (E _ _ aJ) (E _ _ aK) (.tup (aa _ _ aG) (.cons (.str _) (.cons (.int _) .nil))) .non ((aM.mono λζ ζ ζ h=>⟨h.1,h.2.1⟩).same E) ?_;exact aw (some (j2,(i:Int)+1)) none [(e.map (·.2),d.map (·.2),l.map (·.2))] [p.2] (by rw[ae];exact .no LK ax (ei.trans (Prod.ext e4 rfl)));have e4:D.1≠i4:=λz=>h4 (A5 (by rw[z]));have e5:D.1=i3:=(by have:=YR W.gs W.as W.gs[n];rw[bp] at this;rcases this with h|h|h;exact h;exact absurd h e3;exact absurd h e4);have rg:=R7 ok (Eo bo) bp e5;refine AZ λNz J=>?_;obtain⟨ta,o,cv,cw,et,_⟩:=TB.ex;refine J ?_;clear J;refine Bz ?_;cbv;refine j' (j9 ⟨_,.int S,Aq.of (ag _ _ et),rfl,?_⟩);refine⟨D.2,S,_,_,_,_,_,_,_,lv++[.ref r],ls++[(e.map (·.2),d.map (·.2),l.map (·.2))],j++[p.2],rfl,ag,aJ,aK,aM,by simp[bM],by simp[bN],bn,rg,ca,λa w ai aj z=>?_⟩;rw[Fv,Fv];refine aw a w _ _ ?_;rw[ae];rw[bw] at z;exact .go LK ax (ei.trans (Prod.ext e5 rfl)) z
inductive HN (K:Aj) (vs:S') (H:Hp) (Q:VK):Prop where
 |mk (nt A t:Addr) (F:Addr->Prop) (W:Wd) (qs:V') (inn:Int) (ord:A') (n:Int) (k:Nat) (q:Qu) (h0:vs=[.ref nt,.ref A,.ref t,.int n]) (h1:n=k) (h2:qs[k]?=some q) (h3:LC K F H nt A t W qs inn ord) (h4:NX W qs inn ord) (h5:∀(v:V)(a:C')(w:Option Wt)(ls:W')(ts:E')(H':Hp),Ad H H'->AL (λx=>H x=none) H' v (.tup [Bb a,Hx w])->LU W inn ord q.1 q.2.1 q.2.2 0 a w ls ts->Q v H'):HN K vs H Q
def JL (K:Aj):Sp:=λvs H Q ζ=>HN K vs H Q
abbrev Qg(P w K mg base):=BG P w K mg base "find" 8 ["net", "answers", "table", "question"] (JL K)
def gK(af:BH mg)(Y:M0 P w K mg base)(F:Bt K "find" "find" QX f fd)(v:mg "find" = some (.ref f)):Qg P w K mg base:=by
 refine BZ F v Of (λx H Q E h=>?_) (λal A ao s H x Q E hr h=>?_);obtain⟨j,A,t,F,W,l,p,ord,n,k,q,rfl,_⟩:=h;rfl;obtain⟨j,A,t,F,W,l,p,ord,n,k,q,rfl,rfl,c,d,ok,y⟩:=h;obtain⟨ag,T,R,us,Gs,Es,m,b,z,e⟩:=d.net;have Z:k<l.length:=(Bi.mp c).1;have aa:k<b.length:=by rw[e.tq.len];exact Z
 have r:=AM aa;obtain⟨u,eq,B⟩:=e.tq.at_ k _ q r c;have ab:BW (b.map V.ref) (k:Int)=some (.ref b[k]):=BJ (by rw[Bf,r];rfl);obtain⟨C,D,G,I⟩:=ok.q q (Bq c)
 refine⟨_,(Al (Cf (AV Y (Aa (pv 0) (Aa (pv 1) (Aa (pv 2) (Aa (AB AC (AB AC (pv 0) Ah) (pv 3)) Ac))))) (BO (n:=4) rfl (Az (Ar (i:=4) Of.nd) (Az (Ar (i:=5) Of.nd) (Az (Ar (i:=6) Of.nd) (Az (Ar (i:=7) Of.nd) BN))))))
  (Ax (AJ (AD (Aa (pv 4) (Aa (pv 5) Ac)))))),?_⟩
 rfl';refine j' (j9 ⟨_,.ref R,Aq.of z,rfl,j9 ⟨_,.ref b[k],Ai.of e.er,ab,j,A,t,b[k],u,F,W,p,ord,q,rfl,d.caseH,d.tab,ok.ok,ok.sm,ok.ol,ok.irr,ok.inn,eq,B,C,D,G,I,λah ai T J L lv a w M m aj N O hL eL eT S U an ae=>?_⟩⟩);refine⟨_,Aq.of O,rfl,?_⟩;refine⟨AR,λak X=>?_⟩;have g:=A9 (o:=.tup [J,L]) X;exact y _ a w M m _ (N.trans g) (.tup Ab (.cons (S.same g) (.cons (U.same g) .nil))) ae
variable {v:V}
def Wr{b:List Dt}(h:Ao K H v (.lst b)):∃a vs,v=.ref a/\Ai K H a vs/\Ak K H vs b:=by cases h with|lst h t=>exact⟨_,_,rfl,h,t⟩
def Wu{b:List Dt}(h:Ao K H v (.tup b)):∃a vs,v=.ref a/\Aq K H a vs/\Ak K H vs b:=by cases h with|tup h t=>exact⟨_,_,rfl,h,t⟩
def OA:Dt->Ty
 |.non=>.non
 |.bl _=>.bool
 |.int _=>.int
 |.str _=>.str
 |.tup _=>.tup
 |.lst _=>.lst
def Qh{d:Dt}(h:Ao K H v d):IK K H v (OA d):=by
 cases h with|non=>exact .non|bl b=>exact .bl b|int i=>exact .int i|str x=>exact .str x|tup h t=>exact .tup h|lst h t=>exact .lst h
def JM{d:Dt}(h:Ao K H v d):v=.non↔d=.non:=by cases h<;>simp
def Qi (K:Aj) (n:Nat):Sp:=λvs H Q ζ=>∃(x y:V)(d e:Dt),vs=[x,y]/\Ao K H x d/\Ao K H y e/\Dn n d/\Dn n e/\∀(b:Bool)(H':Hp),Ad H H'->(b=true↔d=e)->Q (.bl b) H'
abbrev gL (K:Aj):Sp:=Qi K 8
theorem gM(B:BH mg)(n:Nat)(ai:BG P w K mg base "_law_same" (0+n) ["_law_found", "_law_due_here"] (Qi K n))(F:Bt K "_law_same" "_law_same" M5 f fd):Eb P w K mg base Ig (0+n+1) f fd ["_law_found", "_law_due_here"] (Qi K (n+1)):=by
 refine F.ok SJ (λvs H ag ah h=>?_) (λak aj al s H vs ag ah hr h=>?_);obtain⟨x,y,d,af,rfl,_⟩:=h;rfl;obtain⟨x,y,d,af,rfl,g,G,hd,W,q⟩:=h
 refine⟨_,(Al (A8 (GJ (GW (pv 1))) (Ax (AJ (GX (GW (pv 0))))) A7)
  (Al (A8 (FZ (CZ IL B.b_isinstance (Aa (pv 1) (Aa (IP "str" rfl B.b_str (by decide +kernel)) Ac)))) (Ax (AJ (Rf (CZ IL B.b_isinstance (Aa (pv 0) (Aa (IP "str" rfl B.b_str (by decide +kernel)) Ac))) (GY (K2 B0 (pv 0) (pv 1) (Bs _)))))) A7)
  (Al (A8 (FZ (CZ IL B.b_isinstance (Aa (pv 1) (Aa (IP "int" rfl B.b_int (by decide +kernel)) Ac)))) (Ax (AJ (Rf (CZ IL B.b_isinstance (Aa (pv 0) (Aa (IP "int" rfl B.b_int (by decide +kernel)) Ac))) (Rf (KP (CZ IL B.b_isinstance (Aa (pv 0) (Aa (IP "bool" rfl B.b_bool (by decide +kernel)) Ac)))) (GY (K2 B0 (pv 0) (pv 1) (Bs _))))))) A7)
  (Al (A8 (PW.pt (KO (FZ (CZ IL B.b_isinstance (Aa (pv 1) (Aa (IP "list" rfl B.b_list (by decide +kernel)) Ac)))) (KN (JU (FZ (CZ IL B.b_isinstance (Aa (pv 0) (Aa (IP "list" rfl B.b_list (by decide +kernel)) Ac)))))))) (Ax (AJ Gm)) A7)
  (Al (A8 (PW.pt (KO (FZ (CZ IL B.b_isinstance (Aa (pv 1) (Aa (IP "tuple" rfl B.b_tuple (by decide +kernel)) Ac)))) (KN (JU (FZ (CZ IL B.b_isinstance (Aa (pv 0) (Aa (IP "tuple" rfl B.b_tuple (by decide +kernel)) Ac)))))))) (Ax (AJ Gm)) A7)
  (Al (A8 (Bx Mv (CZ GL B.b_len (Aa (pv 0) Ac)) (CZ GL B.b_len (Aa (pv 1) Ac)) (Bs _)) (Ax (AJ Gm)) A7)
  (Al (Dq C0 rfl (Jd rfl B.b_zip (Aa (pv 0) (Aa (pv 1) Ac))) (BO (n:=2) rfl (Az (Ar (i:=2) SJ.nd) (Az (Ar (i:=3) SJ.nd) BN))) (Ax (A8 (JU (FZ (AV ai (Aa (pv 2) (Aa (pv 3) Ac)) (hr.mono (by lia))))) (Ax (AJ Gm)) A7)))
  (Ax (AJ Gm))))))))),?_⟩
 try dsimp only[AF,Cx.nox,Cx.wish]
 cases af with
 |non=>cases G;refine⟨rfl,At (λζ=>?_) (λh=>absurd (A5 rfl) h)⟩;exact q _ _ (Ad.refl _) ((decide_eq_true_iff).trans (JM g))
 |bl b=>exact False.elim W
 |int s=>
  cases G;refine⟨rfl,At (λh=>absurd (Bd h) (by simp)) (λζ=>?_)⟩;refine⟨_,.str,.int,rfl,.int s,rfl,Bl ?_⟩;refine⟨_,.int,.int,rfl,.int s,rfl,Cw ?_⟩;refine⟨_,.int,OA d,rfl,Qh g,_,rfl,?_⟩;cases d with|bl _=>exact False.elim hd|int s'=>cases g;refine Cw ⟨_,.bool,.int,rfl,.int _,_,rfl,_,rfl,Cw ⟨rfl,?_⟩⟩;refine q _ _ (Ad.refl _) ⟨λz=>?_,λz=>?_⟩;rw[V.int.inj (Bd z)];cases z;exact A5 rfl|_=>exact Bl (q false _ (Ad.refl _) ⟨λz=>(by cases z),λz=>(by cases z)⟩)
 |str s=>
  cases G;refine⟨rfl,At (λh=>absurd (Bd h) (by simp)) (λζ=>?_)⟩;refine⟨_,.str,.str,rfl,.str s,rfl,Cw ?_⟩;refine⟨_,.str,OA d,rfl,Qh g,_,rfl,?_⟩;cases d with|bl _=>exact False.elim hd|str s'=>cases g;refine Cw ⟨rfl,?_⟩;refine q _ _ (Ad.refl _) ⟨λz=>?_,λz=>?_⟩;rw[V.str.inj (Bd z)];cases z;exact A5 rfl|_=>exact Bl (q false _ (Ad.refl _) ⟨λz=>(by cases z),λz=>(by cases z)⟩)
 | lst k=>
  obtain⟨b,X,rfl,e,I⟩:=Wr G;have p:=I.length;refine⟨rfl,At (λh=>absurd (Bd h) (by simp)) (λζ=>?_)⟩;refine⟨_,.str,.lst,rfl,.lst e,rfl,Bl ?_⟩;refine⟨_,.int,.lst,rfl,.lst e,rfl,Bl ?_⟩;refine⟨_,.lst,.lst,rfl,.lst e,rfl,Cw ⟨_,.lst,OA d,rfl,Qh g,rfl,?_⟩⟩
  cases d with
  |lst r=>
   obtain⟨a,us,rfl,t,J⟩:=Wr g;have u:=J.length;refine Bl ⟨_,.tup,.lst,rfl,.lst e,rfl,Bl (Bl ?_)⟩;refine⟨_,j9 ⟨_,t,rfl⟩,_,j9 ⟨_,e,rfl⟩,rfl,rfl,At (λh=>?_) (λh=>?_)⟩;refine q false _ (Ad.refl _) ⟨λz=>(by cases z),λz=>?_⟩;cases z;rw[u,p] at h;simp at h;have Y:r.length=k.length:=(by rw[u,p] at h;simp at h;lia);refine⟨a,b,rfl,j9 ⟨⟨_,t⟩,⟨_,e⟩,Vg LK (xs:=us) (ys:=X) (λi σ L=>∃v A,σ=[some (.ref a),some (.ref b),v,A]/\Ad H L/\∀j:Nat,j<i->r[j]?=k[j]?) ⟨none,none,rfl,Ad.refl _,λj M=>absurd M (Nat.not_lt_zero _)⟩ (λi σ L aa=>by obtain⟨_,_,_,s,_⟩:=aa;exact⟨s.seq t,s.seq e⟩) ?_ ?_⟩⟩;rintro i x y T σ U ab ae hT ⟨v,A,rfl,C,D⟩;obtain⟨N,l,t1⟩:=J.get ab;obtain⟨O,E,t2⟩:=I.get ae;have Q:=A9 (o:=.tup [x,y]) hT;refine⟨_,Aq.of Ab,rfl,?_⟩;generalize upd U T (.tup [x,y])=Z at Q ⊢;have m:=C.trans Q;refine⟨x,y,N,O,rfl,t1.same m,t2.same m,hd N (Bq l),W O (Bq E),λbb H3 R S=>⟨rfl,?_⟩⟩
   cases bb with
   |false=>
    refine Cw (q false _ (m.trans R) ⟨λz=>(by cases z),λz=>?_⟩);have e1:r=k:=by cases z;rfl
    rw[e1,E] at l;have:=S.mpr (BU l).symm;cases this
   |true=>refine Bl ⟨_,_,rfl,m.trans R,λj M=>?_⟩;by_cases c:j=i;rw[c,l,E,S.mp rfl];exact D j (by lia)
   rintro σ U ⟨v,A,rfl,C,D⟩;refine q true _ C ⟨λζ=>?_,λζ=>rfl⟩;congr 1;refine n9 λj=>?_;by_cases c:j<k.length;exact D j (by simp only[p,u,Y,Nat.min_self] at *;lia);rw[GH (by lia),GH (by lia)]
  |bl _=>exact False.elim hd
  |_=>exact Cw (q false _ (Ad.refl _) ⟨λz=>(by cases z),λz=>(by cases z)⟩)
 | tup k=>
  obtain⟨b,X,rfl,e,I⟩:=Wu G;have p:=I.length;refine⟨rfl,At (λh=>absurd (Bd h) (by simp)) (λζ=>?_)⟩;refine⟨_,.str,.tup,rfl,.tup e,rfl,Bl ?_⟩;refine⟨_,.int,.tup,rfl,.tup e,rfl,Bl ?_⟩;refine⟨_,.lst,.tup,rfl,.tup e,rfl,Bl (Bl ?_)⟩;refine⟨_,.tup,.tup,rfl,.tup e,rfl,Cw ⟨_,.tup,OA d,rfl,Qh g,rfl,?_⟩⟩
  cases d with
  |tup r=>
   obtain⟨a,us,rfl,t,J⟩:=Wu g;have u:=J.length;refine Bl ?_;refine⟨_,j' ⟨_,t,rfl⟩,_,j' ⟨_,e,rfl⟩,rfl,rfl,At (λh=>?_) (λh=>?_)⟩;refine q false _ (Ad.refl _) ⟨λz=>(by cases z),λz=>?_⟩;cases z;rw[u,p] at h;simp at h;have Y:r.length=k.length:=(by rw[u,p] at h;simp at h;lia);refine⟨a,b,rfl,j' ⟨⟨_,t⟩,⟨_,e⟩,Vg TK (xs:=us) (ys:=X) (λi σ L=>∃v A,σ=[some (.ref a),some (.ref b),v,A]/\Ad H L/\∀j:Nat,j<i->r[j]?=k[j]?) ⟨none,none,rfl,Ad.refl _,λj M=>absurd M (Nat.not_lt_zero _)⟩ (λi σ L aa=>by obtain⟨_,_,_,s,_⟩:=aa;exact⟨s.seqT t,s.seqT e⟩) ?_ ?_⟩⟩;rintro i x y T σ U ab ae hT ⟨v,A,rfl,C,D⟩;obtain⟨N,l,t1⟩:=J.get ab;obtain⟨O,E,t2⟩:=I.get ae;have Q:=A9 (o:=.tup [x,y]) hT;refine⟨_,Aq.of Ab,rfl,?_⟩;generalize upd U T (.tup [x,y])=Z at Q ⊢;have m:=C.trans Q;refine⟨x,y,N,O,rfl,t1.same m,t2.same m,hd N (Bq l),W O (Bq E),λbb H3 R S=>⟨rfl,?_⟩⟩
   cases bb with
   |false=>
    refine Cw (q false _ (m.trans R) ⟨λz=>(by cases z),λz=>?_⟩);have e1:r=k:=by cases z;rfl
    rw[e1,E] at l;have:=S.mpr (BU l).symm;cases this
   |true=>refine Bl ⟨_,_,rfl,m.trans R,λj M=>?_⟩;by_cases c:j=i;rw[c,l,E,S.mp rfl];exact D j (by lia)
   rintro σ U ⟨v,A,rfl,C,D⟩;refine q true _ C ⟨λζ=>?_,λζ=>rfl⟩;congr 1;refine n9 λj=>?_;by_cases c:j<k.length;exact D j (by simp only[p,u,Y,Nat.min_self] at *;lia);rw[GH (by lia),GH (by lia)]
  |bl _=>exact False.elim hd
  |_=>exact Cw (q false _ (Ad.refl _) ⟨λz=>(by cases z),λz=>(by cases z)⟩)
def gN(B:BH mg)(F:Bt K "_law_same" "_law_same" M5 f fd)(a:mg "_law_same" = some (.ref f))(n:Nat):BG P w K mg base "_law_same" (0+n) ["_law_found", "_law_due_here"] (Qi K n):=by
 have b:Binds K fd ["_law_found", "_law_due_here"] []:=F.binds λζ ζ ζ ζ ζ ζ us c=>(by obtain⟨g,i,rfl⟩:=HJ c;rfl)
 induction n with|zero=>exact⟨f,fd,⟨λd H Q E h=>(by obtain⟨_,_,_,_,_,_,_,h,_⟩:=h;exact False.elim h),λA k s H j us d Q E ζ ζ ζ ζ h=>(by obtain⟨_,_,_,_,_,_,_,h,_⟩:=h;exact False.elim h)⟩,a,F.kp,b⟩|succ n e=>exact⟨f,fd,gM B n e F,a,F.kp,b⟩
abbrev Qj(P w K mg base):=BG P w K mg base "_law_same" 8 ["_law_found", "_law_due_here"] (gL K)
def gO(B:BH mg)(F:Bt K "_law_same" "_law_same" M5 f fd)(a:mg "_law_same" = some (.ref f)):Qj P w K mg base:=
 gN B F a 8
inductive Gh (K:Aj) (vs:S') (H:Hp) (Q:VK):Prop where
 |mk (nt A t:Addr) (F:Addr->Prop) (W:Wd) (qs:V') (inn:Int) (ord:A') (n:Int) (k:Nat) (q:Qu) (h0:vs=[.ref nt,.ref A,.ref t,.int n]) (h1:n=k) (h2:qs[k]?=some q) (h3:LC K F H nt A t W qs inn ord) (h4:NX W qs inn ord) (h5:∀(D:Addr)(lv:S')(a:C')(w:Option Wt)(ls:W')(ts:E')(H':Hp),H D=none->Ad H H'->H' D=some (.lst lv)->Am (λx=>H x=none/\x≠D) H' lv (ls.map LG)->LU W inn ord q.1 q.2.1 q.2.2 0 a w ls ts->Q (.ref D) H'):Gh K vs H Q
def gP (K:Aj):Sp:=λvs H Q ζ=>Gh K vs H Q
abbrev Qk(P w K mg base):=BG P w K mg base "trail" 8 ["net", "answers", "table", "question"] (gP K)
def gQ(az:BH mg)(ao:M0 P w K mg base)(F:Bt K "trail" "trail" OR f fd)(hm:mg "trail" = some (.ref f)):Qk P w K mg base:=by
 refine BZ F hm Og (λvs H Q aa h=>?_) (λa5 A a7 s H vs Q aa hr h=>?_);obtain⟨E,A,t,F,W,I,R,ord,n,k,q,rfl,_⟩:=h;rfl;obtain⟨E,A,t,F,W,I,R,ord,n,k,q,rfl,rfl,p,r,ok,qk⟩:=h;obtain⟨a0,ab,ae,us,Gs,Es,J,d,eN,u⟩:=r.net;have aq:k<I.length:=(Bi.mp p).1;have ar:k<d.length:=by rw[u.tq.len];exact aq
 have S:=AM ar;obtain⟨af,eq,eu⟩:=u.tq.at_ k _ q S p;have au:BW (d.map V.ref) (k:Int)=some (.ref d[k]):=BJ (by rw[Bf,S];rfl);obtain⟨ak,al,an,g4⟩:=ok.q q (Bq p)
 refine⟨_,(Al (Cf (AV ao (Aa (pv 0) (Aa (pv 1) (Aa (pv 2) (Aa (AB AC (AB AC (pv 0) Ah) (pv 3)) Ac))))) (BO (n:=4) rfl (Az (Ar (i:=4) Og.nd) (Az (Ar (i:=5) Og.nd) (Az (Ar (i:=6) Og.nd) (Az (Ar (i:=7) Og.nd) BN))))))
  (Ax (AJ (Hc (g:=Nc K 3 (JW (Go 0) (JW (Go 1) (JW (Go 2) Gp)))) rfl Cu (Dy (pv 6)) (λζ ζ ζ ζ ζ=>(BO (n:=3) rfl (Az (Ar (i:=0) Cu.nd) (Az (Ar (i:=1) Cu.nd) (Az (Ar (i:=2) Cu.nd) BN))))) (λζ ζ ζ ζ ζ=>Gu) (λζ ζ ζ ζ ζ=>(pv 2)))))),?_⟩
 rfl';refine(j' (j9 ⟨_,.ref ae,Aq.of eN,rfl,j9 ⟨_,.ref d[k],Ai.of u.er,au,E,A,t,d[k],af,F,W,R,ord,q,rfl,r.caseH,r.tab,ok.ok,ok.sm,ok.ol,ok.irr,ok.inn,eq,eu,ak,al,an,g4,λa1 ag ab av wv lv ah w v J ai L er hL M eT ha hw C T=>?_⟩⟩));refine⟨_,Aq.of er,rfl,?_⟩;have ll:lv.length<=sizeLine:=(by have h1:=C.length;rw[An] at h1;have h2:=Hz T;exact CT (BX (by lia)))
 refine⟨⟨_,Ai.of M⟩,MG (xs:=lv) (λD i a l=>Ad ai l/\l D=some (.lst a)/\Am (λx=>H x=none/\x≠D) l a ((v.take i).map LG)/\a.length=i)
  (λD c=>⟨A9 c,Ab,.nil,rfl⟩) (λD i a l aw=>by obtain⟨s,_⟩:=aw;exact Ai.of (s _ _ M)) (λD i a2 a Z RR c N y k=>?_) (λD a Z c y=>?_)⟩
 obtain⟨j,m,o,z⟩:=y;have ax:i<lv.length:=(Bi.mp N).1;obtain⟨a3,hd,U⟩:=C.get N;obtain⟨a4,ay,rfl⟩:=getm hd;refine AZ λNz X=>?_;obtain⟨tl,x1,x2,x3,rfl,Y,a6⟩:=(U.same j).look;refine X ?_;clear X;refine⟨_,Aq.of Y,rfl,?_⟩;have O:Keeps (·=D) Z (upd Z D (.lst (a++[x3]))):=Keeps.one m;refine k _ _ m ?_ ⟨λb aj e=>?_,Ab,?_,by rw[AY,z];rfl⟩;rw[z];exact Fj ax ll;rw[AI (Be e c)];exact j _ _ e;rw[En,ay,Bh];refine(o.keeps O λx B=>B.2).snoc ?_;refine(((AL.mono (F:=λx=>H x=none/\x≠ag) (G:=λx=>H x=none/\x≠D) (λb aj e h=>⟨h.1,Be e c⟩) U).same j).look' Y).keeps O λx B=>B.2;obtain⟨j,m,o,z⟩:=y;have e1:v.length=lv.length:=by have:=C.length;rw[An] at this;lia
 rw[<-e1,Dw] at o;exact qk D a ah w v J Z (L.free c) (L.trans j) m o T
def Wv{f:β->α->β}{n:β}{l:List α}{x:α}(h:l[i]?=some x):(l.take (i+1)).foldl f n=f ((l.take i).foldl f n) x:=by rw[List.take_add_one,h,M4];rfl
inductive DP (K:Aj) (vs:S') (H:Hp) (Q:VK):Prop where
 |mk (L:Addr) (F:Addr->Prop) (lv:S') (ls:W') (h0:vs=[.ref L]) (h1:H L=some (.lst lv)) (h2:Am F H lv (ls.map Jg)) (h3:(∀l∈ls,∀b∈l.1,0<=b.2.1/\b.2.1<100)) (h4:Q (.int (ls.foldl GR 0)) H):DP K vs H Q
def gR (K:Aj):Sp:=λvs H Q ζ=>DP K vs H Q
abbrev Ti(P w K mg base):=BG P w K mg base "scopes_of" 1 ["looks"] (gR K)
def gS(aj:BH mg)(F:Bt K "scopes_of" "scopes_of" QY f fd)(R:mg "scopes_of" = some (.ref f)):Ti P w K mg base:=by
 refine BZ F R Jy (λS H Q E h=>?_) (λao ak aq s H S Q E hr h=>?_);obtain⟨L,F,lv,m,rfl,_⟩:=h;rfl
 . obtain⟨L,F,lv,m,rfl,v,G,aa,q⟩:=h
   have ab:lv.length=m.length:=by rw[G.length,An]
   refine⟨_,(Al (AU (i:=1) Jy.nd Ah)
    (Al (Dq C0 rfl (Dy (pv 0)) (BO (n:=3) rfl (Az (Ar (i:=2) Jy.nd) (Az (Ar (i:=3) Jy.nd) (Az (Ar (i:=4) Jy.nd) BN)))) (Ax (Dq C0 rfl (Dy (pv 2)) (BO (n:=3) rfl (Az (Ar (i:=5) Jy.nd) (Az (Ar (i:=6) Jy.nd) (Az (Ar (i:=7) Jy.nd) BN)))) (Ax (AU (i:=1) Jy.nd (AG Nm (pv 1) (AG G0 Ah (pv 6))))))))
    (Ax (AJ (pv 1))))),?_⟩
   rfl';refine⟨⟨_,Ai.of v⟩,Fz (xs:=lv) (λi σ k=>∃o p r c d g,σ=[some (.ref L),some (.int ((m.take i).foldl GR 0)),o,p,r,c,d,g]/\k=H) ⟨none,none,none,none,none,none,rfl,rfl⟩ (λi σ k ζ t=>by obtain⟨_,_,_,_,_,_,_,e⟩:=t;exact by rw[e];exact Ai.of v) ?_ ?_⟩;rotate_left;refine λσ Z u=>AZ λy a=>?_;obtain⟨o,p,r,c,d,g,rfl,rfl⟩:=u;refine a ?_;clear a;rw[ab,Dw];exact q;refine λi x σ Z T u=>AZ λy a=>?_;obtain⟨o,p,r,c,d,g,rfl,rfl⟩:=u;refine a ?_;clear a;obtain⟨l,I,ae⟩:=MQ G T;have af:=aa l (Bq I);refine AZ λy a=>?_;obtain⟨al,x1,z,A,rfl,U,V,h2,_⟩:=N1 ae;refine a ?_;clear a;obtain⟨P,B,rfl,C,D⟩:=PM V;have ag:B.length=l.1.length:=(by rw[D.length,An]);refine⟨_,Aq.of U,rfl,?_⟩;refine⟨⟨_,Ai.of C⟩,Fz (xs:=B) (λj σ k=>∃c d g,σ=[some (.ref L),some (.int ((l.1.take j).foldl N6 ((m.take i).foldl GR 0))),some (.ref P),some z,some A,c,d,g]/\k=Z) ⟨c,d,g,rfl,rfl⟩ (λi σ k ζ t=>by obtain⟨_,_,_,_,e⟩:=t;exact by rw[e];exact Ai.of C) ?_ ?_⟩;rintro j an σ W X ⟨J,M,N,rfl,rfl⟩;obtain⟨b,O,ah⟩:=MQ D X;obtain⟨tb,Y,rfl,ai⟩:=HF ah;have hz:=af b (Bq O);refine⟨_,Aq.of ai,rfl,⟨hz.1,by lia,by decide⟩,?_⟩;refine⟨some Y,some (.int b.2.1),some (.int b.2.2),?_,rfl⟩;rw[Wv O];rfl;rintro σ W ⟨J,M,N,rfl,rfl⟩;refine⟨some (.ref P),some z,some A,J,M,N,?_,rfl⟩;rw[ag,Dw,Wv I];rfl
inductive FL (K:Aj) (vs:S') (H:Hp) (Q:VK):Prop where
 |mk (nt A t:Addr) (F:Addr->Prop) (W:Wd) (qs:V') (inn:Int) (ord:A') (n:Int) (k:Nat) (q:Qu) (h0:vs=[.ref nt,.ref A,.ref t,.int n]) (h1:n=k) (h2:qs[k]?=some q) (h3:LC K F H nt A t W qs inn ord) (h4:NX W qs inn ord) (h5:∀(a:C')(w:Option Wt)(ls:W')(ts:E')(H':Hp),Ad H H'->LU W inn ord q.1 q.2.1 q.2.2 0 a w ls ts->Q (.int (ls.foldl GR 0)) H'):FL K vs H Q
def gT (K:Aj):Sp:=λvs H Q ζ=>FL K vs H Q
abbrev Ql(P w K mg base):=BG P w K mg base "walked" 8 ["net", "answers", "table", "question"] (gT K)
def gU(ah:BH mg)(Y:M0 P w K mg base)(Z:Ti P w K mg base)(F:Bt K "walked" "walked" QZ f fd)(B:mg "walked" = some (.ref f)):Ql P w K mg base:=by
 refine BZ F B Oh (λC H Q E h=>?_) (λal A an s H C Q E hr h=>?_);obtain⟨j,A,t,F,W,m,x,ord,n,k,q,rfl,_⟩:=h;rfl;obtain⟨j,A,t,F,W,m,x,ord,n,k,q,rfl,rfl,d,e,ok,D⟩:=h;obtain⟨ai,T,R,us,Gs,Es,o,c,G,g⟩:=e.net;have aa:k<m.length:=(Bi.mp d).1;have ab:k<c.length:=by rw[g.tq.len];exact aa
 have y:=AM ab;obtain⟨u,eq,I⟩:=g.tq.at_ k _ q y d;have ae:BW (c.map V.ref) (k:Int)=some (.ref c[k]):=BJ (by rw[Bf,y];rfl);obtain⟨p,r,J,M⟩:=ok.q q (Bq d)
 refine⟨_,(Al (Cf (AV Y (Aa (pv 0) (Aa (pv 1) (Aa (pv 2) (Aa (AB AC (AB AC (pv 0) Ah) (pv 3)) Ac))))) (BO (n:=4) rfl (Az (Ar (i:=4) Oh.nd) (Az (Ar (i:=5) Oh.nd) (Az (Ar (i:=6) Oh.nd) (Az (Ar (i:=7) Oh.nd) BN))))))
  (Ax (AJ (AV Z (Aa (pv 6) Ac))))),?_⟩
 rfl';refine j' (j9 ⟨_,.ref R,Aq.of G,rfl,j9 ⟨_,.ref c[k],Ai.of g.er,ae,j,A,t,c[k],u,F,W,x,ord,q,rfl,e.caseH,e.tab,ok.ok,ok.sm,ok.ol,ok.irr,ok.inn,eq,I,p,r,J,M,λaj L T av wv lv a w v o ak N O hL S eT ha hw af z=>?_⟩⟩);refine⟨_,Aq.of O,rfl,?_⟩;obtain⟨ag,_⟩:=VH ok.ok ok.sm ok.inn z p r;refine⟨L,_,lv,v,rfl,S,af,λl U b X=>?_,D a w v o _ N z⟩;have:=((ag l U).bo b X).rng b.2.1 (by unfold AW;simp);have:=ok.ok.s5;lia
inductive E4 (K:Aj) (vs:S') (H:Hp) (Q:VK):Prop where
 |mk (nt A t:Addr) (W:Wd) (n:Int) (h0:vs=[.ref nt,.int n]) (h1:Bm K H nt A t W) (h2:(0<=n/\n<W.gs.length)) (h3:∀(D:Addr)(H':Hp),H D=none->Ad H H'->H' D=some (.lst ((Ft W.gs n).map V.int))->Q (.ref D) H'):E4 K vs H Q
def gW (K:Aj):Sp:=λvs H Q ζ=>E4 K vs H Q
abbrev Qm(P w K mg base):=BG P w K mg base "of_sort" 1 ["net", "thing"] (gW K)
def gX(B:BH mg)(F:Bt K "of_sort" "of_sort" Q0 f fd)(b:mg "of_sort" = some (.ref f)):Qm P w K mg base:=by
 refine BZ F b SK (λr H Q E h=>?_) (λM A N s H r Q E C h=>?_);obtain⟨u,A,t,W,n,rfl,_⟩:=h;rfl;obtain⟨u,A,t,W,n,rfl,v,x,q⟩:=h;obtain⟨S,T,R,us,G,I,c,J,L,y,d⟩:=v.net;obtain⟨m,b⟩:=DJ x.1;have j:m<W.gs.length:=(by lia);have o:m<c.length:=by rw[d.tg.len];exact j
 have k:W.gs[n.toNat]?=some W.gs[m]:=by rw[b,BF];exact AM j
 have g:=d.tg.at_ m _ _ (AM o) (AM j);have l:BW (c.map V.ref) n=some (.ref c[m]):=by rw[b];exact BJ (by rw[Bf,AM o];rfl)
 generalize W.gs[m]=p at k g;generalize c[m]=z at l g;have eq:Ft W.gs n=if p.1=i9 then[p.2] else[]:=by unfold Ft;rw[k]
 refine⟨_,(Al (Cf (AB AC (AB AC (pv 0) Ah) (pv 1)) (BO (n:=2) rfl (Az (Ar (i:=2) SK.nd) (Az (Ar (i:=3) SK.nd) BN))))
  (Al (A8 (Bx B0 (pv 2) AH (Bs _)) (Ax (AJ (A1 (Aa (pv 3) Ac)))) A7)
  (Ax (AJ (A1 Ac))))),?_⟩
 rfl';refine j' (j9 ⟨_,.ref T,Aq.of y,rfl,j9 ⟨_,.ref z,Ai.of d.et,l,?_⟩⟩);refine⟨_,Aq.of g,rfl,?_⟩;refine⟨rfl,rfl,At (λh=>?_) (λh=>?_)⟩;have e:p.1=i9:=V.str.inj (Bd h);refine⟨Fn,λD a=>q D _ a (A9 a) ?_⟩;rw[Ab,eq,Ap e];rfl;have e:p.1≠i9:=λe=>h (A5 (by rw[e]));refine⟨by decide,λD a=>q D _ a (A9 a) ?_⟩;rw[Ab,eq,Ag e];rfl
inductive DQ (K:Aj) (vs:S') (H:Hp) (Q:VK):Prop where
 |mk (nt A t:Addr) (W:Wd) (v:V) (o:C') (h0:vs=[.ref nt,v]) (h1:Bm K H nt A t W) (h2:((o=none/\v=.non)\/∃p ta,o=some p/\v=.ref ta/\Aq K H ta [.str p.1,.int p.2])) (h3:(∀p,o=some p->p.1=f'->0<=p.2/\p.2<W.gs.length)) (h4:∀(D:Addr)(H':Hp),H D=none->Ad H H'->H' D=some (.lst ((qA W.gs o).map V.int))->Q (.ref D) H'):DQ K vs H Q
def gY (K:Aj):Sp:=λvs H Q ζ=>DQ K vs H Q
abbrev Tj(P w K mg base):=BG P w K mg base "of_answer" 2 ["net", "answer"] (gY K)
def gZ(B:BH mg)(n:Qm P w K mg base)(F:Bt K "of_answer" "of_answer" Q1 f fd)(i:mg "of_answer" = some (.ref f)):Tj P w K mg base:=by
 refine BZ F i Zp (λj H Q E h=>?_) (λC A G s H j Q E u h=>?_);obtain⟨b,A,t,W,v,o,rfl,_⟩:=h;rfl;obtain⟨b,A,t,W,v,o,rfl,k,l,r,q⟩:=h;have d:qA W.gs o=[]->∀D,H D=none->Q (.ref D) (upd H D (.lst [])):=λe D a=>q D _ a (A9 a) (by rw[Ab,e];rfl)
 refine⟨_,(Al (A8 (PW.pt (OU (GJ (GW (pv 1))) (Re (Bx Mv (AB AC (pv 1) Ah) AH (Bs _))))) (Ax (AJ (A1 Ac))) A7)
  (Ax (AJ (AV n (Aa (pv 0) (Aa (AB AC (pv 1) Ah) Ac)))))),?_⟩
 rfl';rcases l with⟨rfl,rfl⟩|⟨p,x,rfl,rfl,g⟩;exact⟨rfl,At (λζ=>Cw ⟨by decide,d rfl⟩) (λh=>absurd (A5 rfl) h)⟩;refine⟨rfl,At (λh=>absurd (Bd h) (by simp)) (λζ=>?_)⟩;refine j' (j9 ⟨_,.str p.1,g,rfl,rfl,rfl,At (λh=>?_) (λh=>?_)⟩);refine⟨by decide,d ?_⟩;refine Ag λe=>?_;rw[e] at h;simp at h
 have c:p.1=f':=m8 λz=>h (by
  have:decide (V.str p.1=V.str "thing")=false:=DS λy=>z (V.str.inj y);rw[this];rfl)
 refine j' (j9 ⟨_,.int p.2,g,rfl,b,A,t,W,p.2,rfl,k,r p rfl c,λD m a s e=>q D m a s ?_⟩);rw[e];show some (HO.lst ((Ft W.gs p.2).map V.int))=some (HO.lst ((if p.1=f' then Ft W.gs p.2 else[]).map V.int));rw[Ap c]
def g0{k:Nat}{s:BC}(h:W.ss[k]?=some s):B2 W (k:Int)=s.1:=by unfold B2;rw[BF,h]
def JN{k:Nat}(h:W.sts[k]?=some s):D8 W (k:Int)=s.1:=by unfold D8;rw[BF,h]
inductive Em (K:Aj) (vs:S') (H:Hp) (Q:VK):Prop where
 |mk (nt A t:Addr) (W:Wd) (v:V) (F:Addr->Prop) (bs:List AO) (h0:vs=[.ref nt,.ref A,.ref t,v]) (h1:Bm K H nt A t W) (h2:Cj W) (h3:AL F H v (.lst (bs.map DD.D))) (h4:(∀b∈bs,C5 W b)) (h5:(bs.flatMap (BA W)).length<=4000) (h6:∀(D:Addr)(H':Hp),H D=none->Ad H H'->H' D=some (.lst ((bs.flatMap (BA W)).map V.int))->Q (.ref D) H'):Em K vs H Q
def g6 (K:Aj):Sp:=λvs H Q ζ=>Em K vs H Q
abbrev Tk(P w K mg base):=BG P w K mg base "of_steps" 3 ["net", "answers", "table", "begun"] (g6 K)
def g8(aR:BH mg)(a8:Qa P w K mg base)(a9:Tj P w K mg base)(F:Bt K "of_steps" "of_steps" Q2 f fd)(B:mg "of_steps" = some (.ref f)):Tk P w K mg base:=by
 refine BZ F B Ko (λvs H az a0 h=>?_) (λaX A ba s H vs az a0 hr h=>?_);obtain⟨I,A,t,W,v,F,bs,rfl,_⟩:=h;rfl
 . obtain⟨I,A,t,W,v,F,bs,rfl,J,ok,hv,aA,hl,a1⟩:=h
   obtain⟨a2,aS,aT,us,Gs,Es,ts,qt,qs,eN,N3⟩:=J.net;obtain⟨a3,o,aB,b1,a4,b2,b3⟩:=J.tab;obtain⟨P,bv,rfl,eP,hb⟩:=PM hv
   refine⟨_,(Al (AU (i:=4) Ko.nd (A1 Ac))
    (Al (Dq C0 rfl (Dy (pv 3)) (BO (n:=3) rfl (Az (Ar (i:=5) Ko.nd) (Az (Ar (i:=6) Ko.nd) (Az (Ar (i:=7) Ko.nd) BN)))) (Ax (Dq C0 rfl (Dy (AB AC (AB AC (AB AC (pv 0) Ah) (pv 6)) Ah)) (BO (n:=3) rfl (Az (Ar (i:=8) Ko.nd) (Az (Ar (i:=9) Ko.nd) (Az (Ar (i:=10) Ko.nd) BN)))) (Ax (A8 (PW.pt (KO (Bx B0 (pv 9) AH (Bs _)) (KN (GJ (Ra (AV a8 (Aa (pv 2) (Aa (pv 7) (Aa (pv 8) Ac))))))))) (Al (E8 (EJ E6 Gi Gj Gv (pv 4) (Aa (pv 10) Ac)))
          (Ax (E8 (EJ E6 PySem.F.slot_list_extend PySem.F.type_list_extend ME (pv 4) (Aa (AV a9 (Aa (pv 0) (Aa (AB AC (pv 1) (pv 10)) Ac))) Ac))))) A7)))))
    (Ax (AJ (pv 4))))),?_⟩
   rfl';refine⟨by decide,λD L=>?_⟩;obtain⟨aU,aC,s1,aD⟩:=new_at (o:=.lst []) L;rw[<-aC]
   refine⟨⟨_,Ai.of (s1 _ _ eP)⟩,Fz (xs:=bv) (λi σ g=>∃R S T q r u,σ=[some (.ref I),some (.ref A),some (.ref t),some (.ref P),some (.ref D),R,S,T,q,r,u]/\Ad H g/\g D=some (.lst (((bs.take i).flatMap (BA W)).map V.int)))
    ⟨none,none,none,none,none,none,rfl,s1,by rw[aD,D6];rfl⟩ (λi σ g ζ aa=>by obtain⟨_,_,_,_,_,_,_,s,_⟩:=aa;exact Ai.of (s _ _ eP)) ?_ ?_⟩
   rotate_left;refine λσ a5 y=>AZ λM a=>?_;obtain⟨R,S,T,q,r,u,rfl,d,N⟩:=y;refine a ?_;clear a;rw[hb.length,An,Dw] at N;exact a1 D _ L d N;refine λi x σ a5 hx y=>AZ λM a=>?_;obtain⟨R,S,T,q,r,u,rfl,d,N⟩:=y;refine a ?_;clear a;refine Kj ?_;intro Nx Cy;obtain⟨b,ak,aE⟩:=MQ (hb.same d) hx;have al:=aA b (Bq ak);obtain⟨tb,x0,rfl,aF⟩:=HF aE;have aG:=al.rng b.2.1 (by unfold AW;simp);have aH:=al.st;obtain⟨n,hn⟩:=DJ aG.1;obtain⟨k,hk⟩:=DJ aH.1;have an:n<W.ss.length:=(by lia);have aI:k<W.sts.length:=(by lia);refine AZ λM a=>?_;obtain⟨ah,a6,E1,a7,aV,aW,g4,⟨c0,⟨tG,c1,U⟩,_⟩⟩:=N3.sc.get an;refine a ?_;clear a;have ao:=AM aI;have X:B2 W b.2.1=W.ss[n].1:=by rw[hn];exact g0 g4
   have eG:D8 W b.2.2=W.sts[k].1:=by rw[hk];exact JN ao
   have aJ:BW (us.map V.ref) b.2.1=some (.ref ah):=by rw[hn];exact BJ (by rw[Bf,a7];rfl)
   have aq:=N4 (f:=BA W) ak;have aP:=N5 (f:=BA W) (l:=bs) (i+1);rw[aq,AY] at aP;refine⟨_,Aq.of aF,rfl,?_⟩;refine j' (j9 ⟨_,.ref a2,Aq.of (d _ _ eN),rfl,j9 ⟨_,.ref ah,Ai.of (d _ _ N3.sc.top),aJ,j' (j9 ⟨_,.ref a6,Aq.of (d _ _ c0),rfl,⟨_,Ai.of (d _ _ c1)⟩,?_⟩)⟩⟩)
   refine Fz (xs:=tG.map V.ref) (λj σ g=>∃q r u,σ=[some (.ref I),some (.ref A),some (.ref t),some (.ref P),some (.ref D),some x0,some (.int b.2.1),some (.int b.2.2),q,r,u]/\Ad H g/\g D=some (.lst (((bs.take i).flatMap (BA W)++((B2 W b.2.1).take j).flatMap (Gd W b.2.2)).map V.int)))
    ⟨_,_,_,rfl,d,by rw[N,D6];simp⟩ (λj σ g ζ aa=>by obtain⟨_,_,_,_,s,_⟩:=aa;exact Ai.of (s _ _ c1)) ?_ ?_
   rotate_left;refine λσ C y=>AZ λM a=>?_;obtain⟨q,r,u,rfl,c,G⟩:=y;refine a ?_;clear a;refine⟨_,_,_,_,_,_,rfl,c,?_⟩;rw[G,aq,An,U.len,X,Dw,<-X];rfl;refine λj ai σ C hy y=>AZ λM a=>?_;obtain⟨q,r,u,rfl,c,G⟩:=y;refine a ?_;clear a;refine Kj ?_;intro Nx Cy;obtain⟨tp,ar,rfl⟩:=getm hy;have au:j<W.ss[n].1.length:=by rw[<-U.len];exact(Bi.mp ar).1
   have Y:=AM au;have av:=U.at_ j tp _ ar Y;have mp:=Eo au;generalize W.ss[n].1[j]=p at Y av mp;have ab:=N4 (f:=Gd W b.2.2) (show(B2 W b.2.1)[j]?=some p by rw[X];exact Y);have ae:=N5 (f:=Gd W b.2.2) (l:=B2 W b.2.1) (j+1);rw[ab,AY] at ae;have aY:(BA W b).length=((B2 W b.2.1).flatMap (Gd W b.2.2)).length:=rfl
   have skip:¬(p.2.1=i6/\(EK (D8 W b.2.2) p.1).isSome=true)->C D=some (.lst (((bs.take i).flatMap (BA W)++((B2 W b.2.1).take (j+1)).flatMap (Gd W b.2.2)).map V.int)):=λaK=>by
    have:Gd W b.2.2 p=[]:=Ag aK;rw[G,ab,this,DR]
   refine⟨_,Aq.of (c _ _ av),rfl,?_⟩;refine⟨rfl,rfl,At (λz=>?_) (λz=>Bl ?_)⟩;rotate_left;exact⟨_,_,_,rfl,c,skip λh=>z (A5 (by rw[h.1]))⟩;have z:p.2.1=i6:=V.str.inj (Bd z);refine⟨t,a3,o,aB,W.sts,b.2.2,k,_,p.1,rfl,hk,c.seqT b1,⟨a4,c.seq b2,b3.same c⟩,ao,?_⟩;rw[<-eG]
   cases eg:EK (D8 W b.2.2) p.1 with
   |none=>refine⟨rfl,At (λh=>absurd h (by simp[DW])) (λζ=>?_)⟩;exact⟨_,_,_,rfl,c,skip λh=>by rw[eg] at h;cases h.2⟩
   |some af=>
    refine⟨rfl,At (λζ=>?_) (λh=>absurd (by simp[DW]) h)⟩;have aw:Gd W b.2.2 p=p.2.2::HE W.gs W.as p.2.2:=Ap ⟨z,by rw[eg];rfl⟩;have aL:=ok.by_ (Eo an) mp λaj=>by rw[z] at aj;exact absurd aj (by decide +kernel)
    obtain⟨m,B⟩:=DJ aL.1;have O:m<W.as.length:=(by lia);have ax:=Jn (gs:=W.gs) (AM O);rw[aw,CV] at ae;have Q:Ad H (upd C D (.lst (((bs.take i).flatMap (BA W)++((B2 W b.2.1).take j).flatMap (Gd W b.2.2)).map V.int++[.int p.2.2]))):=λai o e=>by rw[AI (Be e L)];exact c _ _ e
    have ag:(upd C D (.lst (((bs.take i).flatMap (BA W)++((B2 W b.2.1).take j).flatMap (Gd W b.2.2)).map V.int++[.int p.2.2]))) D=some (.lst (((bs.take i).flatMap (BA W)++((B2 W b.2.1).take j).flatMap (Gd W b.2.2)).map V.int++[.int p.2.2])):=Ab;refine⟨j9 ⟨rfl,_,Ai.of G⟩,_,G,by rw[An,AY];exact MR (by lia),?_⟩;generalize upd C D (.lst (((bs.take i).flatMap (BA W)++((B2 W b.2.1).take j).flatMap (Gd W b.2.2)).map V.int++[.int p.2.2]))=H4 at Q ag ⊢;obtain⟨ay,Z,aM,aN,hc⟩:=(J.same Q).ans.get O;have aQ:BW ay p.2.2=some Z:=by rw[B];exact BJ aN
    refine⟨j9 ⟨rfl,_,Ai.of ag⟩,j9 ⟨ay,Z,aM,aQ,I,A,t,W,Z,W.as[m],rfl,J.same Q,?_,λpp e E=>ok.net.t pp (by rw[<-e];exact Eo O) E,λD2 H5 aZ s5 aO=>?_⟩⟩;rw[AM O] at hc;rcases hc with⟨e1,E⟩|⟨pp,ta,e1,E,e3⟩;exact .inl ⟨BU e1,E⟩;exact .inr ⟨pp,ta,BU e1,E,e3⟩;refine⟨D,D2,_,_,rfl,rfl,s5 _ _ ag,aO,?_,?_⟩;have:=LQ W.gs W.as[m];rw[B,ax] at ae;rw[AY,An,An,AY,FM];exact CT (MR (by lia));refine⟨_,_,_,rfl,λai o e=>?_,?_⟩;rw[AI (Be e L)];exact s5 _ _ (Q _ _ e);rw[Ab,ab,aw,B,ax];simp
inductive CS (K:Aj) (vs:S') (H:Hp) (Q:VK):Prop where
 |mk (nt A t:Addr) (W:Wd) (v:V) (F:Addr->Prop) (ws:List (List Au)) (h0:vs=[.ref nt,v]) (h1:Bm K H nt A t W) (h2:AL F H v (.lst (ws.map Bn.D))) (h3:(∀w∈ws,DY W.ss w)) (h4:(ws.flatMap (F5 W.ss)).length<=4000) (h5:∀(D:Addr)(H':Hp),H D=none->Ad H H'->H' D=some (.lst ((ws.flatMap (F5 W.ss)).map V.int))->Q (.ref D) H'):CS K vs H Q
def g9 (K:Aj):Sp:=λvs H Q ζ=>CS K vs H Q
abbrev Tl(P w K mg base):=BG P w K mg base "of_tellings" 2 ["net", "found"] (g9 K)
def hE(ah:BH mg)(ab:Oy P w K mg base)(F:Bt K "of_tellings" "of_tellings" Q3 f fd)(hm:mg "of_tellings" = some (.ref f)):Tl P w K mg base:=by
 refine BZ F hm L5 (λvs H Q E h=>?_) (λaj A al s H vs Q E hr h=>?_);obtain⟨g,A,t,W,v,F,j,rfl,_⟩:=h;rfl
 . obtain⟨g,A,t,W,v,F,j,rfl,hC,hv,he,hl,q⟩:=h
   obtain⟨S,T,R,us,Gs,Es,ts,qt,qs,eN,N3⟩:=hC.net;obtain⟨P,wv,rfl,I,J⟩:=PM hv
   refine⟨_,(Al (AU (i:=2) L5.nd (A1 Ac))
    (Al (Dq C0 rfl (Dy (pv 1)) (Ar (i:=3) L5.nd) (Al (Cf (AV ab (Aa (pv 0) (Aa (AB AC (pv 3) (Ms Mu Ah)) Ac))) (BO (n:=4) rfl (Az (Ar (i:=4) L5.nd) (Az (Ar (i:=5) L5.nd) (Az (Ar (i:=6) L5.nd) (Az (Ar (i:=7) L5.nd) BN))))))
     (Ax (A8 (Bx B0 (pv 6) AH (Bs _)) (Ax (E8 (EJ E6 Gi Gj Gv (pv 2) (Aa (pv 7) Ac)))) A7))))
    (Ax (AJ (pv 2))))),?_⟩
   rfl';refine⟨by decide,λD k=>?_⟩;obtain⟨ai,ae,L,af⟩:=new_at (o:=.lst []) k;rw[<-ae]
   refine⟨⟨_,Ai.of (L _ _ I)⟩,Fz (xs:=wv) (λi σ p=>∃r u y z B,σ=[some (.ref g),some (.ref P),some (.ref D),r,u,y,z,B]/\Ad H p/\p D=some (.lst (((j.take i).flatMap (F5 W.ss)).map V.int)))
    ⟨none,none,none,none,none,rfl,L,by rw[af,D6];rfl⟩ (λi σ p ζ ag=>by obtain⟨_,_,_,_,_,_,s,_⟩:=ag;exact Ai.of (s _ _ I)) ?_ ?_⟩
   rotate_left;refine λσ Z G=>AZ λM a=>?_;obtain⟨r,u,y,z,B,rfl,c,d⟩:=G;refine a ?_;clear a;rw[J.length,An,Dw] at d;exact q D _ k c d;refine λi x σ Z hx G=>AZ λM a=>?_;obtain⟨r,u,y,z,B,rfl,c,d⟩:=G;refine a ?_;clear a;obtain⟨w,N,O⟩:=MQ (J.same c) hx;have ew:=he w (Bq N);obtain⟨vv,m,U,mo,aa⟩:=ew;rw[U] at O;refine AZ λM a=>?_;obtain⟨l,ms,mk,rfl,l1,l2,l3⟩:=Jo O;refine a ?_;clear a;have et:Ki W.ss m=DL W.ss w:=(by rw[U,NW]);have ak:=N5 (f:=F5 W.ss) (l:=j) i;have X:=N4 (f:=F5 W.ss) N;refine j9 ⟨_,.ref mk,Ai.of l1,l2,g,S,T,R,mk,us,Gs,Es,W.ss,m,rfl,Aq.of (c _ _ eN),N3.sc.same c,Aq.of l3,mo,aa,λtp Y=>?_⟩;rw[et] at Y;refine⟨_,Aq.of Y,rfl,?_⟩;refine⟨rfl,rfl,At (λh=>?_) (λh=>?_)⟩;have C:(DL W.ss w).2.2.1=i6:=V.str.inj (Bd h);refine⟨j9 ⟨rfl,_,Ai.of d⟩,_,d,by rw[An];exact MR (by lia),?_⟩;refine⟨_,_,_,_,_,rfl,λb o e=>?_,?_⟩;rw[AI (Be e k)];exact c _ _ e;rw[Ab,X,Bh];unfold F5;rw[Ap C];rfl;have C:(DL W.ss w).2.2.1≠i6:=λe=>h (A5 (by rw[e]));refine⟨_,_,_,_,_,rfl,c,?_⟩;rw[d,X];have:F5 W.ss w=[]:=Ag C;rw[this,DR]
inductive Cp (K:Aj) (vs:S') (H:Hp) (Q:VK):Prop where
 |mk (nt A t L T:Addr) (F:Addr->Prop) (W:Wd) (lv:S') (ls:W') (ts:E') (h0:vs=[.ref nt,.ref A,.ref t,.ref L,.ref T]) (h1:Bm K H nt A t W) (h2:Cj W) (h3:H L=some (.lst lv)) (h4:Am F H lv (ls.map Jg)) (h5:(∀l∈ls,Jp W l)) (h6:H T=some (.lst (ts.map V.int))) (h7:(∀n∈ts,0<=n/\n<W.gs.length)) (h8:(Bu W ls ts).length<=4000) (h9:(∀q∈Bu W ls ts,0<=q/\q<((40:Nat):Int))) (h10:∀(D:Addr)(us:E')(H':Hp),H D=none->Ad H H'->H' D=some (.lst (us.map V.int))->(∀q,q∈us↔q∈Bu W ls ts)->us.Pairwise (· < ·)->Q (.ref D) H'):Cp K vs H Q
def hH (K:Aj):Sp:=λvs H Q ζ=>Cp K vs H Q
abbrev To(P w K mg base):=BG P w K mg base "questions_of" 4 ["net", "answers", "table", "looks", "things"] (hH K)
theorem hJ(B:BH mg)(aq:Tk P w K mg base)(ar:Tl P w K mg base)(au:Qm P w K mg base)(F:Bt K "questions_of" "questions_of" Q4 f fd)(O:mg "questions_of" = some (.ref f)):To P w K mg base:=by
 refine BZ F O MV (λvs H ai aj h=>?_) (λa6 A aA s H vs ai aj hr h=>?_);obtain⟨m,A,t,L,T,F,W,lv,a,p,rfl,_⟩:=h;rfl;obtain⟨m,A,t,L,T,F,W,lv,a,p,rfl,Q,ok,eL,S,av,eT,aw,N,ax,ak⟩:=h;have a7:(a.flatMap (ES W)).length<=4000:=by unfold Bu at N;rw[AY] at N;lia
 refine⟨_,(Al (AU (i:=5) MV.nd (A1 Ac))
  (Al (Dq C0 rfl (Dy (pv 3)) (BO (n:=3) rfl (Az (Ar (i:=6) MV.nd) (Az (Ar (i:=7) MV.nd) (Az (Ar (i:=8) MV.nd) BN)))) (Al (E8 (EJ E6 PySem.F.slot_list_extend PySem.F.type_list_extend ME (pv 5) (Aa (AV aq (Aa (pv 0) (Aa (pv 1) (Aa (pv 2) (Aa (pv 6) Ac))))) Ac)))
   (Ax (E8 (EJ E6 PySem.F.slot_list_extend PySem.F.type_list_extend ME (pv 5) (Aa (AV ar (Aa (pv 0) (Aa (pv 7) Ac))) Ac))))))
  (Al (Dq C0 rfl (Dy (pv 4)) (Ar (i:=9) MV.nd) (Ax (E8 (EJ E6 PySem.F.slot_list_extend PySem.F.type_list_extend ME (pv 5) (Aa (AV au (Aa (pv 0) (Aa (pv 9) Ac))) Ac)))))
  (Ax (AJ (CZ (Zg rfl) B.b_sorted (Aa (Mw (Zf rfl) B.b_set (Aa (pv 5) Ac)) Ac))))))),?_⟩
 rfl';refine⟨by decide,λD hD=>?_⟩;obtain⟨a5,ay,s1,az⟩:=new_at (o:=.lst []) hD;rw[<-ay];have R:∀{c:Hp}{zs:S'},Ad H c->Ad H (upd c D (.lst zs)):=λs b o e=>by rw[AI (Be e hD)];exact s _ _ e
 refine⟨⟨_,Ai.of (s1 _ _ eL)⟩,Fz (xs:=lv) (λi σ c=>∃E G I q,σ=[some (.ref m),some (.ref A),some (.ref t),some (.ref L),some (.ref T),some (.ref D),E,G,I,q]/\Ad H c/\c D=some (.lst (((a.take i).flatMap (ES W)).map V.int)))
  ⟨none,none,none,none,rfl,s1,by rw[az,D6];rfl⟩ (λi σ c ζ U=>by obtain⟨_,_,_,_,_,s,_⟩:=U;exact Ai.of (s _ _ eL)) ?_ ?_⟩
 refine λi x σ al J X=>AZ λNz g=>?_;obtain⟨E,G,I,q,rfl,r,v⟩:=X;refine g ?_;clear g;obtain⟨l,Y,a0⟩:=MQ (S.same r) J;have ab:=av l (Bq Y);refine AZ λNz g=>?_;obtain⟨an,x1,x2,x3,rfl,er,h1,h2,_⟩:=N1 a0;refine g ?_;clear g;have z:=N4 (f:=ES W) Y;have Z:=N5 (f:=ES W) (l:=a) (i+1);rw[z,AY] at Z;have hq:(ES W l).length=(l.1.flatMap (BA W)).length+(l.2.1.flatMap (F5 W.ss)).length:=by unfold ES;rw[AY]
 refine⟨_,Aq.of er,rfl,?_⟩;refine⟨j9 ⟨rfl,_,Ai.of v⟩,m,A,t,W,x1,F,l.1,rfl,Q.same r,ok,h1,ab.bo,by lia,λy u M d k=>?_⟩;refine⟨D,y,_,_,rfl,rfl,d _ _ v,k,by rw[An,An];exact CT (MR (by lia)),?_⟩;have j:=R (zs:=((a.take i).flatMap (ES W)).map V.int++(l.1.flatMap (BA W)).map V.int) (r.trans d);have C:(upd u D (.lst (((a.take i).flatMap (ES W)).map V.int++(l.1.flatMap (BA W)).map V.int))) D=some (.lst (((a.take i).flatMap (ES W)).map V.int++(l.1.flatMap (BA W)).map V.int)):=Ab
 have ae:AL F (upd u D (.lst (((a.take i).flatMap (ES W)).map V.int++(l.1.flatMap (BA W)).map V.int))) x2 (.lst (l.2.1.map Bn.D)):=by
  obtain⟨r',y1,y2,y3,e',af,_,a1,_⟩:=N1 ((MQ (S.same j) J).elim λl' h=>by
   have:l'=l:=BU (h.1.symm.trans Y);rw[this] at h;exact h.2)
  have:an=r':=V.ref.inj e';subst this;have a2:=(Keeps.one (H:=u) (o:=.lst (((a.take i).flatMap (ES W)).map V.int++(l.1.flatMap (BA W)).map V.int)) (d _ _ v)).tup (d _ _ er);rw[a2] at af;have e2:=HO.tup.inj (BU af);cases e2;exact a1
 generalize upd u D (.lst (((a.take i).flatMap (ES W)).map V.int++(l.1.flatMap (BA W)).map V.int))=H4 at j C ae ⊢;refine⟨j9 ⟨rfl,_,Ai.of C⟩,m,A,t,W,x2,F,l.2.1,rfl,Q.same j,ae,ab.en,by lia,λD3 H5 a8 s5 a3=>?_⟩;refine⟨D,D3,_,_,rfl,rfl,s5 _ _ C,a3,by rw[AY,An,An,An];exact CT (MR (by lia)),?_⟩;refine⟨_,_,_,_,rfl,R (j.trans s5),?_⟩;rw[Ab,z];unfold ES;rw[Bh,Bh,Fv];refine λσ al X=>AZ λNz g=>?_;obtain⟨E,G,I,q,rfl,r,v⟩:=X;refine g ?_;clear g;rw[S.length,An,Dw] at v
 refine⟨⟨_,Ai.of (r _ _ eT)⟩,Fz (xs:=p.map V.int) (λi σ c=>∃q,σ=[some (.ref m),some (.ref A),some (.ref t),some (.ref L),some (.ref T),some (.ref D),E,G,I,q]/\Ad H c/\c D=some (.lst ((a.flatMap (ES W)++(p.take i).flatMap (Ft W.gs)).map V.int)))
  ⟨_,rfl,r,by rw[v,D6];simp⟩ (λi σ c ζ U=>by obtain⟨_,_,s,_⟩:=U;exact Ai.of (s _ _ eT)) ?_ ?_⟩
 rintro i x σ u J ⟨q,rfl,d,k⟩;obtain⟨n,ag,rfl⟩:=getm J;have z:=N4 (f:=Ft W.gs) ag;have Z:=N5 (f:=Ft W.gs) (l:=p) (i+1);rw[z,AY] at Z;have ah:=N;unfold Bu at ah;rw[AY] at ah;refine⟨j9 ⟨rfl,_,Ai.of k⟩,m,A,t,W,n,rfl,Q.same d,aw n (Bq ag),λy H4 M j C=>?_⟩;refine⟨D,y,_,_,rfl,rfl,j _ _ k,C,by rw[An,An,AY];exact CT (MR (by lia)),?_⟩;refine⟨_,rfl,R (d.trans j),?_⟩;rw[Ab,z];simp;rintro σ u ⟨a9,rfl,d,k⟩;rw[An,Dw] at k;refine⟨D,Bu W a p,rfl,Ai.of k,N,λao hz=>?_⟩;refine⟨ao,Bu W a p,rfl,Ab,λds hd hs=>?_,λy ms a4 O M=>?_⟩;have:=Jr hd λaa hy=>ax aa (hs aa hy);lia;exact ak y ms _ (d.free ((A9 hz).free M)) ((d.trans (A9 hz)).trans (A9 M)) Ab O a4
inductive HP (K:Aj) (vs:S') (H:Hp) (Q:VK):Prop where
 |mk (nt A t:Addr) (F:Addr->Prop) (W:Wd) (qs:V') (inn:Int) (ord:A') (n:Int) (k:Nat) (q:Qu) (h0:vs=[.ref nt,.ref A,.ref t,.int n]) (h1:n=k) (h2:qs[k]?=some q) (h3:LC K F H nt A t W qs inn ord) (h4:NX W qs inn ord) (h5:(∀(a:C')(w:Option Wt)(ls:W')(ts:E'),LU W inn ord q.1 q.2.1 q.2.2 0 a w ls ts->(Bu W ls ts).length<=4000)) (h6:W.as.length<=40) (h7:∀(D:Addr)(us:E')(a:C')(w:Option Wt)(ls:W')(ts:E')(H':Hp),H D=none->Ad H H'->LU W inn ord q.1 q.2.1 q.2.2 0 a w ls ts->H' D=some (.lst (us.map V.int))->(∀q,q∈us↔q∈Bu W ls ts)->us.Pairwise (· < ·)->Q (.ref D) H'):HP K vs H Q
def JO (K:Aj):Sp:=λvs H Q ζ=>HP K vs H Q
abbrev Qn(P w K mg base):=BG P w K mg base "used" 8 ["net", "answers", "table", "question"] (JO K)
def hK(ai:BH mg)(aa:M0 P w K mg base)(ab:To P w K mg base)(F:Bt K "used" "used" Q5 f fd)(e:mg "used" = some (.ref f)):Qn P w K mg base:=by
 refine BZ F e Oi (λC H Q E h=>?_) (λaq A au s H C Q E hr h=>?_);obtain⟨g,A,t,F,W,p,y,ord,n,k,q,rfl,_⟩:=h;rfl;obtain⟨g,A,t,F,W,p,y,ord,n,k,q,rfl,rfl,j,c,ok,G,hA,I⟩:=h;obtain⟨aj,T,R,us,Gs,Es,l,b,J,m⟩:=c.net;have ae:k<p.length:=(Bi.mp j).1;have af:k<b.length:=by rw[m.tq.len];exact ae
 have z:=AM af;obtain⟨u,eq,M⟩:=m.tq.at_ k _ q z j;have ag:BW (b.map V.ref) (k:Int)=some (.ref b[k]):=BJ (by rw[Bf,z];rfl);obtain⟨r,v,N,O⟩:=ok.q q (Bq j)
 refine⟨_,(Al (Cf (AV aa (Aa (pv 0) (Aa (pv 1) (Aa (pv 2) (Aa (AB AC (AB AC (pv 0) Ah) (pv 3)) Ac))))) (BO (n:=4) rfl (Az (Ar (i:=4) Oi.nd) (Az (Ar (i:=5) Oi.nd) (Az (Ar (i:=6) Oi.nd) (Az (Ar (i:=7) Oi.nd) BN))))))
  (Ax (AJ (AV ab (Aa (pv 0) (Aa (pv 1) (Aa (pv 2) (Aa (pv 6) (Aa (pv 7) Ac))))))))),?_⟩
 rfl';refine j' (j9 ⟨_,.ref R,Aq.of J,rfl,j9 ⟨_,.ref b[k],Ai.of m.er,ag,g,A,t,b[k],u,F,W,y,ord,q,rfl,c.caseH,c.tab,ok.ok,ok.sm,ok.ol,ok.irr,ok.inn,eq,M,r,v,N,O,λak L T av wv lv a w x l al o S hL U X ha hw ah d=>?_⟩⟩);refine⟨_,Aq.of S,rfl,?_⟩;obtain⟨B,Y,ar⟩:=VH ok.ok ok.sm ok.inn d r v;have l8:=Hz d;refine⟨g,A,t,L,T,_,W,lv,x,l,rfl,c.caseH.same o,ok.ok,U,ah,B,X,Y,G _ _ _ _ d,λan Z=>?_,λD us ao hD s2 eD e hp=>I D us a w x l _ (o.free hD) (o.trans s2) d eD e hp⟩;have:=Jq ok.ok ok.sm B Z;lia
theorem Tp:∀{l m:E'},l.Pairwise (· < ·)->m.Pairwise (· < ·)->(∀y,y∈l ↔ y∈m)->l=m
 |[],[],_,_,_=>rfl
 |[],b::m,_,_,h=>by have:=(h b).mpr BS;cases this
 |a::l,[],_,_,h=>by have:=(h a).mp BS;cases this
 |a::l,b::m,p,q,h=>by
   obtain⟨c,J⟩:=List.pairwise_cons.mp p;obtain⟨d,f⟩:=List.pairwise_cons.mp q;have e:a=b:=(by rcases BB.mp ((h a).mp BS) with z|z;exact z;rcases BB.mp ((h b).mpr BS) with y|y;exact y.symm;have g:=d a z;have i:=c b y;lia);subst e;rw[Tp J f λy=>⟨λz=>?_,λz=>?_⟩];rcases BB.mp ((h y).mp (Du _ z)) with e|e;have:=c y z;lia;exact e;rcases BB.mp ((h y).mpr (Du _ z)) with e|e;have:=d y z;lia;exact e
theorem Mf(n:Nat):∀a:C',Dn (n+2) (Bb a)
 |none=>True.intro
 |some p=>λd hd=>by rcases BB.mp hd with rfl|hd;exact True.intro;rw[AX.mp hd];exact True.intro
def HQ(n:Nat)(w:List Au):Dn (n+3) (Bn.D w):=λd hd=>by obtain⟨m,_,rfl⟩:=AN.mp hd;intro e a;rcases BB.mp a with rfl|a;exact True.intro;rcases BB.mp a with rfl|a;exact True.intro;rw[AX.mp a];exact True.intro
theorem JP(n:Nat):∀w:Option Wt,Dn (n+4) (Hx w)
 |none=>True.intro
 |some p=>λd hd=>by rcases BB.mp hd with rfl|hd;exact True.intro;rcases BB.mp hd with rfl|hd;exact HQ n p.2.1;rw[AX.mp hd];exact True.intro
def HR(a:C')(w:Option Wt):Dn 8 (.tup [Bb a,Hx w]):=λd hd=>by rcases BB.mp hd with rfl|hd;exact Mf 5 a;rw[AX.mp hd];exact JP 3 w
def HS(ls:W'):Dn 8 (.lst (ls.map LG)):=λd hd=>by
 obtain⟨l,_,rfl⟩:=AN.mp hd
 exact λd hd=>by
  obtain⟨v,_,rfl⟩:=AN.mp hd;exact HQ 3 v
def Qo(ws:E'):Dn 8 (.lst (ws.map Dt.int)):=λd hd=>by obtain⟨o,_,rfl⟩:=AN.mp hd;exact True.intro
theorem Ww:∀(l:I'),l.length=2->l.Nodup->∀z:Int,z=0\/z=1->l.getD (1-z).toNat default≠l.getD z.toNat default
 |[a,b],_,d,z,hz=>by have c:a≠b:=λe=>(Fh.mp d).1 (by rw[e];exact BS);rcases hz with rfl|rfl;exact Ne.symm c;exact c
section
variable (ns:E')
abbrev Mg:Wd:=⟨EW ns (dn ns),Ff ns (dn ns),EV ns (dn ns),JE ns⟩
def Wx (j:Nat):Nat:=(Ku (FW ns) (Fe ns) (D9 ns j) (dC ns j) (dp ns j)).length
theorem HU:∀n,n<=8->∀j,j<n->(EW ns n)[GD ns j]?=some ([],MY ns j)
 |0,_,j,h=>absurd h (Nat.not_lt_zero _)
 |n+1,a,j,h=>by unfold EW;by_cases e:j=n;subst e;rw[o8 (by rw[SX];unfold GD;lia)];rw[n8 (by unfold GD;lia)];exact HU n (by lia) j (by lia)
theorem Qp:∀n,∀s∈EW ns n,s=([],[])\/∃j,j<n/\s=([],MY ns j)
 |0,s,a=>.inl (List.eq_of_mem_replicate a)
 |n+1,s,a=>by unfold EW at a;rcases List.mem_or_eq_of_mem_set a with h|h;rcases Qp n s h with h|⟨j,b,h⟩;exact .inl h;exact .inr ⟨j,by lia,h⟩;exact .inr ⟨n,by lia,h⟩
theorem HV:∀n,n<=6->∀j,j<n->(Ff ns n)[(dT ns j).toNat]?=some (EU ns j).b0/\(Ff ns n)[(dU ns j).toNat]?=some (EU ns j).b1
 |0,_,j,h=>absurd h (Nat.not_lt_zero _)
 |n+1,f,j,h=>by
   unfold Ff;have a:(dT ns n).toNat<(Ff ns n).length:=by rw[Oq];unfold dT;lia
   have b:(dU ns n).toNat<((Ff ns n).set (dT ns n).toNat (EU ns n).b0).length:=by rw[Er,Oq];unfold dU;lia
   have ne:(dU ns n).toNat≠(dT ns n).toNat:=by unfold dU dT;lia
   by_cases e:j=n;subst e;exact⟨by rw[n8 ne,o8 a],by rw[o8 b]⟩;obtain⟨c,d⟩:=HV n (by lia) j (by lia);exact⟨by rw[n8 (by unfold dU dT;lia),n8 (by unfold dT;lia)];exact c,by rw[n8 (by unfold dU;lia),n8 (by unfold dU dT;lia)];exact d⟩
theorem HW:∀n,n<=6->∀j,j<n->(EV ns n)[(dQ ns j).toNat]?=some (EU ns j).k0/\(EV ns n)[(dR ns j).toNat]?=some (EU ns j).k1
 |0,_,j,h=>absurd h (Nat.not_lt_zero _)
 |n+1,f,j,h=>by
   unfold EV;have a:(dQ ns n).toNat<(EV ns n).length:=by rw[MZ];unfold dQ;lia
   have b:(dR ns n).toNat<((EV ns n).set (dQ ns n).toNat (EU ns n).k0).length:=by rw[Er,MZ];unfold dR;lia
   have ne:(dR ns n).toNat≠(dQ ns n).toNat:=by unfold dR dQ;lia
   by_cases e:j=n;subst e;exact⟨by rw[n8 ne,o8 a],by rw[o8 b]⟩;obtain⟨c,d⟩:=HW n (by lia) j (by lia);exact⟨by rw[n8 (by unfold dR dQ;lia),n8 (by unfold dQ;lia)];exact c,by rw[n8 (by unfold dR;lia),n8 (by unfold dR dQ;lia)];exact d⟩
def Mh(j:Nat):Ca ns j=GD ns j:=by unfold Ca DZ GD;lia
def Kx(j:Nat):FS (Mg ns) (D9 ns j)=[GF ns j]:=by unfold FS GF;rcases SV ns j with h|h<;>rw[h]<;>rfl
def OB:∀y,(y,y)∉De ns:=λy h=>by have h:=AX.mp (List.mem_of_mem_take h);have a:=By Prod.fst h;have b:=By Prod.snd h;exact Ww (FW ns) (MW _ _) (SN (by decide)) 0 (.inl rfl) (b.symm.trans a)
def Tq:Fg (Mg ns) (F7 ns) (De ns) ns (AS ns 4%2) (dP ns) (Wx ns):=by
 have ⟨q,f⟩:=MX ns;have C:=Oo ns;refine⟨λs l=>?_,OB ns,λj x g=>?_,λj a=>?_⟩;rcases Qp ns _ s l with rfl|⟨j,_,rfl⟩<;>rfl;have a:j<dn ns:=by have:=(Bi.mp g).1; lia
 have ex:dp ns j=x:=by show(dP ns).getD j default=x;rw[Dv,g];rfl
 have k:Mb (AS ns 4%2) (F7 ns) j=D9 ns j:=rfl;refine⟨GF ns j,Ku (FW ns) (Fe ns) (D9 ns j) (dC ns j) (dp ns j),rfl,?_,λp c=>?_,?_⟩;rw[Mh,<-ex];exact HU ns _ (by lia) j a;rw[k,Kx];rintro⟨b,d⟩;have c:=List.mem_of_mem_take c;rcases BB.mp c with e|c;rw[e,<-ex] at b;have r:=Wi ns a;have h:(dC ns j%2).toNat<(ET (Fe ns) (dp ns j)).length:=(by lia);have m:(ET (Fe ns) (dp ns j)).getD (dC ns j%2).toNat default∈ET (Fe ns) (dp ns j):=(by rw[Dv,AM h];exact Eo h);have i:=(Mk.mp m).2;have b:(ET (Fe ns) (dp ns j)).getD (dC ns j%2).toNat default=dp ns j:=b;rw[b,A5 rfl] at i;exact Ce i;rw[AX.mp c] at d;exact Ww (FW ns) (MW _ _) (SN (by decide)) _ (SV ns j) (AX.mp d);rw[k,Kx];exact BS;have a:j<dn ns:=(by lia);obtain⟨b,d⟩:=HV ns _ f j a;obtain⟨n,o⟩:=HW ns _ f j a;exact⟨by unfold dT dU;lia,b,d,n,o⟩
end
abbrev Ky (a:EF):Prop:=∀p,a=some p->p.1=f'->0<=p.2/\p.2<12
abbrev OC (g:Str×Int):Prop:=(g.1=f'/\0<=g.2/\g.2<12)\/(g.1=i6/\0<=g.2/\g.2<13)
def hQ{g:Str×Int}{l:J'}(h:OC g)(k:∀y∈l,OC y):∀y∈g::l,OC y:=λy a=>by rcases BB.mp a with rfl|a;exact h;exact k y a
structure Wz (l:Ij):Prop where
 b0:Hk 8 13 l.b0
 b1:Hk 8 13 l.b1
 k0:Ky l.k0
 k1:Ky l.k1
 ms:∀g∈l.ms,OC g
def Mi{k t u q r a:Int}(c:0<=t/\t<12)(d:0<=u/\u<12)(b:0<=q/\q<13)(o:0<=r/\r<13)(n:0<=a/\a<8):Wz (DH k t u q r a):=by
 have f:Ky none:=λp e=>by cases e
 have i:Ky (some ("none",0)):=λp e h=>by cases e;exact absurd h (by decide +kernel)
 have j:Ky (some ("torn",0)):=λp e h=>by cases e;exact absurd h (by decide +kernel)
 have l:Ky (some ("thing",t)):=λp e h=>by cases e;exact c
 have m:Ky (some ("thing",u)):=λp e h=>by cases e;exact d
 have s:∀g∈([]:J'),OC g:=λg h=>by cases h
 unfold DH LW
 repeat' split
 all_goals
  refine⟨?_,?_,?_,?_,?_⟩
  first|exact .inl ⟨rfl,rfl⟩|exact .inr (.inl ⟨rfl,n⟩)|exact .inr (.inr ⟨rfl,b⟩)
  first|exact .inl ⟨rfl,rfl⟩|exact .inr (.inl ⟨rfl,n⟩)|exact .inr (.inr ⟨rfl,b⟩)
  first|exact f|exact i|exact j|exact l|exact m
  first|exact f|exact i|exact j|exact l|exact m
  repeat first|exact s|exact .inl ⟨rfl,c⟩|exact .inl ⟨rfl,d⟩|exact .inr ⟨rfl,b⟩|exact .inr ⟨rfl,o⟩|refine hQ ?_ ?_
section
variable (ns:E')
def OD(j:Nat):Wz (EU ns j):=
 Mi ⟨Et _ (by decide),Fi _ (by decide)⟩ ⟨Et _ (by decide),Fi _ (by decide)⟩ ⟨Et _ (by decide),Fi _ (by decide)⟩ ⟨Et _ (by decide),Fi _ (by decide)⟩ ⟨Et _ (by decide),Fi _ (by decide)⟩
theorem HX:∀n,∀p∈Ff ns n,Hk 8 13 p
 |0,p,a=>by rw[List.eq_of_mem_replicate a];exact .inl ⟨rfl,rfl⟩
 |n+1,p,a=>by unfold Ff at a;rcases List.mem_or_eq_of_mem_set a with h|h;rcases List.mem_or_eq_of_mem_set h with h|h;exact HX n p h;rw[h];exact(OD ns n).b0;rw[h];exact(OD ns n).b1
theorem HY:∀n,∀p∈EV ns n,Ky p
 |0,p,a=>by rw[List.eq_of_mem_replicate a];exact λp e=>by cases e
 |n+1,p,a=>by unfold EV at a;rcases List.mem_or_eq_of_mem_set a with h|h;rcases List.mem_or_eq_of_mem_set h with h|h;exact HY n p h;rw[h];exact(OD ns n).k0;rw[h];exact(OD ns n).k1
def JQ(j:Nat):(MY ns j).length<=4:=by unfold MY;rw[AY,An];have a:=Wk (FW ns) (Fe ns) (D9 ns j) (dC ns j) (dp ns j);have b:(EU ns j).ms.length<=2:=Wj (FH ns j) (dT ns j) (dU ns j) (dQ ns j) (dR ns j) (DZ ns j);lia
theorem WA{α:Type}{f:α->E'}(h:∀x,(f x).length<=1):∀l:List α,(l.flatMap f).length<=l.length
 |[]=>AK _
 |x::l=>by rw[List.flatMap_cons,AY,CV];have:=h x;have:=WA h l;lia
def Qq{l:Lk}{c:X'}(a:∀s∈W.ss,s.1=[])(d:∀x sc st,(DF W x [([],sc,st)]).length<=4)(h:C7 W ord sc st x l c):(ES W l).length<=4:=by
 have b:=VO a h.b;have g:=h.f.perm.length_eq;have i:=d x sc st;rw[b] at g
 have e:BA W ([],sc,st)=[]:=by
  unfold BA B2;dsimp only;cases e:W.ss[sc.toNat]? with|none=>rfl|some s=>show s.1.flatMap (Gd W st)=[];rw[a s (Bq e)];rfl
 unfold ES;rw[b,List.flatMap_cons,List.flatMap_nil,e,DR,List.nil_append];have:=WA (f:=F5 W.ss) (λw=>by unfold F5;split<;>exact Tr rfl) l.2.1;lia
set_option tactic.hygienic true in
def WB{inn:Int}(b:∀s∈W.ss,s.1=[])(c:∀x sc st,(DF W x [([],sc,st)]).length<=4){P:I'}{at_:Int}{a:C'}{w:Option Wt}{ls:W'}{ts:E'}(h:LU W inn ord sc st P at_ a w ls ts):(Bu W ls ts).length<=5*P.length:=by
 have d:∀n,(Ft W.gs n).length<=1:=λn=>by
  unfold Ft;split;split<;>exact Tr rfl;exact Dp _
 unfold Bu;rw[AY]
 induction h with
 |stop h e n=>have:=Qq b c h;rw[List.flatMap_cons,List.flatMap_nil,List.flatMap_nil,DR,CV,GI];lia
 |opn h e i=>
   rename_i n q w;have:=Qq b c h;have:=d n;rw[List.flatMap_cons,List.flatMap_nil,List.flatMap_cons,List.flatMap_nil,DR,DR,CV,CV];lia
 |no h e i=>
   rename_i n q w;have:=Qq b c h;have:=d n;rw[List.flatMap_cons,List.flatMap_nil,List.flatMap_cons,List.flatMap_nil,DR,DR,CV,CV];lia
 |go h e i k f=>
   rename_i n q w g a ls ts;have:=Qq b c h;have:=d n;rw[CV] at f ⊢;rw[List.flatMap_cons,List.flatMap_cons,AY,AY,CV];lia
set_option tactic.hygienic true in
def OE(x:Str)(sc st:Int):(DF (Mg ns) x [([],sc,st)]).length<=4:=by unfold DF;rw[List.flatMap_cons,List.flatMap_nil,DR];refine Ea (US _ _ _ _ _) ?_;unfold FD;split;rename_i s a;rcases Qp ns _ s (Bq a) with rfl|⟨j,_,rfl⟩;exact Dp _;exact JQ ns j;exact Dp _
def OF:NX (Mg ns) (FI ns) (F7 ns) (De ns):=by have ⟨t,z⟩:=MX ns;have D:=Tq ns;have d:=D.h0;have f:(EW ns (dn ns)).length=8:=SX ns _;have i:(Ff ns (dn ns)).length=12:=Oq ns _;have l:(EV ns (dn ns)).length=13:=MZ ns _;refine⟨⟨by show(EW ns (dn ns)).length<=100;lia,(λs c=>by rw[d s c];exact Dp _),(λs c p a=>by rw[d s c] at a;cases a),λp a=>?_,λp a e=>?_,λs c p a=>?_,λsc st F ζ ζ u v=>?_⟩,⟨λs c p a=>?_,λx sc st bs ζ ζ m=>?_,λsc st bs ζ ζ m=>?_⟩,?_,D.irr,⟨Et _ (by decide),Fi _ (by decide)⟩,λq n=>?_⟩;show Hk (EW ns (dn ns)).length (EV ns (dn ns)).length p;rw[f,l];exact HX ns _ p a;show 0<=p.2/\p.2<((Ff ns (dn ns)).length:Int);rw[i];exact HY ns _ _ a p rfl e;have c:s=([],[JC ns])\/s=([],[JD ns]):=(by simpa using c);rcases c with rfl|rfl<;>cases a;have:=u.length_le_of_subset (l₂:=[([],sc,st)]) λb w=>AX.mpr (SD d (v b w));exact Ea this (by show 1<=62;decide);show Ls (Ff ns (dn ns)).length (EV ns (dn ns)).length p;rw[i,l];rcases Qp ns _ s c with rfl|⟨j,_,rfl⟩;cases a;rcases BI.mp a with h|h;have h:=List.mem_of_mem_take h;rcases BB.mp h with rfl|h;exact .inl ⟨rfl,Et _ (by decide),Fi _ (by decide)⟩;rw[AX.mp h];exact .inl ⟨rfl,Et _ (by decide),Fi _ (by decide)⟩;obtain⟨g,y,rfl⟩:=AN.mp h;exact(OD ns j).ms g y;rw[VO d m];exact Ea (OE ns x sc st) (by decide);rw[VP d];exact Dp _;exact Ea (by rw[Dx];exact Nat.min_le_right _ _) (by show 1<=40;decide);show(0<=q.1/\q.1<((EW ns (dn ns)).length:Int))/\_;rw[f];have o:0<=AS ns 2/6%8/\AS ns 2/6%8<8:=⟨Et _ (by decide),Fi _ (by decide)⟩;have r:0<=AS ns 4%2/\AS ns 4%2<2:=⟨Et _ (by decide),Fi _ (by decide)⟩;unfold FI at n;rcases List.mem_or_eq_of_mem_set n with h|h;obtain⟨k,_,rfl⟩:=AN.mp h;exact⟨o,r,by show 1<=1;decide,by show 1<=8;decide⟩;rw[h];refine⟨o,r,?_,?_⟩;show 1<=(dP ns).length;rw[Oo];exact t;show(dP ns).length<=8;rw[Oo];lia
end
inductive Kz (K:Aj) (vs:S') (H:Hp) (Q:VK):Prop where
 |mk (a:Addr) (ns:E') (h0:vs=[.ref a]) (h1:Ai K H a (ns.map V.int)) (h2:ns.length<=63) (h3:∀H',Q (.bl true) H'):Kz K vs H Q
def OG (K:Aj):Sp:=λvs H Q ζ=>Kz K vs H Q
def HZ(bC:BH mg)(a0:P8 P w K mg base)(aV:L9 P w K mg base)(aW:P9 P w K mg base)(aX:Qg P w K mg base)(R:Qj P w K mg base)(aY:Qk P w K mg base)(aZ:Ql P w K mg base)(a1:Qn P w K mg base)(F:Bt K "law" "law" JS f fd):Eb P w K mg base Ig 9 f fd ["_law_script"] (OG K):=by
 refine F.ok GS (λvs H aQ aR h=>?_) (λbG A cf s H vs aQ aR hr h=>?_);obtain⟨a,c,rfl,_⟩:=h;rfl;obtain⟨a,c,rfl,T,bY,kq⟩:=h
 refine⟨_,(Al (Cf (AV a0 (Aa (pv 0) Ac)) (BO (n:=3) rfl (Az (Ar (i:=1) GS.nd) (Az (Ar (i:=2) GS.nd) (Az (Ar (i:=3) GS.nd) BN)))))
  (Al (AU (i:=4) GS.nd (AV a0 (Aa (pv 0) Ac)))
  (Al (AU (i:=5) GS.nd (AG Cv (AG Ev (AG Ew (AV aV (Aa (pv 0) (Aa Ah Ac))) Ah) Ah) Ah))
  (Al (Cf (AV aW (Aa (pv 0) (Aa (pv 1) (Aa (AB AC (AB AC (AB AC (pv 1) Ah) (pv 5)) Ah) Ac)))) (BO (n:=4) rfl (Az (Ar (i:=6) GS.nd) (Az (Ar (i:=7) GS.nd) (Az (Ar (i:=8) GS.nd) (Az (Ar (i:=9) GS.nd) BN))))))
  (Al (AU (i:=10) GS.nd (AV aX (Aa (AB AC (pv 4) Ah) (Aa (AB AC (pv 4) Ah) (Aa (AB AC (pv 4) Ah) (Aa (pv 5) Ac))))))
  (Al (A8 (JU (FZ (AV R (Aa (pv 10) (Aa (pv 6) Ac))))) (Ax (AJ Gm)) A7)
  (Al (A8 (JU (FZ (AV R (Aa (AV aY (Aa (AB AC (pv 4) Ah) (Aa (AB AC (pv 4) Ah) (Aa (AB AC (pv 4) Ah) (Aa (pv 5) Ac))))) (Aa (pv 7) Ac))))) (Ax (AJ Gm)) A7)
  (Al (A8 (JU (FZ (AV R (Aa (AV aZ (Aa (AB AC (pv 4) Ah) (Aa (AB AC (pv 4) Ah) (Aa (AB AC (pv 4) Ah) (Aa (pv 5) Ac))))) (Aa (pv 8) Ac))))) (Ax (AJ Gm)) A7)
  (Al (AU (i:=11) GS.nd (AV a1 (Aa (AB AC (pv 4) Ah) (Aa (AB AC (pv 4) Ah) (Aa (AB AC (pv 4) Ah) (Aa (pv 5) Ac))))))
  (Al (A8 (JU (FZ (AV R (Aa (pv 11) (Aa (pv 9) Ac))))) (Ax (AJ Gm)) A7)
  (Al (E8 (EJ E6 Gi Gj Gv (pv 11) (Aa (Ms Mu Ah) Ac)))
  (Al (A8 (JU (FZ (AV R (Aa (AV a1 (Aa (AB AC (pv 4) Ah) (Aa (AB AC (pv 4) Ah) (Aa (AB AC (pv 4) Ah) (Aa (pv 5) Ac))))) (Aa (pv 9) Ac))))) (Ax (AJ Gm)) A7)
  (Ax (AJ (K2 (Lj hr.units) (pv 4) (AD (Aa (pv 1) (Aa (pv 2) (Aa (pv 3) Ac)))) (Bs _)))))))))))))))),?_⟩
 rfl';refine⟨a,c,rfl,T,λbD C t A aS aT ay us Gs Es U N bF bE s1 er Z G eA hv TB=>?_⟩;refine⟨_,Aq.of er,rfl,?_⟩;refine⟨a,c,rfl,s1.seq T,λO k d g S2 T2 R2 ba bb bc bd be v2 aU D J a2 a4 a6 a8 aA=>?_⟩;have aB:=s1.trans D;refine⟨a,c,4,rfl,by decide,aB.seq T,⟨by decide,by decide⟩,(by show(0:Int)<13;decide),?_⟩;dsimp only[Ia];have bf:(AS c 4/48+12)%13=((Dd c:Nat):Int):=by unfold Dd;lia
 rw[bf];refine Bz ?_;generalize j:List.set _ 5 _=σ;obtain rfl:σ=[some (.ref a),some (.ref C),some (.ref t),some (.ref A),some (.ref O),some (.int (Dd c)),none,none,none,none,none,none]:=j.symm;clear j;have ⟨n1,n6⟩:=MX c;have az:=Oo c;obtain⟨q,eq⟩:∃q:Qu,q=(AS c 2/6%8,AS c 4%2,dP c):=⟨_,rfl⟩;have aC:(FI c).length=13:=by unfold FI;rw[Er,An,m5]
 have aa:Dd c<13:=by unfold Dd;lia
 have L:(FI c)[Dd c]?=some q:=by rw[eq];unfold FI;rw[o8 (by rw[An,m5];exact aa)]
 have ab:N[Dd c]?=some (N[Dd c]'(by rw[G.tq.len,aC];exact aa)):=AM _;generalize N[Dd c]'(by rw[G.tq.len,aC];exact aa)=tq at ab;obtain⟨pu,bg,aD⟩:=G.tq.at_ _ _ _ ab L;have X:q.2.2=dP c:=(by rw[eq]);have bh:q.2.1=AS c 4%2:=(by rw[eq]);have e1:q.1=((Ca c 0:Nat):Int):=by rw[eq];show AS c 2/6%8=_;unfold Ca DZ;lia
 rw[X] at aD;have bi:BW (N.map V.ref) ((Dd c:Nat):Int)=some (.ref tq):=BJ (by rw[Bf,ab];rfl);refine j' (j9 ⟨_,.ref ay,Aq.of (D _ _ Z),rfl,j9 ⟨_,.ref tq,Ai.of (D _ _ G.er),bi,j' (j9 ⟨_,.ref pu,Aq.of (D _ _ bg),rfl,a,C,pu,aS,aT,ay,us,Gs,Es,U,N,c,Mg c,FI c,F7 c,De c,AS c 4%2,dP c,Wx c,rfl,aB.seq T,D _ _ Z,G.same D,D _ _ aD,by lia,by lia,Tq c,λr3 Wy As ev wt ks a3 w3 m tl H3 s3 bj oe bk ow aE ae Y l=>⟨_,Aq.of bj,rfl,?_⟩⟩)⟩⟩);dsimp only[JW,Gp,Go,mC,mN];generalize j:List.set _ 9 _=σ;obtain rfl:σ=[some (.ref a),some (.ref C),some (.ref t),some (.ref A),some (.ref O),some (.int (Dd c)),some ev,some (.ref Wy),some (.int (m.foldl GR 0)),some (.ref As),none,none]:=j.symm;clear j;have I:=OF c;have lA:(Mg c).as.length=13:=MZ c _;obtain⟨W,af⟩:∃W:Wd,W=Mg c:=⟨_,rfl⟩
 have Q:∀{H':Hp},Ad aU H'->LC K (λζ=>True) H' k g d W (FI c) (F7 c) (De c):=λ{H'}s=>by
  rw[af];exact⟨⟨S2,T2,R2,ba,bb,bc,bd,be,s _ _ a2,a4.same s⟩,⟨v2,Ai.of (s _ _ a6),(a8.same s).dts⟩,aA.same s⟩
 have ag:=(Tq c).h0;have ah:=OE c;rw[<-af] at I l Y lA ag ah;rw[<-e1,<-bh,<-X] at l;clear af;have aq:=s3 _ _ J;refine j' (j9 ⟨_,.ref k,Aq.of aq,rfl,j' (j9 ⟨_,.ref g,Aq.of aq,rfl,j' (j9 ⟨_,.ref d,Aq.of aq,rfl,k,g,d,λζ=>True,W,FI c,F7 c,De c,_,Dd c,q,rfl,rfl,L,Q s3,I,λv a5 w5 bH bI H5 s5 bl bv=>?_⟩)⟩)⟩);refine Bz ?_;generalize j:List.set _ 10 _=σ;obtain rfl:σ=[some (.ref a),some (.ref C),some (.ref t),some (.ref A),some (.ref O),some (.int (Dd c)),some ev,some (.ref Wy),some (.int (m.foldl GR 0)),some (.ref As),some v,none]:=j.symm;clear j;obtain⟨r,u,z,B⟩:=MP l bv;subst r u z B;have bm:=s3.trans s5;refine⟨_,_,.tup [Bb a3,Hx w3],.tup [Bb a3,Hx w3],rfl,bl.dt,(oe.same s5).dt,HR _ _,HR _ _,λb H6 s6 bn=>?_⟩;rw[bn.mpr rfl];refine⟨rfl,Bl ?_⟩;have ai:=bm.trans s6;have aj:=ai _ _ J;refine j' (j9 ⟨_,.ref k,Aq.of aj,rfl,j' (j9 ⟨_,.ref g,Aq.of aj,rfl,j' (j9 ⟨_,.ref d,Aq.of aj,rfl,k,g,d,λζ=>True,W,FI c,F7 c,De c,_,Dd c,q,rfl,rfl,L,Q ai,I,λD7 lv a7 w7 bJ bK H7 bL s7 bo bp bw=>?_⟩)⟩)⟩);obtain⟨r,u,z,B⟩:=MP l bw;subst r u z B;have ak:=s5.trans (s6.trans s7);refine⟨_,_,.lst (m.map LG),.lst (m.map LG),rfl,.lst (Ai.of bo) bp.dts,.lst (Ai.of (ak _ _ bk)) (ow.same ak).dts,HS _,HS _,λb H8 s8 bq=>?_⟩;rw[bq.mpr rfl];refine⟨rfl,Bl ?_⟩;have al:=ai.trans (s7.trans s8);have an:=al _ _ J;refine j' (j9 ⟨_,.ref k,Aq.of an,rfl,j' (j9 ⟨_,.ref g,Aq.of an,rfl,j' (j9 ⟨_,.ref d,Aq.of an,rfl,k,g,d,λζ=>True,W,FI c,F7 c,De c,_,Dd c,q,rfl,rfl,L,Q al,I,λa9 w9 bM bN H9 s9 bx=>?_⟩)⟩)⟩);obtain⟨r,u,z,B⟩:=MP l bx;subst r u z B;refine⟨_,_,.int _,.int _,rfl,.int _,.int _,True.intro,True.intro,λb br aF bz=>?_⟩;rw[bz.mpr rfl];refine⟨rfl,Bl ?_⟩;have ar:=al.trans (s9.trans aF);have au:=ar _ _ J;have ll:(Bu W m tl).length<=4000:=Ea (WB ag ah l) (by rw[X,az];lia)
 have aP:∀(a:C')(w:Option Wt)(m:W')(U:E'),LU W (F7 c) (De c) q.1 q.2.1 q.2.2 0 a w m U->(Bu W m U).length<=4000:=λa' w' bO bP h'=>by
  obtain⟨_,_,y1,y2⟩:=MP l h';rw[<-y1,<-y2];exact ll
 refine j' (j9 ⟨_,.ref k,Aq.of au,rfl,j' (j9 ⟨_,.ref g,Aq.of au,rfl,j' (j9 ⟨_,.ref d,Aq.of au,rfl,k,g,d,λζ=>True,W,FI c,F7 c,De c,_,Dd c,q,rfl,rfl,L,Q ar,I,aP,by lia,λao M bQ bR bZ ca bS b0 aG b8 aM b1 b9=>?_⟩)⟩)⟩);refine Bz ?_;generalize j:List.set _ 11 _=σ;obtain rfl:σ=[some (.ref a),some (.ref C),some (.ref t),some (.ref A),some (.ref O),some (.int (Dd c)),some ev,some (.ref Wy),some (.int (m.foldl GR 0)),some (.ref As),some v,some (.ref ao)]:=j.symm;clear j;obtain⟨r,u,z,B⟩:=MP l b8;subst r u z B;obtain rfl:=Tp b9 ae λy=>(b1 y).trans (Y y).symm;have aN:=ak.trans (s8.trans (s9.trans aF));have b2:=aN.trans aG;refine⟨_,_,.lst (M.map Dt.int),.lst (M.map Dt.int),rfl,.lst (Ai.of aM) (ML _),.lst (Ai.of (b2 _ _ aE)) (ML _),Qo _,Qo _,λb aH aI b3=>?_⟩;rw[b3.mpr rfl];refine⟨rfl,Bl ?_⟩
 have bs:(M.map V.int).length<sizeLine:=by
  rw[An];have h1:M.Nodup:=ae.imp λ{x y}h e=>by lia
  have:=h1.length_le_of_subset λy hy=>(Y y).mp hy;exact BX (by have:=WB ag ah l;rw[X,az] at this;lia)
 have aO:=aI _ _ aM;refine⟨j9 ⟨rfl,_,Ai.of aO⟩,_,aO,bs,?_⟩;have ax:Ad br (upd aH ao (.lst (M.map V.int++[.int (-1)]))):=λb o e=>by rw[AI (Be e b0)];exact(aG.trans aI) _ _ e
 generalize upd aH ao (.lst (M.map V.int++[.int (-1)]))=bT at ax ⊢;have av:=ar.trans ax;have aw:=av _ _ J;refine j' (j9 ⟨_,.ref k,Aq.of aw,rfl,j' (j9 ⟨_,.ref g,Aq.of aw,rfl,j' (j9 ⟨_,.ref d,Aq.of aw,rfl,k,g,d,λζ=>True,W,FI c,F7 c,De c,_,Dd c,q,rfl,rfl,L,Q av,I,aP,by lia,λbU aJ bV bW cb cc bX cd aK bA b4 b5 bB=>?_⟩)⟩)⟩);obtain⟨r,u,z,B⟩:=MP l bA;subst r u z B;obtain rfl:=Tp bB ae λy=>(b5 y).trans (Y y).symm;have b6:=aN.trans (ax.trans aK);refine⟨_,_,.lst (aJ.map Dt.int),.lst (aJ.map Dt.int),rfl,.lst (Ai.of b4) (ML _),.lst (Ai.of (b6 _ _ aE)) (ML _),Qo _,Qo _,λb aL bt b7=>?_⟩;rw[b7.mpr rfl];refine⟨rfl,Bl ?_⟩;refine⟨Fo,λp hp=>?_⟩;have bu:=A9 (o:=.tup [.ref C,.ref t,.ref A]) hp;have E:=av.trans (aK.trans (bt.trans bu));have S:=D.trans E;have x1:Ao K (upd aL p (.tup [.ref C,.ref t,.ref A])) (.ref p) (.tup [Hl (EW c (dn c)) (Ff c (dn c)) (FI c),NN (JE c) (F7 c) (De c),.lst ((EV c (dn c)).map Bb)]):=.tup (Aq.of Ab) (.cons ((G.same S).dt (S _ _ Z)) (.cons (TB.same S).dt (.cons (.lst (Ai.of (S _ _ eA)) (hv.same S).dts) .nil)));have x2:Ao K (upd aL p (.tup [.ref C,.ref t,.ref A])) (.ref O) (.tup [Hl (EW c (dn c)) (Ff c (dn c)) (FI c),NN (JE c) (F7 c) (De c),.lst ((EV c (dn c)).map Bb)]):=.tup (Aq.of (E _ _ J)) (.cons ((a4.same E).dt (E _ _ a2)) (.cons (aA.same E).dt (.cons (.lst (Ai.of (E _ _ a6)) (a8.same E).dts) .nil)));refine⟨7,_,_,.tup (.cons (IU _ _ _ _ _ _) (.cons (X0 _ _ _ _ _ _) (.cons ((X2 _ _).mono (by decide)) (.nil _)))),by decide,x2,x1,?_⟩;rw[Fm rfl];exact kq _
abbrev OH(P w K mg base):=BG P w K mg base "law" 9 ["_law_script"] (OG K)
def OI(B:BH mg)(c:P8 P w K mg base)(d:L9 P w K mg base)(e:P9 P w K mg base)(g:Qg P w K mg base)(h:Qj P w K mg base)(i:Qk P w K mg base)(j:Ql P w K mg base)(k:Qn P w K mg base)(F:Bt K "law" "law" JS f fd)(a:mg "law" = some (.ref f)):OH P w K mg base:=
 ⟨f,fd,HZ B c d e g h i j k F,a,F.kp,F.binds λζ ζ ζ ζ ζ ζ us b=>(by obtain⟨l,rfl⟩:=HI b;rfl)⟩
end
abbrev Fin (K:Aj) (mg:Str->K') (x:Str) (st:Stmt):Prop:=∃f fd,Bt K x x st f fd/\mg x=some (.ref f)
def BV{K:Aj}{h:Heap}{b:Str->K'}(X:K.In h)(G:h.Ns mainGlobals b){x:Str}{st:Stmt}(q:Fx K x st):Fin K b x st:=by obtain⟨f,d,e,g,m,kV,n,i,o,j,a,l,c,k⟩:=q;exact⟨f,_,Ha l c k,PySem.W.mg_of X G a⟩
def all_mk{l:PySem.W.OpenLaw}{w:World}{K:Aj}{h:Heap}{a:Str->K'}{g:Addr}(X:K.In h)(G:h.Ns mainGlobals a)(V:a "law" = some (.ref g))(q:JT K)
 : ∃i:FuncData,(∀(s:Shared)(v:Value),BindsTo s i ⟨[v],[]⟩ [("_law_script",v)])/\∀b:Heap,K.In b->b.Ns mainGlobals a->Eb l.prog w K a b Ig 9 g i ["_law_script"] (OG K):=by
 obtain⟨bR,bS,bT,bq,bU,br,bs,bt,bu,bv,W,Y,Z,aa⟩:=q.q44;have e:=V.symm.trans (PySem.W.mg_of X G W);cases e;have B:BH a:=⟨FO X G q.z_all,FO X G q.z_any,FO X G q.z_bool,FO X G q.z_dict,FO X G q.z_enumerate,FO X G q.z_int,FO X G q.z_isinstance,FO X G q.z_len,FO X G q.z_list,FO X G q.z_min,FO X G q.z_range,FO X G q.z_set,FO X G q.z_sorted,FO X G q.z_str,FO X G q.z_tuple,FO X G q.z_zip,q.y_MOST_BEGINNINGS.imp λζ y=>PySem.W.mg_of X G y⟩;obtain⟨_,_,x,z⟩:=BV X G q.q0;obtain⟨_,_,A,C⟩:=BV X G q.q1;obtain⟨_,_,D,E⟩:=BV X G q.q2;obtain⟨_,_,F,H⟩:=BV X G q.q3;obtain⟨_,_,I,J⟩:=BV X G q.q4;obtain⟨_,_,L,M⟩:=BV X G q.q5;obtain⟨_,_,N,O⟩:=BV X G q.q6;obtain⟨_,_,P,Q⟩:=BV X G q.q7;obtain⟨_,_,R,S⟩:=BV X G q.q8;obtain⟨_,_,T,U⟩:=BV X G q.q9;obtain⟨_,_,ab,ae⟩:=BV X G q.q10;obtain⟨_,_,af,ag⟩:=BV X G q.q11;obtain⟨_,_,ah,ai⟩:=BV X G q.q12;obtain⟨_,_,aj,ak⟩:=BV X G q.q13;obtain⟨_,_,al,an⟩:=BV X G q.q14;obtain⟨_,_,ao,aq⟩:=BV X G q.q15;obtain⟨_,_,ar,au⟩:=BV X G q.q16;obtain⟨_,_,av,aw⟩:=BV X G q.q17;obtain⟨_,_,ax,ay⟩:=BV X G q.q18;obtain⟨_,_,az,a0⟩:=BV X G q.q19;obtain⟨_,_,a1,a2⟩:=BV X G q.q20;obtain⟨_,_,a3,a4⟩:=BV X G q.q21;obtain⟨_,_,a5,a6⟩:=BV X G q.q22;obtain⟨_,_,a7,a8⟩:=BV X G q.q23;obtain⟨_,_,a9,aA⟩:=BV X G q.q24;obtain⟨_,_,aB,aC⟩:=BV X G q.q25;obtain⟨_,_,aD,aE⟩:=BV X G q.q26;obtain⟨_,_,aF,aG⟩:=BV X G q.q27;obtain⟨_,_,aH,aI⟩:=BV X G q.q28;obtain⟨_,_,aJ,aK⟩:=BV X G q.q29;obtain⟨_,_,aL,aM⟩:=BV X G q.q30;obtain⟨_,_,aN,aO⟩:=BV X G q.q31;obtain⟨_,_,aP,aQ⟩:=BV X G q.q32;obtain⟨_,_,aR,aS⟩:=BV X G q.q33;obtain⟨_,_,aT,aU⟩:=BV X G q.q34;obtain⟨_,_,aV,aW⟩:=BV X G q.q35;obtain⟨_,_,aX,aY⟩:=BV X G q.q36;obtain⟨_,_,aZ,ba⟩:=BV X G q.q37;obtain⟨_,_,bb,bc⟩:=BV X G q.q38;obtain⟨_,_,bd,be⟩:=BV X G q.q39;obtain⟨_,_,bf,bg⟩:=BV X G q.q40;obtain⟨_,_,bh,bi⟩:=BV X G q.q41;obtain⟨_,_,bj,bk⟩:=BV X G q.q42;obtain⟨_,_,bl,bm⟩:=BV X G q.q43;have bn:=Ha (st:=JS) Y Z aa;refine⟨PySem.W.fnOf "law" "law" (JR JS) (H1 JS) (A0 JS) .none br bs bt bq bu bv,λs v=>.of_eq rfl,λb ζ ζ=>?_⟩;have bo:SO l.prog w K a b:=Zu B x z;have c:L9 l.prog w K a b:=Zy B A C;have bp:SR l.prog w K a b:=ZB B D E;have j:P6 l.prog w K a b:=ZD B c F H;have bw:SS l.prog w K a b:=ZF B I J;have k:P7 l.prog w K a b:=ZH B bw L M;have bx:SW l.prog w K a b:=ZJ B c N O;have bz:P8 l.prog w K a b:=ZL B bo c bp j k bx P Q;have b0:SY l.prog w K a b:=ZN B R S;have b1:S0 l.prog w K a b:=ZP B T U;have b2:P9 l.prog w K a b:=ZZ B j k b0 b1 ab ae;have m:Qa l.prog w K a b:=Z1 B af ag;have b3:S4 l.prog w K a b:=Z3 B ah ai;have n:Qb l.prog w K a b:=Z5 B b3 aj ak;have b4:S5 l.prog w K a b:=Z6 B n al an;have o:Qc l.prog w K a b:=eX B m b4 ao aq;have b5:S6 l.prog w K a b:=fF B o ar au;have b6:S7 l.prog w K a b:=fH B b5 av aw;have b7:S8 l.prog w K a b:=fJ B ax ay;have b8:S9 l.prog w K a b:=fO B b7 az a0;have p:Qd l.prog w K a b:=fQ B a1 a2;have r:Qe l.prog w K a b:=fU B a3 a4;have b9:Ta l.prog w K a b:=fW B a5 a6;have t:Qf l.prog w K a b:=fY B b9 a7 a8;have bA:Tb l.prog w K a b:=f0 B p r t a9 aA;have bB:Tc l.prog w K a b:=f6 B b8 bA aB aC;have bC:Td l.prog w K a b:=f8 B p r t aD aE;have f:Oy l.prog w K a b:=gA B aF aG;have bD:Tf l.prog w K a b:=gC B f aH aI;have bE:Tg l.prog w K a b:=gE B f aJ aK;have bF:HM l.prog w K a b:=gF B bC bD bE aL aM;have bG:Th l.prog w K a b:=gH B o aN aO;have d:M0 l.prog w K a b:=gJ B b6 bB bF bG n aP aQ;have bH:Qg l.prog w K a b:=gK B d aR aS;have bI:Qj l.prog w K a b:=gO B aT aU;have bJ:Qk l.prog w K a b:=gQ B d aV aW;have bK:Ti l.prog w K a b:=gS B aX aY;have bL:Ql l.prog w K a b:=gU B d bK aZ ba;have u:Qm l.prog w K a b:=gX B bb bc;have bM:Tj l.prog w K a b:=gZ B u bd be;have bN:Tk l.prog w K a b:=g8 B m bM bf bg;have bO:Tl l.prog w K a b:=hE B f bh bi;have bP:To l.prog w K a b:=hJ B bN bO u bj bk;have bQ:Qn l.prog w K a b:=hK B d bP bl bm;exact HZ B bz c b2 bH bI bJ bL bQ bn
def walk{l:PySem.W.OpenLaw}{q:Program}{loose:I'}{XP:(Str->K')->Heap->Prop}{YP:World->Heap->Prop}{d:DefRec}{K:Params->Aj}(i:l.most=some 63)(r:d.params.defaults=[])
 (j:∀(w:World)(h:Heap),YP w h->(K w.params).In h)
 (F:∀(w:World)(b:Str->K')(e:Addr)(h:Heap),(K w.params).In h->h.Ns mainGlobals b->b d.name=some (.ref e) ->
  ∃g:FuncData,(∀(s:Shared)(u:Value),BindsTo s g ⟨[u],[]⟩ [("_law_script",u)])/\∀c:Heap,(K w.params).In c->c.Ns mainGlobals b->Eb l.prog w (K w.params) b c Ig 9 e g ["_law_script"] (OG (K w.params))) :
 PySem.W.WalkO q loose XP YP l.row.toRowW d [] (λf vs=>PySem.call f vs):=
 L2.IJ (n:=63) (k:=9) (x:= "_law_script") (CX:=λζ=>Ig) (sp:=λw=>OG (K w.params)) i (by decide) r ⟨rfl,by decide,by decide⟩ j F (λζ ζ a m o ζ p=>⟨a,m,rfl,p,o,λζ=>rfl⟩) λζ ζ ζ ζ ζ z=>z
end K32
open PySem PySem.W PyProof.Rows in
theorem PySem.Challenge.cw_namepaths_k32_behind_dots_holds : PySem.Challenge.rw_namepaths_k32_behind_dots.Holds :=
 K32.hd λK q YP d h1 h2 hY=>K32.walk (l:=PySem.Challenge.rw_namepaths_k32_behind_dots) rfl h1 hY λw mg fa h X G hm=>K32.all_mk X G (h2▸hm) (q w)
