import PyProof.Rows.All
import Wide.All
import OpenK.AllK
import Wide.FinOn
import Lean
import PyProof.EqAt
import PyProof.EqKinds
import PyProof.TupleCall
import PySem.Challenge.RW_namepaths_k45_rings_walked
set_option Elab.async false
set_option linter.all false
set_option maxRecDepth 100000
set_option compiler.extract_closed false
set_option maxHeartbeats 1000000
noncomputable section
local macro_rules|`(def $n $s:optDeclSig $v:declVal)=>`(noncomputable def $n $s:optDeclSig $v:declVal)
abbrev Ah:=PySem.W.Frag
def Ak:=@List.length_map
def AC:=@List.getElem?_eq_getElem
def AS:=@List.length_append
def Bk:=@List.map_append
def AY:=@List.getElem?_eq_some_iff
def BI:=@List.mem_append
def A8:=@List.getElem?_map
def A9:=@List.mem_of_getElem?
def AZ:=@List.mem_map
def AW:=@List.mem_singleton
def Ce:=@List.size_toArray
def Bn:=@List.mem_cons_self
def B5:=@List.mem_cons
def Du:=@List.mem_append_right
def Eh:=@List.map_cons
def B6:=@List.mem_cons_of_mem
def B1:=@List.getD_eq_getElem?_getD
def D0:=@List.take_succ
def Et:=@List.take_length
def Ei:=@List.getElem?_append_left
def CZ:=@List.length_singleton
def EC:=@List.getElem_mem
def FP:=@List.length_take
def DR:=@List.map_map
def ED:=@List.getElem?_append_right
def EE:=@List.take_zero
def Eu:=@List.mem_append_left
def Ej:=@List.length_cons
def Gd:=@List.nodup_cons
def Ge:=@List.length_set
def Gf:=@List.append_assoc
def Gp:=@List.length_drop
def Qf:=@List.mem_iff_getElem
def E7:=@List.append_nil
def NG:=@List.lookup_cons
def Gg:=@List.getElem?_eq_none
def KW:=@List.mem_filter
def NH:=@List.drop_eq_getElem_cons
def Jn:=@List.filter_cons
def GF:=@List.length_nil
def Om:=@List.map_nil
def Qg:=@List.map_drop
def IR:=@List.prefix_append
def GG:=@List.any_eq_true
def NI:=@List.find?_cons
def KX:=@List.filter_append
def KY:=@List.foldl_append
def Oo:=@List.length_filter_le
def E8:=@Option.map_eq_some_iff
def AG:=@Nat.le_refl
def Hs:=@Nat.lt_irrefl
def CI:=@Nat.le_of_lt
def CF:=@Nat.ne_of_lt
def Qh:=@Nat.lt_succ_self
def Di:=@Nat.zero_le
def Fw:=@Int.emod_lt_of_pos
def Fy:=@Int.emod_nonneg
def Dx:=@Int.eq_ofNat_of_zero_le
def Bo:=@Int.toNat_natCast
def Ba:=@decide_eq_true
def D1:=@decide_eq_false
def Bm:=@of_decide_eq_true
def C0:=@PySem.F.plainAttrs_list
def Ev:=@PySem.F.slot_list_append
def Ew:=@PySem.F.type_list_append
def Ct:=@Bool.false_ne_true
def Bz:=@Option.some.inj
def An:=@if_neg
def Al:=@if_pos
def FW:=@Nat.lt_of_lt_of_le
def Ek:=@Nat.le_trans
def Fz:=@Bool.false_eq_true
def R1:=@List.filterMap_cons
def Bq:=@congrArg
open PySem PySem.Spec PyProof.Rows in
def Ad:=@wpAny_bind
open PySem PySem.Spec PyProof.Rows in
def Aw:=@wpAny_pure
open PySem PySem.Spec PyProof.Rows in
def FA:=@wpAny_holding
open PySem PySem.Spec PyProof.Rows in
def FX:=@wpAny_truthy_bool
open PySem PySem.Spec PyProof.Rows in
def Bf:=@Heap.get?_push_of_some
open PySem PySem.Spec PyProof.Rows in
def Br:=@Heap.lt_size
open PySem PySem.Spec PyProof.Rows in
def Cd:=@Heap.get?_push_size
open PySem PySem.Spec PyProof.Rows in
def Cn:=@PassesOwn.never
open PySem PySem.Spec PyProof.Rows in
def Gh:=@PySem.W.mg_none_of
open PySem PySem.Spec PyProof.Rows in
def Gq:=@PySem.mem_of_lookup
open PySem PySem.Spec PyProof.Rows in
def NJ:=@wpAny_typeOf
open PySem PySem.Spec PyProof.Rows in
def FY:=@wpAny_mono
open PySem PySem.Spec PyProof.Rows in
def Gr:=@wpAny_seqItems
open PySem PySem.Spec PyProof.Rows in
def Ht:=@wpAny_rule
noncomputable section
noncomputable def PySem.W.Fast.tw13687970544149606075:PySem.Program:=PySem.Challenge.pw_namepaths_k45_rings_walked
theorem PySem.W.Fast.te13687970544149606075:PySem.Challenge.pw_namepaths_k45_rings_walked=PySem.W.Fast.tw13687970544149606075:=rfl
namespace L2
open PySem PySem.Spec PyProof.Rows
noncomputable def KZ (s:Stmt):Arguments:=match s with
 |.FunctionDef _ a _ _ _ _ _ _ _ _=>a
 |_=>{posonlyargs:=[],args:=[],vararg:=none,kwonlyargs:=[],kw_defaults:=[],kwarg:=none,defaults:=[]}
noncomputable def IS (s:Stmt):List Stmt:=match s with
 |.FunctionDef _ _ b _ _ _ _ _ _ _=>b
 |_=>[]
noncomputable def A0 (s:Stmt):Scope:=match s with
 |.FunctionDef _ _ _ _ _ _ sc _ _ _=>sc
 |_=>{kind:=.function,names:=[],isGenerator:=false,isCoroutine:=false}
section
open PySem.W PySem.W.Fast
noncomputable def GV (p:Program) (w:World) (N:Nat):Option Shared:=((tw10274390034422433532 tw14364793385576792824 (opening p) w N (PySem.start (opening p)).1 (PySem.start (opening p)).2).bind (tw14289696077712309145 p)).bind λs₀ =>
 match s₀.heap.isNs mainGlobals && s₀.gens.size==0 with
 |true=>(tw14082659384304107361 tw14364793385576792824 p w s₀.heap.objs.size (s₀.heap.nsMap mainGlobals "__annotations__") N s₀ (topStub p)).bind λs₁=>match staticsOk (tw5923862056798008813 p.main.body) s₀.heap s₁.heap && namesBound p s₁.heap && gensDone s₁ && laidKept s₀.heap s₁.heap with
   |true=>some s₁
   |false=>none
 |false=>none
def Jo{p q:Program}{loose:List Str}{Xt:Shared->Bool}{α:Type}{Yf:Shared->α}{Ya:World->α}{N:Nat}
 (A:∀w:World,Option.map (λs=>tw4187177175401517315 q loose (tw5923862056798008813 p.main.body) Xt true s) (GV p w N)=some (openGood q loose))
 (B:∀w:World,Option.map Yf (GV p w N)=some (Ya w)):LeftO p q loose Xt Yf Ya N:=by
 intro w;have a:=A w;have b:=B w
 have h:Option.map (λs=>(tw4187177175401517315 q loose (tw5923862056798008813 p.main.body) Xt true s,Yf s)) (GV p w N)=some (openGood q loose,Ya w):=by
  cases e:GV p w N with
  |none=>rw[e] at a;cases a
  |some s =>
    rw[e] at a b;simp only[Option.map_some] at a b ⊢;rw[Bz a,Bz b]
 unfold GV at h;rw[<-te14082659384304107361,<-te10274390034422433532,<-te14364793385576792824,<-te4187177175401517315,<-te5923862056798008813,<-te14289696077712309145] at h;exact h
end
end L2
namespace K45
open PySem PySem.Spec PyProof.Rows PySem.W L2
noncomputable def top (i:Nat):Stmt:=PySem.Challenge.pw_namepaths_k45_rings_walked.main.body.getD i (.Pass ⟨0,0,0,0⟩)
abbrev R3:Stmt:=top 52
abbrev R6:Stmt:=top 51
abbrev R7:Stmt:=top 53
abbrev R8:Stmt:=top 54
abbrev R9:Stmt:=top 55
abbrev Sa:Stmt:=top 56
abbrev Sb:Stmt:=top 57
abbrev Sc:Stmt:=top 58
abbrev Sd:Stmt:=top 59
abbrev Qi:Stmt:=top 60
abbrev Op:Stmt:=top 61
abbrev Se:Stmt:=top 11
abbrev Sf:Stmt:=top 3
abbrev Sg:Stmt:=top 1
abbrev Sh:Stmt:=top 2
abbrev Si:Stmt:=top 19
abbrev Qj:Stmt:=top 18
abbrev Sj:Stmt:=top 15
abbrev Sk:Stmt:=top 12
abbrev Sl:Stmt:=top 16
abbrev Qk:Stmt:=top 22
abbrev Sm:Stmt:=top 23
abbrev So:Stmt:=top 8
abbrev Sq:Stmt:=top 24
abbrev Ql:Stmt:=top 21
abbrev Sr:Stmt:=top 27
abbrev Ss:Stmt:=top 29
abbrev Su:Stmt:=top 9
abbrev Sv:Stmt:=top 30
abbrev Sw:Stmt:=top 31
abbrev NK:Stmt:=top 28
abbrev Sx:Stmt:=top 17
abbrev Sy:Stmt:=top 26
abbrev Sz:Stmt:=top 43
abbrev SA:Stmt:=top 42
abbrev SD:Stmt:=top 40
abbrev SE:Stmt:=top 41
abbrev SG:Stmt:=top 39
abbrev SH:Stmt:=top 47
abbrev Qm:Stmt:=top 48
abbrev SI:Stmt:=top 49
abbrev NL:Stmt:=top 46
abbrev SJ:Stmt:=top 45
abbrev SK:Stmt:=top 33
abbrev SM:Stmt:=top 37
abbrev Qn:Stmt:=top 35
abbrev Qo:Stmt:=top 36
abbrev Oq:Stmt:=top 62
abbrev SN:Stmt:=top 64
abbrev SO:Stmt:=top 63
abbrev SQ:Stmt:=top 65
abbrev K0:Stmt:=top 66
noncomputable def own:Stmt->Bool
 |.Assign [.Name x _] _ _=>x != "__name__"
 |_=>true
noncomputable def view:Program:={PySem.Challenge.pw_namepaths_k45_rings_walked with main:={PySem.Challenge.pw_namepaths_k45_rings_walked.main with body:=PySem.Challenge.pw_namepaths_k45_rings_walked.main.body.filter own}}
noncomputable abbrev Fx (K:Frag) (x:Str) (st:Stmt):Prop:=∃(f:Addr)(oc:Value)(od an:Option Addr)(osl:Array (Option Value))(kV doc pm cdv ct:Value),nsIn K mainGlobals x=some (some (.ref f))/\K.lookup f=some ⟨oc,od,.func (fnOf x x (KZ st) (IS st) (A0 st) .none kV doc pm an cdv ct),osl⟩/\codeIn K cdv x=true/\keepIn K (.ref f)=true
def Au{K:Frag}{x:Str}{st:Stmt}{f:Addr}{d:Value}{e g:Option Addr}{i:Array (Option Value)}{kV j h b ct:Value}(a:nsIn K mainGlobals x=some (some (.ref f)))(l:K.lookup f=some ⟨d,e,.func (fnOf x x (KZ st) (IS st) (A0 st) .none kV j h g b ct),i⟩)(c:codeIn K b x=true)(k:keepIn K (.ref f)=true):Fx K x st:=⟨f,d,e,g,i,kV,j,h,b,ct,a,l,c,k⟩
def SS{K:Frag}{x:Str}{v:Int}{t:Tok}(h:nsIn K mainGlobals x=some (some (.int v t))):∃t,nsIn K mainGlobals x=some (some (.int v t)):=⟨t,h⟩
structure K1 (K:Frag):Prop where
 q0:Fx K "_law_names" R3
 q1:Fx K "_law_cell_at" R6
 q2:Fx K "_law_ranks" R7
 q3:Fx K "_law_order" R8
 q4:Fx K "_law_table" R9
 q5:Fx K "_law_question" Sa
 q6:Fx K "_law_thing" Sb
 q7:Fx K "_law_step" Sc
 q8:Fx K "_law_telling" Sd
 q9:Fx K "_law_scopes" Qi
 q10:Fx K "_law_made" Op
 q11:Fx K "next_state" Se
 q12:Fx K "inside_of_sort" Sf
 q13:Fx K "inside" Sg
 q14:Fx K "goal" Sh
 q15:Fx K "steps_gone" Si
 q16:Fx K "longer_by_a_step" Qj
 q17:Fx K "beginnings" Sj
 q18:Fx K "has_end" Sk
 q19:Fx K "found_behind" Sl
 q20:Fx K "better_pairs" Qk
 q21:Fx K "tree_of" Sm
 q22:Fx K "label_at" So
 q23:Fx K "first_hider" Sq
 q24:Fx K "seen_ways" Ql
 q25:Fx K "look_for" Sr
 q26:Fx K "first_owed" Ss
 q27:Fx K "telling_at" Su
 q28:Fx K "first_open" Sv
 q29:Fx K "meaning" Sw
 q30:Fx K "met" NK
 q31:Fx K "owed_behind" Sx
 q32:Fx K "look_up" Sy
 q33:Fx K "of_sort" Sz
 q34:Fx K "of_answer" SA
 q35:Fx K "of_steps" SD
 q36:Fx K "of_tellings" SE
 q37:Fx K "questions_of" SG
 q38:Fx K "found_in_turn" SH
 q39:Fx K "uses_one" Qm
 q40:Fx K "refuse_tangled" SI
 q41:Fx K "settled" NL
 q42:Fx K "still" SJ
 q43:Fx K "find" SK
 q44:Fx K "waited_for" SM
 q45:Fx K "waits" Qn
 q46:Fx K "ring_of" Qo
 q47:Fx K "_law_same" Oq
 q48:Fx K "_law_waiting" SN
 q49:Fx K "_law_numbers" SO
 q50:Fx K "_law_ringed" SQ
 q51:Fx K "law" K0
 z_all:nsIn K mainGlobals "all" = some none
 z_any:nsIn K mainGlobals "any" = some none
 z_bool:nsIn K mainGlobals "bool" = some none
 z_dict:nsIn K mainGlobals "dict" = some none
 z_enumerate:nsIn K mainGlobals "enumerate" = some none
 z_int:nsIn K mainGlobals "int" = some none
 z_isinstance:nsIn K mainGlobals "isinstance" = some none
 z_len:nsIn K mainGlobals "len" = some none
 z_list:nsIn K mainGlobals "list" = some none
 z_min:nsIn K mainGlobals "min" = some none
 z_range:nsIn K mainGlobals "range" = some none
 z_set:nsIn K mainGlobals "set" = some none
 z_sorted:nsIn K mainGlobals "sorted" = some none
 z_str:nsIn K mainGlobals "str" = some none
 z_tuple:nsIn K mainGlobals "tuple" = some none
 z_zip:nsIn K mainGlobals "zip" = some none
 y_MOST_BEGINNINGS:∃t,nsIn K mainGlobals "MOST_BEGINNINGS" = some (some (.int 200 t))
theorem Hu(w:World):Option.map (λs=>Fast.tw4187177175401517315 view [] (Fast.tw5923862056798008813 PySem.Challenge.pw_namepaths_k45_rings_walked.main.body) (λs=>xlAt view [] s && recOk [] s) true s) (GV PySem.Challenge.pw_namepaths_k45_rings_walked w 40000)=some (openGood view []):=by kernel_rfl
end K45
abbrev A' := List (PySem.Str × PySem.Str)
abbrev B' := List (PySem.Addr × PySem.Obj)
abbrev C' := Option (PySem.Str × Int)
abbrev D' := PySem.Value → PySem.Shared → Prop
abbrev E' := List (Option Int)
local macro_rules | `(tactic| lia) => `(tactic| omega)
local macro_rules | `(tactic| cbv) => `(tactic| try dsimp only)
set_option tactic.hygienic false
section
open PySem PySem.W PyProof.Rows
local macro_rules | `(tactic| o_head $H:term) => `(tactic| refine holds_open (q := K45.view) (loose := []) (Xt := fun s => xlAt K45.view [] s && recOk [] s) (XP := XL K45.view []) (Yf := Hook.obs $H) (Ya := Hook.val $H) (YP := Hook.says $H) (N := 40000) ?hl (Hook.of $H) (Hook.keeps $H) (fun s e => xl_of s (Bool.and_eq_true_iff.mp e).1) XL.keeps (by rfl) (by rfl) (by rfl) (fun s e => recFacts_of (Bool.and_eq_true_iff.mp e).2) (by rfl) (by first | assumption | decide +kernel) (by decide +kernel) ⟨rfl, rfl, rfl, rfl, rfl, by decide +kernel⟩ ?hw ?hc)
set_option maxHeartbeats 0 in
theorem K45.hd(a:∀K:Params->Frag,(∀w:World,K45.K1 (K w.params))->∀(YP:World->Heap->Prop)(d:DefRec),d.params.defaults=[]->d.name = "law" -> (∀(w:World)(h:Heap),YP w h->(K w.params).In h)->WalkO K45.view [] (XL K45.view []) YP PySem.Challenge.rw_namepaths_k45_rings_walked.row.toRowW d [] (λf vs=>PySem.call f vs)):PySem.Challenge.rw_namepaths_k45_rings_walked.Holds:=by
 w_on;o_law;k_head
 case hl =>
  refine L2.Jo K45.Hu λw=>?_
  kernel_rfl
 case hw=>w_witness2
 k_fill
 refine a _ (λw=>?fx) _ _ rfl rfl (λw h Y=>PySem.W.kIn_of Y)
 case fx =>
  refine' ⟨K45.Au ?a0 ?l0 ?c0 ?k0,K45.Au ?a1 ?l1 ?c1 ?k1,K45.Au ?a2 ?l2 ?c2 ?k2,K45.Au ?a3 ?l3 ?c3 ?k3,K45.Au ?a4 ?l4 ?c4 ?k4,K45.Au ?a5 ?l5 ?c5 ?k5,K45.Au ?a6 ?l6 ?c6 ?k6,K45.Au ?a7 ?l7 ?c7 ?k7,K45.Au ?a8 ?l8 ?c8 ?k8,K45.Au ?a9 ?l9 ?c9 ?k9,K45.Au ?a10 ?l10 ?c10 ?k10,K45.Au ?a11 ?l11 ?c11 ?k11,K45.Au ?a12 ?l12 ?c12 ?k12,K45.Au ?a13 ?l13 ?c13 ?k13,K45.Au ?a14 ?l14 ?c14 ?k14,K45.Au ?a15 ?l15 ?c15 ?k15,K45.Au ?a16 ?l16 ?c16 ?k16,K45.Au ?a17 ?l17 ?c17 ?k17,K45.Au ?a18 ?l18 ?c18 ?k18,K45.Au ?a19 ?l19 ?c19 ?k19,K45.Au ?a20 ?l20 ?c20 ?k20,K45.Au ?a21 ?l21 ?c21 ?k21,K45.Au ?a22 ?l22 ?c22 ?k22,K45.Au ?a23 ?l23 ?c23 ?k23,K45.Au ?a24 ?l24 ?c24 ?k24,K45.Au ?a25 ?l25 ?c25 ?k25,K45.Au ?a26 ?l26 ?c26 ?k26,K45.Au ?a27 ?l27 ?c27 ?k27,K45.Au ?a28 ?l28 ?c28 ?k28,K45.Au ?a29 ?l29 ?c29 ?k29,K45.Au ?a30 ?l30 ?c30 ?k30,K45.Au ?a31 ?l31 ?c31 ?k31,K45.Au ?a32 ?l32 ?c32 ?k32,K45.Au ?a33 ?l33 ?c33 ?k33,K45.Au ?a34 ?l34 ?c34 ?k34,K45.Au ?a35 ?l35 ?c35 ?k35,K45.Au ?a36 ?l36 ?c36 ?k36,K45.Au ?a37 ?l37 ?c37 ?k37,K45.Au ?a38 ?l38 ?c38 ?k38,K45.Au ?a39 ?l39 ?c39 ?k39,K45.Au ?a40 ?l40 ?c40 ?k40,K45.Au ?a41 ?l41 ?c41 ?k41,K45.Au ?a42 ?l42 ?c42 ?k42,K45.Au ?a43 ?l43 ?c43 ?k43,K45.Au ?a44 ?l44 ?c44 ?k44,K45.Au ?a45 ?l45 ?c45 ?k45,K45.Au ?a46 ?l46 ?c46 ?k46,K45.Au ?a47 ?l47 ?c47 ?k47,K45.Au ?a48 ?l48 ?c48 ?k48,K45.Au ?a49 ?l49 ?c49 ?k49,K45.Au ?a50 ?l50 ?c50 ?k50,K45.Au ?a51 ?l51 ?c51 ?k51,?z_all,?z_any,?z_bool,?z_dict,?z_enumerate,?z_int,?z_isinstance,?z_len,?z_list,?z_min,?z_range,?z_set,?z_sorted,?z_str,?z_tuple,?z_zip,K45.SS ?y_MOST_BEGINNINGS⟩
  case a0|l0|c0|k0|a1|l1|c1|k1|a2|l2|c2|k2|a3|l3|c3|k3|a4|l4|c4|k4|a5|l5|c5|k5|a6|l6|c6|k6|a7|l7|c7|k7|a8|l8|c8|k8|a9|l9|c9|k9|a10|l10|c10|k10|a11|l11|c11|k11|a12|l12|c12|k12|a13|l13|c13|k13|a14|l14|c14|k14|a15|l15|c15|k15|a16|l16|c16|k16|a17|l17|c17|k17|a18|l18|c18|k18|a19|l19|c19|k19|a20|l20|c20|k20|a21|l21|c21|k21|a22|l22|c22|k22|a23|l23|c23|k23|a24|l24|c24|k24|a25|l25|c25|k25|a26|l26|c26|k26|a27|l27|c27|k27|a28|l28|c28|k28|a29|l29|c29|k29|a30|l30|c30|k30|a31|l31|c31|k31|a32|l32|c32|k32|a33|l33|c33|k33|a34|l34|c34|k34|a35|l35|c35|k35|a36|l36|c36|k36|a37|l37|c37|k37|a38|l38|c38|k38|a39|l39|c39|k39|a40|l40|c40|k40|a41|l41|c41|k41|a42|l42|c42|k42|a43|l43|c43|k43|a44|l44|c44|k44|a45|l45|c45|k45|a46|l46|c46|k46|a47|l47|c47|k47|a48|l48|c48|k48|a49|l49|c49|k49|a50|l50|c50|k50|a51|l51|c51|k51|z_all|z_any|z_bool|z_dict|z_enumerate|z_int|z_isinstance|z_len|z_list|z_min|z_range|z_set|z_sorted|z_str|z_tuple|z_zip|y_MOST_BEGINNINGS=>k_is
end
set_option Elab.async false
set_option linter.all false
set_option maxRecDepth 100000
namespace L2
open PySem PySem.Spec PyProof.Rows
abbrev AN:=Sum Int Str
def NM:AN->Value->Bool
 |.inl k,v=>Value.isInt k v
 |.inr x,v=>Value.isStrOf x v
def SU (w:World):AN->Int
 |.inl k=>hashInt k
 |.inr x=>hashStr w x
theorem Jp:∀{k:AN}{v:Value},NM k v=true->(∃i t,k=Sum.inl i/\v=Value.int i t)\/(∃x t,k=Sum.inr x/\v=Value.str x t)
 |.inl i,v,h=>by
   obtain⟨t,e⟩:=Value.isInt_shape (k:=i) (v:=v) h;exact .inl ⟨i,t,rfl,e⟩
 |.inr x,v,h=>by
   obtain⟨t,e⟩:=Value.isStrOf_shape (x:=x) (v:=v) h;exact .inr ⟨x,t,rfl,e⟩
def Zh(i:Int)(t:Tok):NM (.inl i) (.int i t)=true:=by simp[NM,Value.isInt]
def Zi(x:Str)(t:Tok):NM (.inr x) (.str x t)=true:=by simp[NM,Value.isStrOf]
def LL(a b:Int):decide ((Sum.inl a:AN)=Sum.inl b)=(a==b):=by
 by_cases e:a=b;subst e;simp;have h:¬(Sum.inl a:AN)=Sum.inl b:=λq=>e (Sum.inl.inj q);rw[D1 h];exact(beq_eq_false_iff_ne.mpr e).symm
def LM(a b:Str):decide ((Sum.inr a:AN)=Sum.inr b)=decide (a=b):=by
 by_cases e:a=b;subst e;simp;have h:¬(Sum.inr a:AN)=Sum.inr b:=λq=>e (Sum.inr.inj q);rw[D1 h,D1 e]
def LO(a:Int)(b:Str):decide ((Sum.inl a:AN)=Sum.inr b)=false:=D1 (λq=>nomatch q)
def LP(a:Str)(b:Int):decide ((Sum.inr a:AN)=Sum.inl b)=false:=D1 (λq=>nomatch q)
def ES (prog:Program) (w:World):PySem.KeyKind prog w AN where
 is:=NM
 hash:=SU w
 inj:=λv a b ha hb=>by
  rcases Jp ha with⟨i,t,rfl,rfl⟩|⟨x,t,rfl,rfl⟩;rcases Jp hb with⟨j,u,rfl,e⟩|⟨y,u,rfl,e⟩;injection e with e1 _;rw[e1];exact nomatch e;rcases Jp hb with⟨j,u,rfl,e⟩|⟨y,u,rfl,e⟩;exact nomatch e;injection e with e1 _;rw[e1]
 byValue:=λk v h=>by
  rcases Jp h with⟨i,t,rfl,rfl⟩|⟨x,t,rfl,rfl⟩<;>rfl
 pyHash:=λhv h=>by
  rcases Jp hv with⟨i,t,rfl,rfl⟩|⟨x,t,rfl,rfl⟩;exact wpAny_pyHash_int h;exact wpAny_pyHash_str h
 eqBool:=λhu hv h=>by
  rcases Jp hu with⟨i,t,rfl,rfl⟩|⟨x,t,rfl,rfl⟩;rcases Jp hv with⟨j,u,rfl,rfl⟩|⟨y,u,rfl,rfl⟩;rw[LL] at h;exact wpAny_eqBool_int h;rw[LO] at h;exact SeqAt.EqAt.int_str i t y u _ _ _ _ h;rcases Jp hv with⟨j,u,rfl,rfl⟩|⟨y,u,rfl,rfl⟩;rw[LP] at h;exact SeqAt.EqAt.str_int x t j u _ _ _ _ h;rw[LM] at h;exact wpAny_eqBool_str h
 «strs»:=λk x t v h=>by
  rcases Jp h with⟨i,u,rfl,e⟩|⟨y,u,rfl,e⟩;exact nomatch e;injection e with e1 _;subst e1;cases v<;>rfl
def Zj(prog:Program)(w:World)(i:Int)(t:Tok):(ES prog w).is (.inl i) (.int i t)=true:=Zh i t
def Zk(prog:Program)(w:World)(x:Str)(t:Tok):(ES prog w).is (.inr x) (.str x t)=true:=Zi x t
inductive V where
 |non|bl (b:Bool)|int (i:Int)|str (x:Str)|byt (b:Array UInt8)|flt (b:UInt64)|ref (a:Addr)|ty (n:String)
 deriving DecidableEq
def RelV:V->Value->Prop
 |.non,u=>u=Value.none
 |.bl b,u=>u=Value.bool b
 |.int i,u=>∃t,u=Value.int i t
 |.str x,u=>∃t,u=Value.str x t
 |.byt b,u=>∃t,u=Value.bytes b t
 |.flt b,u=>∃t,u=Value.float b t
 |.ref a,u=>u=Value.ref a
 |.ty n,u=>u=Value.type n
abbrev At:List V->List Value->Prop:=Paired RelV
def At.length{xs:List V}{us:List Value}(r:At xs us):xs.length=us.length:=Paired.length r
theorem At.get:∀{xs:List V}{us:List Value}{i:Nat}{x:V},At xs us->xs[i]?=some x->∃u,us[i]?=some u/\RelV x u
 |_,_,_,_,.nil,e=>by simp at e
 |_,_,0,_,.cons r _,e=>by simp at e;subst e;exact⟨_,rfl,r⟩
 |_,_,i+1,x,.cons _ t,e=>by
   obtain⟨u,a,b⟩:=At.get (i:=i) (x:=x) t (by simpa using e);exact⟨u,by simpa using a,b⟩
theorem At.set{x:V}{u:Value}(r:RelV x u):∀{xs:List V}{us:List Value}(i:Nat),At xs us->At (xs.set i x) (us.set i u)
 |_,_,_,.nil=>.nil
 |_,_,0,.cons _ t=>.cons r t
 |_,_,i+1,.cons q t=>.cons q (At.set r i t)
theorem At.append:∀{xs ys:List V}{us ws:List Value},At xs us->At ys ws->At (xs++ys) (us++ws)
 |_,_,_,_,.nil,s=>s
 |_,_,_,_,.cons r t,s=>.cons r (At.append t s)
theorem At.take:∀{xs:List V}{us:List Value}(n:Nat),At xs us->At (xs.take n) (us.take n)
 |_,_,0,_=>.nil
 |_,_,_+1,.nil=>.nil
 |_,_,n+1,.cons r t=>.cons r (At.take n t)
theorem At.drop:∀{xs:List V}{us:List Value}(n:Nat),At xs us->At (xs.drop n) (us.drop n)
 |_,_,0,r=>r
 |_,_,_+1,.nil=>.nil
 |_,_,n+1,.cons _ t=>At.drop n t
def El:Option V->Option Value->Prop
 |some v,some u=>RelV v u
 |none,none=>True
 |_,_=>False
def KV {κ:Type}:List (κ×V)->List (κ×Value)->Prop:=Paired λ(p:κ×V)(q:κ×Value)=>p.1=q.1/\RelV p.2 q.2
def kV:AN->V
 |.inl i=>.int i
 |.inr x=>.str x
inductive HO where
 |lst (xs:List V)
 |tup (xs:List V)
 |dK (kvs:List (AN×V))|dT (kvs:List (List AN×V))
 |set (S:Int->Bool) (n:Nat)
 |ins (C dx:Addr) (fs:List (Str×V))
 |own (x:Addr)
 |xd (fs:List (Str×V))
 |met (f x:Addr)
 |rng (lo hi:Int)
 |frz (o:Obj) (u:HO)
 |tbl (ps:Array Value)
 |ext (φ:Heap->Prop)
abbrev Hp:=Addr->Option HO
def upd (H:Hp) (a:Addr) (o:HO):Hp:=λb=>if b=a then some o else H b
variable {H:Hp}{a:Addr}{o:HO}
def Aa:upd H a o a=some o:=by unfold upd;rw[Al rfl]
variable {b:Addr}
def AD(h:b≠a):upd H a o b=H b:=by unfold upd;rw[An h]
variable {u:HO}
def V0:upd (upd H a o) a u=upd H a u:=by
 funext b;unfold upd;split<;>rfl
def NN(h:H a=some o)(h':H b=some u)(d:o≠u):a≠b:=by
 intro e;subst e;rw[h] at h';exact d (Bz h')
def AX(h:H a=some o)(h':H b=none):a≠b:=by
 intro e;subst e;rw[h] at h';cases h'
section
variable (P:Program) (w:World)
def AB (H:Hp) (h:Heap) (a:Addr):HO->Prop
 |.lst xs=>xs.length<=sizeLine/\∃(its:List Value)(n:Nat),At xs its/\h.get? a=some {cls:=.type "list",data:=.seq its.toArray n}
 |.tup xs=>xs.length<=sizeLine/\∃its:List Value,At xs its/\IsTup h a its.toArray
 |.dK kvs=>kvs.length<=sizeLine/\(a==sysModules)=false/\∃vs,KV kvs vs/\h.DictOf (ES P w) a vs
 |.dT kvs=>kvs.length<=sizeLine/\(a==sysModules)=false/\∃xs:List (List AN×Addr×Value),
  Paired (λ(p:List AN×V)(q:List AN×Addr×Value)=>p.1=q.1/\H q.2.1=some (.tup (p.1.map kV))/\RelV p.2 q.2.2) kvs xs /\
  ∃o es ep,h.get? a=some o/\o.ExactDict/\o.data=.dict es ep/\es.toList=xs.map (entryOfKey (tupleKind (ES P w)))/\(xs.map (·.1)).Nodup
 |.set S n=>h.SetOf (intKind P w) a S n
 |.ins C dx fs=>H dx=some (.own a)/\fs.length<=1000/\dx≠a/\h.get? a=some (PySem.W.instObj C dx) /\
  ∃mA,h.Ns1 dx mA/\(∀f,El (fs.lookup f) (mA f))/\PySem.Within mA (fs.map (·.1))
 |.own _=>∃o,h.get? a=some o
 |.xd fs=>∃mA,h.Ns1 a mA/\∀f,El (fs.lookup f) (mA f)
 |.rng lo hi=>∃t u v,h.get? a=some {cls:=.type "range",data:=.fields #[.int lo t,.int hi u,.int 1 v]}
 |.frz o u=>h.get? a=some o/\AB H h a u
 |.tbl ps=>h.get? a=some {cls:=.none,data:=.fields ps}
 |.met f x=>h.get? a=some (PySem.W.methodObj (.ref f) (.ref x))
 |.ext φ=>φ h/\(∃o,h.get? a=some o)/\∀h1 h2:Heap,φ h1->(∀o,h1.get? a=some o->h2.get? a=some o)->φ h2
def C7 (H:Hp) (h:Heap):Prop:=∀a o,H a=some o->AB P w H h a o
end
section
variable {P:Program} {w:World} {H H':Hp} {h h':Heap} {a:Addr} {o:HO}
def AB.lt(x:AB P w H h a o):a<h.objs.size:=by
 cases o with
 |lst b=>obtain⟨_,_,_,_,e⟩:=x;exact Br e
 |tup b=>obtain⟨_,_,_,p⟩:=x;exact p.lt
 |dK c=>obtain⟨_,_,_,_,o,_,_,e,_⟩:=x;exact Br e
 |dT c=>obtain⟨_,_,_,_,o,_,_,e,_⟩:=x;exact Br e
 |set S n=>obtain⟨o,_,_,_,e,_⟩:=x;exact Br e
 |ins C d fs=>obtain⟨_,_,_,e,_⟩:=x;exact Br e
 |own y=>obtain⟨_,e⟩:=x;exact Br e
 |xd fs=>obtain⟨_,⟨_,_,_,e,_⟩,_⟩:=x;exact Br e
 |rng lo g=>obtain⟨_,_,_,e⟩:=x;exact Br e
 |frz i u=>obtain⟨e,_⟩:=x;exact Br e
 |tbl j=>exact Br (show h.get? a=some _ from x)
 |met f y=>exact Br (show h.get? a=some _ from x)
 |ext φ=>obtain⟨_,⟨_,e⟩,_⟩:=x;exact Br e
theorem Paired.mapP{α β:Type}{F G:α->β->Prop}:∀{c:List α}{d:List β},Paired F c d->(∀a b,F a b->G a b)->Paired G c d
 |_,_,.nil,_=>.nil
 |_,_,.cons r t,f=>.cons (f _ _ r) (Paired.mapP t f)
def AB.stay(x:AB P w H h a o)(k:∀b u,(b=a\/H b=some (.own a))->h.get? b=some u->h'.get? b=some u)
 (B:∀b,H b=some (.own a)->H' b=some (.own a)) (D:∀b xs,H b=some (.tup xs)->H' b=some (.tup xs)):AB P w H' h' a o:=by
 induction o with
 |lst xs=>obtain⟨z,m,n,r,e⟩:=x;exact⟨z,m,n,r,k _ _ (.inl rfl) e⟩
 |tup xs=>obtain⟨z,m,r,g,e,c⟩:=x;exact⟨z,m,r,g,k _ _ (.inl rfl) e,c⟩
 |dK I=>obtain⟨z,y,E,r,g,i,j,e,c⟩:=x;exact⟨z,y,E,r,g,i,j,k _ _ (.inl rfl) e,c⟩
 |dT I =>
   obtain⟨z,y,xs,r,g,i,j,e,c⟩:=x;exact⟨z,y,xs,Paired.mapP r λp q z=>⟨z.1,D _ _ z.2.1,z.2.2⟩,g,i,j,k _ _ (.inl rfl) e,c⟩
 |set S n=>obtain⟨g,i,j,t,e,c⟩:=x;exact⟨g,i,j,t,k _ _ (.inl rfl) e,c⟩
 |ins C J fs =>
   obtain⟨d,z,ne,e,mA,⟨l,i,j,F,c⟩,r⟩:=x;exact⟨B _ d,z,ne,k _ _ (.inl rfl) e,mA,⟨l,i,j,k _ _ (.inr d) F,c⟩,r⟩
 |own y=>obtain⟨g,e⟩:=x;exact⟨g,k _ _ (.inl rfl) e⟩
 |xd fs=>obtain⟨mA,⟨l,i,j,e,c⟩,r⟩:=x;exact⟨mA,⟨l,i,j,k _ _ (.inl rfl) e,c⟩,r⟩
 |rng lo K=>obtain⟨t,u,v,e⟩:=x;exact⟨t,u,v,k _ _ (.inl rfl) e⟩
 |frz g u G=>obtain⟨e,q⟩:=x;exact⟨k _ _ (.inl rfl) e,G q⟩
 |tbl s =>
   have e:h.get? a=some {cls:=.none,data:=.fields s}:=x;show h'.get? a=some {cls:=.none,data:=.fields s};exact k a _ (.inl rfl) e
 |met f y =>
   have e:h.get? a=some (PySem.W.methodObj (.ref f) (.ref y)):=x;show h'.get? a=some (PySem.W.methodObj (.ref f) (.ref y));exact k a _ (.inl rfl) e
 |ext φ=>obtain⟨p,⟨o,e⟩,A⟩:=x;exact⟨A _ _ p λo q=>k _ _ (.inl rfl) q,⟨o,k _ _ (.inl rfl) e⟩,A⟩
def C7.lt(x:C7 P w H h)(e:H a=some o):a<h.objs.size:=(x a o e).lt
def C7.fresh(x:C7 P w H h)(e:h.objs.size<=a):H a=none:=by
 cases q:H a with
 |none=>rfl
 |some u=>exact absurd (FW (x.lt q) e) (Hs _)
def C7.kept(x:C7 P w H h)(k:∀b u,h.get? b=some u->h'.get? b=some u):C7 P w H h':=λa o e =>
 (x a o e).stay (λb u ζ q=>k b u q) (λζ q=>q) λζ ζ q=>q
def C7.laid(x:C7 P w H h)(k:∀b u,h.get? b=some u->h'.get? b=some u)(g:h.objs.size<=a)(i:AB P w (upd H a o) h' a o):C7 P w (upd H a o) h':=λb u e=>by
 have d:=x.fresh g;by_cases f:b=a;subst f;rw[Aa] at e;cases e;exact i;rw[AD f] at e;exact(x b u e).stay (λc v ζ q=>k c v q) (λc q=>by rw[AD (AX q d)];exact q) λc j q=>by rw[AD (AX q d)];exact q
end
def Rd (H:Hp) (a:Addr) (u:HO):Prop:=H a=some u\/∃o,H a=some (.frz o u)
variable {P:Program}{w:World}{h:Heap}
def Rd.ok(r:Rd H a u)(x:C7 P w H h):AB P w H h a u:=by
 rcases r with r|⟨o,r⟩;exact x a u r;obtain⟨_,q⟩:=x a _ r;exact q
def Ot:Option HO->Prop
 |some (.lst _)=>True
 |some (.dK _)=>True
 |some (.dT _)=>True
 |some (.set _ _)=>True
 |some (.ins _ _ _)=>True
 |some (.ext _)=>True
 |_=>False
section
variable {P:Program} {w:World} {H:Hp} {h h':Heap} {x e:Addr} {o':HO}
def C7.write(ok:C7 P w H h)(a:Ot (H x))(j:e=x\/H e=some (.own x))(k:∀b u,b≠e->h.get? b=some u->h'.get? b=some u)(o:∃u,h'.get? e=some u)
 (p:AB P w (upd H x o') h' x o'):C7 P w (upd H x o') h':=λb u q=>by
 have m:∀c y,H c=some (.own y)->c≠x:=λc y r z=>by subst z;rw[r] at a;exact a
 have s:∀c d,H c=some (.tup d)->c≠x:=λc d r z=>by subst z;rw[r] at a;exact a
 by_cases f:b=x;subst f;rw[Aa] at q;cases q;exact p;rw[AD f] at q;by_cases i:b=e
 have l:H b=some (.own x):=by
  rcases j with z|z;exact absurd (i.trans z) f;rw[i];exact z
 rw[q] at l;cases l;obtain⟨v,n⟩:=o;exact⟨v,by rw[i];exact n⟩;refine(ok b u q).stay (λc v g r=>k c v ?_ r) (λc r=>by rw[AD (m c b r)];exact r) λc d r=>by rw[AD (s c d r)];exact r
 rcases g with rfl|g;exact i;rintro rfl;rcases j with z|z;exact m c b g z;rw[g] at z;cases z;exact f rfl
end
structure Un (fs ex:List Addr) (H H':Hp) (h h':Heap):Prop where
 keep:∀b o,h.get? b=some o->H b=none->b∉fs->b∉ex->h'.get? b=some o
 slot:∀b o,h.get? b=some o->H b=none->b∈fs->b∉ex->∃sl,h'.get? b=some {o with slots:=sl}
 free:∀b o,h.get? b=some o->H b=none->b∉ex->H' b=none
 there:∀b o,h.get? b=some o->b∉ex->∃o',h'.get? b=some o'
 tups:∀b xs,H b=some (.tup xs)->H' b=some (.tup xs)
 frzs:∀b o u,H b=some (.frz o u)->H' b=some (.frz o u)
 tbls:∀b ps,H b=some (.tbl ps)->∃more,H' b=some (.tbl (ps++more))
section
variable {fs fs' ex ex':List Addr} {H Y H2:Hp} {h h1 h2 h':Heap} {a x e:Addr} {o:HO}
def Un.any(u:Un fs ex H Y h h1){ob:Obj}(q:h.get? b=some ob)(n:H b=none)(a:b∉ex):∃d,h1.get? b=some {ob with slots:=d}:=by
 by_cases c:b∈fs;exact u.slot b ob q n c a;exact⟨ob.slots,u.keep b ob q n c a⟩
def Un.kept(k:∀b u,h.get? b=some u->h'.get? b=some u):Un fs ex H H h h':=
 ⟨λb a q ζ ζ ζ=>k b a q,λb a q ζ ζ ζ=>⟨a.slots,k b a q⟩,λζ ζ ζ n ζ=>n,λb a q ζ=>⟨a,k b a q⟩,λζ ζ q=>q,λζ ζ ζ q=>q,λζ c q=>⟨#[],by rw[q];simp⟩⟩
def Un.refl:Un fs ex H H h h:=Un.kept λζ ζ q=>q
def Un.laid(k:∀b u,h.get? b=some u->h'.get? b=some u)(d:h.objs.size<=a)(c:H a=none):Un fs ex H (upd H a o) h h' where
 keep:=λb u q ζ ζ ζ=>k b u q
 slot:=λb u q ζ ζ ζ=>⟨u.slots,k b u q⟩
 free:=λb u q n ζ=>by rw[AD (CF (FW (Br q) d))];exact n
 there:=λb u q ζ=>⟨u,k b u q⟩
 tups:=λb e q=>by rw[AD (AX q c)];exact q
 frzs:=λb u e q=>by rw[AD (AX q c)];exact q
 tbls:=λb f q=>⟨#[],by rw[AD (AX q c),q];simp⟩
def Un.write(a:Ot (H x))(i:e=x\/H e=some (.own x))(k:∀b u,b≠e->h.get? b=some u->h'.get? b=some u)(m:∃u,h'.get? e=some u):Un fs ex H (upd H x o) h h':=by
 have d:∀b,H b=none->b≠x:=λb n z=>by subst z;rw[n] at a;exact a
 have f:∀b,H b=none->b≠e:=λb n z=>by
  subst z;rcases i with r|r;exact d b n r;rw[n] at r;cases r
 have c:∀b u,H b=some u->¬Ot (some u)->b≠x:=λb u q j z=>by subst z;rw[q] at a;exact j a
 refine⟨λb u q n ζ ζ=>k b u (f b n) q,λb u q n ζ ζ=>⟨u.slots,k b u (f b n) q⟩,λb u q n ζ=>by rw[AD (d b n)];exact n,λb u q ζ=>?_,
  λb l q=>by rw[AD (c b _ q λz=>z)];exact q,λb u l q=>by rw[AD (c b _ q λz=>z)];exact q,λb p q=>⟨#[],by rw[AD (c b _ q λz=>z),q];simp⟩⟩
 by_cases g:b=e;subst g;exact m;exact⟨u,k b u g q⟩
end
def Qp (h:Heap) (H:Hp):List Addr:=(List.range h.objs.size).filter λa=>(H a).isSome
def FC (h:Heap) (H:Hp):Heap:=PySem.W.hideAll h (Qp h H)
def Zl(h:Heap)(H:Hp):(FC h H).objs.size=h.objs.size:=PySem.W.hideAll_size _ _
def Zm{o:Obj}(e:h.get? b=some o)(n:H b=none):(FC h H).get? b=some o:=
 PySem.W.hideAll_get _ e λa=>by
  have q:(H b).isSome=true:=(KW.mp a).2;rw[n] at q;simp at q
def Jq{o:Obj}(e:(FC h H).get? b=some o):h.get? b=some o/\H b=none:=by
 have a:h.get? b=some o:=PySem.W.of_hideAll (Qp h H) e;refine⟨a,?_⟩
 cases q:H b with
 |none=>rfl
 |some x =>
   have c:b∈Qp h H:=KW.mpr ⟨List.mem_range.mpr (Br a),by simp[q]⟩;have z:(FC h H).get? b=none:=PySem.W.hideAll_none (Qp h H) c;rw[z] at e;cases e
structure Mod (K:Ah) (mg:Str->Option Value) (base:Heap):Prop where
 kin:K.In base
 glob:base.Ns mainGlobals mg
 blt:∃mb,base.Ns builtinsNs mb/\∀x:Str,x ≠ "__name__" -> mb x=bootBuiltins x
 nolimit:base.NoLimit
structure Cx where
 prog:Program
 w:World
 K:Ah
 mg:Str->Option Value
 base:Heap
 A:Around
 N:List Str
 s₀:Shared
 H₀:Hp
 env:Env
 outer:List Env
 stack:List Env
 ex:List Addr
 fn:Str->Bool
 calm:Bool
 pn:B'
 xe:Value->Shared->Prop
def E9 (l:List Env):List Addr:=l.filterMap (·.frame)
abbrev Cx.fs (X:Cx):List Addr:=E9 X.outer
def Qq (sc:Scope) (x:Str):Prop:=sc.names.lookup x=some .local\/sc.names.lookup x=some .cell\/sc.names.lookup x=some .free
def Loc (sc:Scope) (x:Str):Prop:=sc.names.lookup x=some .local\/sc.names.lookup x=some .cell
def Look (env:Env) (h:Heap) (m:Str->Option Value) (x:Str) (u:Value):Prop:=
 (env.kindOf x=some .local/\m x=some u)\/((env.kindOf x=some .cell\/env.kindOf x=some .free)/\∃c,env.cells.lookup x=some c/\h.IsCell c (some u))
structure Cx.Ok (X:Cx):Prop where
 mod:Mod X.K X.mg X.base
 kind:X.env.scope.kind=.function
 glob:X.env.globals=mainGlobals
 blt:X.env.builtins=builtinsNs
 above:X.s₀.heap.objs.size<=X.env.locals
 inj:∀x y c,X.env.cells.lookup x=some c->X.env.cells.lookup y=some c->x=y
 has:∀x,(X.env.kindOf x=some .cell\/X.env.kindOf x=some .free)->∃c,X.env.cells.lookup x=some c
 cab:∀x c,X.fn x=true->X.env.cells.lookup x=some c->X.s₀.heap.objs.size<=c
 hd:X.calm=true->X.A.handled=none
 frames:X.A.frames=some X.stack
 stk:X.stack=X.outer\/(X.stack=X.env::X.outer/\X.env.frame=some X.env.locals)
 exf:∀b∈X.ex,b≠X.env.locals/\∀x c,X.env.cells.lookup x=some c->c≠b
 bs:∀b o,X.base.get? b=some o->X.s₀.heap.get? b=some o/\X.H₀ b=none
 bsz:X.base.objs.size<=X.s₀.heap.objs.size
 noex:∀b o,X.base.get? b=some o->b∉X.ex
 exfs:∀b∈X.ex,b∉X.fs
 funs:X.s₀.heap.FunFrames X.base X.outer
 frf:∀b∈X.fs,X.H₀ b=none
structure Inv (X:Cx) (pins:B') (σ:List (Option V)) (H:Hp) (s:Shared):Prop where
 ok:X.Ok
 os:s.os=X.s₀.os
 bare:AllBare s.gens
 base:Un X.fs X.ex X.H₀ H X.s₀.heap s.heap
 loc:∃m,s.heap.Ns X.env.locals m/\∀(i:Nat)(x:Str)(v:V),X.N[i]?=some x->σ[i]?=some (some v)->Qq X.env.scope x->∃u,RelV v u/\Look X.env s.heap m x u
 cell:∀x c,X.env.cells.lookup x=some c->∃v,s.heap.IsCell c v
 free:H X.env.locals=none
 freeC:∀x c,X.env.cells.lookup x=some c->H c=none
 pin:∀p∈X.pn++pins,s.heap.get? p.1=some p.2/\H p.1=none/\p.1≠X.env.locals/\p.1∉X.fs/\∀v,p.2.data≠.cell v
 hok:C7 X.prog X.w H s.heap
 len:σ.length=X.N.length
section
variable {X:Cx} {pins:B'} {σ:List (Option V)} {H H':Hp} {s:Shared} {h':Heap}
def Cx.Ok.nofr(ok:X.Ok){o:Obj}(e:X.base.get? b=some o):b∉X.fs:=λa=>by
 have:=(ok.funs.mem a).1;rw[e] at this;cases this
def Inv.bs(I:Inv X pins σ H s):∀b o,X.base.get? b=some o->s.heap.get? b=some o/\H b=none:=λb o e =>
 ⟨I.base.keep b o (I.ok.bs b o e).1 (I.ok.bs b o e).2 (I.ok.nofr e) (I.ok.noex b o e),I.base.free b o (I.ok.bs b o e).1 (I.ok.bs b o e).2 (I.ok.noex b o e)⟩
def Inv.bk(I:Inv X pins σ H s):∀b o,X.base.get? b=some o->s.heap.get? b=some o:=λb o e=>(I.bs b o e).1
def Inv.mod(I:Inv X pins σ H s):Mod X.K X.mg X.base:=I.ok.mod
def Inv.kIn(I:Inv X pins σ H s):X.K.In s.heap:=I.ok.mod.kin.keeps I.bk
def Inv.lt(I:Inv X pins σ H s):X.env.locals<s.heap.objs.size:=let ⟨_,a,_⟩:=I.loc;a.lt
def Inv.sz(I:Inv X pins σ H s):X.s₀.heap.objs.size<=s.heap.objs.size:=Ek I.ok.above (CI I.lt)
def Inv.nofs(I:Inv X pins σ H s)(h:s.heap.objs.size<=a):a∉X.fs:=λb=>by
 obtain⟨_,o,c,_⟩:=I.ok.funs.mem b;exact absurd (FW (Br c) (Ek I.sz h)) (Hs _)
def Inv.cne(I:Inv X pins σ H s):∀x c,X.env.cells.lookup x=some c->c≠X.env.locals:=λx c e z=>by
 obtain⟨v,o,a,hd⟩:=I.cell x c e;obtain⟨m,⟨f,g,h,b,d,_⟩,_⟩:=I.loc;rw[z,b] at a;cases a;rw[d] at hd;cases hd
def Inv.funs(I:Inv X pins σ H s):s.heap.FunFrames X.base X.outer:=by
 have all:∀(l:List Env),(∀b∈E9 l,b∈X.fs)->X.s₀.heap.FunFrames X.base l->s.heap.FunFrames X.base l:=by
  intro l
  induction l with
  |nil=>intro _ _;trivial
  |cons p r g =>
    intro f h;obtain⟨i,⟨L,o,a,j,k,hd⟩,m⟩:=h;have c:L∈X.fs:=f L (by unfold E9;rw[R1,a];exact Bn);obtain⟨n,e⟩:=I.base.slot L o k (I.ok.frf L c) c λz=>I.ok.exfs L z c;exact⟨i,⟨L,_,a,j,e,hd⟩,g (λb d=>f b (by unfold E9;rw[R1,a];exact B6 _ d)) m⟩
 exact all X.outer (λζ d=>d) I.ok.funs
def Inv.stack(I:Inv X pins σ H s):s.heap.FunFrames X.base X.stack:=by
 rcases I.ok.stk with e|⟨e,a⟩;rw[e];exact I.funs;rw[e];obtain⟨m,b,_⟩:=I.loc;refine .cons (by rw[I.ok.kind];decide) a b ?_ I.funs;exact Heap.get?_none_of_le (Ek I.ok.bsz I.ok.above)
def Inv.stkSub(I:Inv X pins σ H s):∀b∈E9 X.stack,b∈X.env.locals::X.fs:=λb a=>by
 rcases I.ok.stk with e|⟨e,c⟩;rw[e] at a;exact B6 _ a;rw[e] at a;unfold E9 at a;rw[R1,c] at a;exact a
def Inv.stkFree(I:Inv X pins σ H s):∀b∈E9 X.stack,H b=none:=λb a=>by
 rcases B5.mp (I.stkSub b a) with e|a;rw[e];exact I.free;obtain⟨_,o,c,_⟩:=I.ok.funs.mem a;exact I.base.free b o c (I.ok.frf b a) λz=>I.ok.exfs b z a
variable {t':Nat}{ch:List Addr}
def Inv.step{g':Array GenState}{d':Drawn}(I:Inv X pins σ H s)
 (w:∀b∈ch,(b∈X.ex\/X.s₀.heap.objs.size<=b)/\b≠X.env.locals/\(∀x c,X.env.cells.lookup x=some c->c≠b)/\∀p∈X.pn++pins,p.1≠b)
 (keep:∀b o,b≠X.env.locals->b∉X.fs->b∉ch->s.heap.get? b=some o->H b=none->h'.get? b=some o)
 (G:∀b o,b≠X.env.locals->b∈X.fs->b∉ch->s.heap.get? b=some o->H b=none->∃B,h'.get? b=some {o with slots:=B}) (free:∀b o,b∉ch->s.heap.get? b=some o->H b=none->H' b=none)
 (there:∀b o,b∉ch->s.heap.get? b=some o->∃j,h'.get? b=some j)
 (tups:∀b xs,H b=some (.tup xs)->H' b=some (.tup xs)) (S:∀b o u,H b=some (.frz o u)->H' b=some (.frz o u)) (T:∀b ps,H b=some (.tbl ps)->∃more,H' b=some (.tbl (ps++more)))
 (ns:∀m,s.heap.Ns X.env.locals m->h'.Ns X.env.locals m) (Q:C7 X.prog X.w H' h') (K:AllBare g') :
 Inv X pins σ H' {s with heap:=h',gens:=g',drawn:=d',toks:=t'}:=by
 have F:∀b o,X.s₀.heap.get? b=some o->b≠X.env.locals:=λb o e=>CF (FW (Br e) I.ok.above)
 have A:∀b o,X.s₀.heap.get? b=some o->b∉X.ex->b∉ch:=λb o e a g=>by
  rcases(w b g).1 with z|z;exact a z;exact absurd (FW (Br e) z) (Hs _)
 have J:∀x c,X.env.cells.lookup x=some c->∀v,s.heap.IsCell c v->h'.IsCell c v:=λx c e v⟨o,h,hd⟩=>by
  have y:c∉ch:=λz=>(w c z).2.2.1 x c e rfl;by_cases C:c∈X.fs;obtain⟨B,q⟩:=G c o (I.cne x c e) C y h (I.freeC x c e);exact⟨_,q,hd⟩;exact⟨o,keep c o (I.cne x c e) C y h (I.freeC x c e),hd⟩
 refine⟨I.ok,I.os,K,⟨λb o e n g a=>?_,λb o e n g a=>?_,λb o e n a=>?_,λb o e a=>?_,λb xs e=>tups b xs (I.base.tups b xs e),λb o xs e=>S b o xs (I.base.frzs b o xs e),λb ps e=>?_⟩,?_,λx c e=>?_,?_,λx c e=>?_,λp D=>?_,Q,I.len⟩;exact keep b o (F b o e) g (A b o e a) (I.base.keep b o e n g a) (I.base.free b o e n a);obtain⟨B,f⟩:=I.base.slot b o e n g a;obtain⟨R,t⟩:=G b _ (F b o e) g (A b o e a) f (I.base.free b o e n a);exact⟨R,t⟩;obtain⟨j,f⟩:=I.base.there b o e a;exact free b j (A b o e a) f (I.base.free b o e n a);obtain⟨j,f⟩:=I.base.there b o e a;exact there b j (A b o e a) f;obtain⟨L,f⟩:=I.base.tbls b ps e;obtain⟨M,t⟩:=T b _ f;exact⟨L++M,by rw[t,Array.append_assoc]⟩;obtain⟨m,N,O⟩:=I.loc;refine⟨m,ns m N,λi x v f t P=>?_⟩;obtain⟨u,r,l⟩:=O i x v f t P;refine⟨u,r,?_⟩;rcases l with l|⟨k,c,e,z⟩;exact .inl l;exact .inr ⟨k,c,e,J x c e _ z⟩;obtain⟨v,z⟩:=I.cell x c e;exact⟨v,J x c e v z⟩;obtain⟨m,⟨o,_,_,h,_⟩,_⟩:=I.loc;exact free _ o (λz=>(w _ z).2.1 rfl) h I.free;obtain⟨v,o,h,hd⟩:=I.cell x c e;exact free c o (λz=>(w c z).2.2.1 x c e rfl) h (I.freeC x c e);obtain⟨e,n,ne,E,d⟩:=I.pin p D;have y:p.1∉ch:=λz=>(w p.1 z).2.2.2 p D rfl;exact⟨keep p.1 p.2 ne E y e n,free p.1 p.2 y e n,ne,E,d⟩
def Inv.un(I:Inv X pins σ H s)(u:Un X.fs [] H H' s.heap h')(i:C7 X.prog X.w H' h'):Inv X pins σ H' {s with heap:=h',toks:=t'}:=by
 obtain⟨m,⟨o,l,p,c,r⟩,_⟩:=id I.loc;obtain⟨q,f⟩:=u.any c I.free (by simp)
 exact I.step (g':=s.gens) (d':=s.drawn) (ch:=[]) (λζ z=>nomatch z) (λb o ζ a ζ e n=>u.keep b o e n a (by simp)) (λb o ζ a ζ e n=>u.slot b o e n a (by simp)) (λb o ζ e n=>u.free b o e n (by simp)) (λb o ζ e=>u.there b o e (by simp)) u.tups u.frzs u.tbls (λt g=>by
  obtain⟨v,j,k,d,h⟩:=g;rw[c] at d;cases d
  exact⟨_,j,k,f,h⟩) i I.bare
def Inv.call{g':Array GenState}{d':Drawn}(I:Inv X pins σ H s)(u:Un (E9 X.stack) ch H H' s.heap h')(q:C7 X.prog X.w H' h')(i:AllBare g')
 (g:∀b∈ch,(b∈X.ex\/X.s₀.heap.objs.size<=b)/\b≠X.env.locals/\(∀x c,X.env.cells.lookup x=some c->c≠b)/\∀p∈X.pn++pins,p.1≠b) :
 Inv X pins σ H' {s with heap:=h',gens:=g',drawn:=d',toks:=t'}:=by
 obtain⟨m,⟨o,w,y,f,r⟩,_⟩:=id I.loc;obtain⟨A,d⟩:=u.any f I.free λz=>(g _ z).2.1 rfl
 exact I.step (ch:=ch) g (λb o d j a e n=>u.keep b o e n (λz=>(B5.mp (I.stkSub b z)).elim d j) a) (λb o ζ ζ a e n=>u.any e n a) (λb o a e n=>u.free b o e n a) (λb o a e=>u.there b o e a) u.tups u.frzs u.tbls (λB k=>by
  obtain⟨C,t,v,h,l⟩:=k;rw[f] at h;cases h
  exact⟨_,t,v,d,l⟩) q i
def Inv.turned{it:Addr}(I:Inv X pins σ H s)(k:∀b o,b≠it->s.heap.get? b=some o->h'.get? b=some o)(g:H it=none)(d:it≠X.env.locals)
 (h:it∈X.ex\/X.s₀.heap.objs.size<=it) (i:∀x c,X.env.cells.lookup x=some c->c≠it) (j:∀p∈X.pn++pins,p.1≠it):Inv X pins σ H {s with heap:=h',toks:=t'}:=by
 have f:∀b u,H b=some u->b≠it:=λb u e z=>by rw[z,g] at e;cases e
 refine I.step (g':=s.gens) (d':=s.drawn) (ch:=[it]) (λb l=>?_) (λb o ζ ζ a e ζ=>k b o (λz=>a (by simp[z])) e) (λb o ζ ζ a e ζ=>⟨o.slots,k b o (λz=>a (by simp[z])) e⟩) (λζ ζ ζ ζ n=>n)
  (λb o a e=>⟨o,k b o (λz=>a (by simp[z])) e⟩) (λζ ζ e=>e) (λζ ζ ζ e=>e) (λb B e=>⟨#[],by rw[e];simp⟩) (λm t=>?_) (λb u e=>?_) I.bare
 have e:b=it:=(by simpa using l);subst e;exact⟨h,d,i,j⟩;obtain⟨o,w,y,A,r⟩:=t;exact⟨o,w,y,k _ o (Ne.symm d) A,r⟩;refine(I.hok b u e).stay (λc v a q=>k c v ?_ q) (λζ q=>q) λζ ζ q=>q;rcases a with z|z;rw[z];exact f b u e;exact f c _ z
def Inv.tok(I:Inv X pins σ H s)(t:Nat):Inv X pins σ H {s with toks:=t}:=I.un (h':=s.heap) (t':=t) Un.refl I.hok
def Inv.kept{t':Nat}(I:Inv X pins σ H s)(k:∀b u,s.heap.get? b=some u->h'.get? b=some u):Inv X pins σ H {s with heap:=h',toks:=t'}:=I.un (Un.kept k) (I.hok.kept k)
def Inv.laid{a:Addr}{o:HO}{t':Nat}(I:Inv X pins σ H s)(k:∀b u,s.heap.get? b=some u->h'.get? b=some u)(c:s.heap.objs.size<=a)(d:AB X.prog X.w (upd H a o) h' a o) :
 Inv X pins σ (upd H a o) {s with heap:=h',toks:=t'}:=I.un (Un.laid k c (I.hok.fresh c)) (I.hok.laid k c d)
def Inv.write{x e:Addr}{o:HO}{t':Nat}(I:Inv X pins σ H s)(a:Ot (H x))(c:e=x\/H e=some (.own x))(k:∀b u,b≠e->s.heap.get? b=some u->h'.get? b=some u)(d:∃u,h'.get? e=some u)
 (f:AB X.prog X.w (upd H x o) h' x o):Inv X pins σ (upd H x o) {s with heap:=h',toks:=t'}:=I.un (Un.write a c k d) (I.hok.write a c k d f)
def Inv.pins_of{a:B'}(I:Inv X pins σ H s)(h:∀p∈a,s.heap.get? p.1=some p.2/\H p.1=none/\p.1≠X.env.locals/\p.1∉X.fs/\∀v,p.2.data≠.cell v):Inv X a σ H s:=
 ⟨I.ok,I.os,I.bare,I.base,I.loc,I.cell,I.free,I.freeC,λp b=>(BI.mp b).elim (λz=>I.pin p (Eu _ z)) (h p),I.hok,I.len⟩
variable {i:Nat}{x:Str}
def V1{N:List Str}(c:N.Nodup){j:Nat}(a:N[i]?=some x)(b:N[j]?=some x):i=j:=by
 obtain⟨f,d⟩:=AY.mp a;obtain⟨g,e⟩:=AY.mp b;exact(List.getElem_inj c).mp (d.trans e.symm)
def V2{ai:Model}{A:Around}{E:D'}{v:V}{u:Value}{Q:Unit->Shared->Prop}(I:Inv X pins σ H s)(U:X.N.Nodup)(D:X.N[i]?=some x)(m:Loc X.env.scope x)(r:RelV v u)
 (h:∀Z,Inv X pins (σ.set i (some v)) H Z->(∃a,Heap.SameBut a s.heap Z.heap/\(a=X.env.locals\/X.env.cells.lookup x=some a))->Q () Z) (hf:X.fn x=true\/X.env.scope.names.lookup x=some .local:=by first|exact .inl rfl|exact .inr rfl|assumption):wpAny ai A (storeName X.env x u) Q E s:=by
 obtain⟨aj,J,W⟩:=id I.loc;have an:(X.env.scope.kind==.class || (X.env.scope.kind==.module && X.env.locals != X.env.globals))=false:=by rw[I.ok.kind];rfl
 have aa:i<σ.length:=by rw[I.len];exact(AY.mp D).1
 have cne:=I.cne
 have ah:∀{a:Addr}{h':Heap},(∃o,s.heap.get? a=some o/\H a=none)->Heap.SameBut a s.heap h'->C7 X.prog X.w H h':=λ{a h'}ha f b ob e=>by
  obtain⟨_,_,ag⟩:=ha;refine(I.hok b ob e).stay (λc F l q=>(f.2 c ?_).trans q) (λζ q=>q) λζ ζ q=>q;rintro rfl;rcases l with rfl|l;rw[ag] at e;cases e;rw[ag] at l;cases l
 rcases m with w|w;refine wpAny_storeName_local w J (λh' ak f=>?_) an;obtain⟨oL,_,_,al,_⟩:=id J;refine h _ ⟨I.ok,I.os,I.bare,⟨λb o e n B m=>?_,λb o e n B m=>?_,I.base.free,λb o e m=>?_,I.base.tups,I.base.frzs,I.base.tbls⟩,⟨_,ak,λj y K g t L=>?_⟩,λy c e=>?_,I.free,I.freeC,λp M=>?_,ah ⟨oL,al,I.free⟩ f,by simpa using I.len⟩ ⟨_,f,.inl rfl⟩;exact(f.2 b (CF (FW (Br e) I.ok.above))).trans (I.base.keep b o e n B m);obtain⟨N,g⟩:=I.base.slot b o e n B m;exact⟨N,(f.2 b (CF (FW (Br e) I.ok.above))).trans g⟩;obtain⟨O,g⟩:=I.base.there b o e m;exact⟨O,(f.2 b (CF (FW (Br e) I.ok.above))).trans g⟩;by_cases C:j=i;subst C;rw[D] at g;cases g;rw[List.getElem?_set_self aa] at t;cases t;exact⟨u,r,.inl ⟨w,by simp⟩⟩;rw[List.getElem?_set_ne (Ne.symm C)] at t;obtain⟨P,R,q⟩:=W j y K g t L;refine⟨P,R,?_⟩;rcases q with⟨k,e⟩|⟨k,c,e,z⟩;refine .inl ⟨k,?_⟩;have:y≠x:=λe=>C (V1 U g (e▸D));simp[this,e];exact .inr ⟨k,c,e,z.sameBut f (cne y c e)⟩;obtain⟨F,z⟩:=I.cell y c e;exact⟨F,z.sameBut f (cne y c e)⟩;obtain⟨e,n,ne,S,d⟩:=I.pin p M;exact⟨(f.2 p.1 ne).trans e,n,ne,S,d⟩
 have T:X.fn x=true:=by
  rcases hf with z|z;exact z;rw[z] at w;cases w
 obtain⟨c,l⟩:=I.ok.has x (.inl w);obtain⟨F,z⟩:=I.cell x c l;refine wpAny_storeName_cell I.ok.kind w l z (λh' ab f=>?_);obtain⟨Y,ae,ao⟩:=id z;refine h {s with heap:=h'} ⟨I.ok,I.os,I.bare,⟨λb o e n B m=>?_,λb o e n B m=>?_,I.base.free,λb o e m=>?_,I.base.tups,I.base.frzs,I.base.tbls⟩,⟨aj,J.sameBut f (Ne.symm (cne x c l)),λj y K g t L=>?_⟩,λy G e=>?_,I.free,I.freeC,λp M=>?_,ah ⟨Y,ae,I.freeC x c l⟩ f,by simpa using I.len⟩ ⟨c,f,.inr l⟩;exact(f.2 b (CF (FW (Br e) (I.ok.cab x c T l)))).trans (I.base.keep b o e n B m);obtain⟨N,g⟩:=I.base.slot b o e n B m;exact⟨N,(f.2 b (CF (FW (Br e) (I.ok.cab x c T l)))).trans g⟩;obtain⟨O,g⟩:=I.base.there b o e m;exact⟨O,(f.2 b (CF (FW (Br e) (I.ok.cab x c T l)))).trans g⟩;by_cases C:j=i;subst C;rw[D] at g;cases g;rw[List.getElem?_set_self aa] at t;cases t;exact⟨u,r,.inr ⟨.inl w,c,l,ab⟩⟩;rw[List.getElem?_set_ne (Ne.symm C)] at t;obtain⟨P,R,q⟩:=W j y K g t L;refine⟨P,R,?_⟩;rcases q with q|⟨k,G,e,z'⟩;exact .inl q;refine .inr ⟨k,G,e,z'.sameBut f ?_⟩;rintro rfl;exact C (V1 U g (I.ok.inj _ _ _ e l▸D));by_cases af:G=c;subst af;exact⟨_,ab⟩;obtain⟨w2,z2⟩:=I.cell y G e;exact⟨w2,z2.sameBut f af⟩;obtain⟨e,n,ne,S,d⟩:=I.pin p M;refine⟨(f.2 p.1 ?_).trans e,n,ne,S,d⟩;intro q;rw[q,ae] at e;have q':Y=p.2:=Bz e;exact d F (by rw[<-q'];exact ao)
def SV{M:Model}{A:Around}{E:D'}{v:V}{u:Value}{Q:Unit->Shared->Prop}(I:Inv X pins σ H s)(a:X.N.Nodup)(b:X.N[i]?=some x)(c:Loc X.env.scope x)(r:RelV v u)
 (h:∀Z,Inv X pins (σ.set i (some v)) H Z->Q () Z) (d:X.fn x=true\/X.env.scope.names.lookup x=some .local:=by first|exact .inl rfl|exact .inr rfl|assumption):wpAny M A (storeName X.env x u) Q E s:=
 V2 I a b c r (λZ e ζ=>h Z e) d
def Inv.call'{Z:Shared}(I:Inv X pins σ H s)(a:Z.os=s.os)(u:Un (E9 X.stack) ch H H' s.heap Z.heap)(g:C7 X.prog X.w H' Z.heap)(d:AllBare Z.gens)
 (h:∀b∈ch,(b∈X.ex\/X.s₀.heap.objs.size<=b)/\b≠X.env.locals/\(∀x c,X.env.cells.lookup x=some c->c≠b)/\∀p∈X.pn++pins,p.1≠b):Inv X pins σ H' Z:=by
 obtain⟨h',g',d',t',f⟩:=Z;have e:f=s.os:=a;subst e;exact I.call (g':=g') (t':=t') (d':=d') u g d h
end
abbrev XK:=Value->Option Addr->Hp->Prop
abbrev St:=List (Option V)
abbrev VK:=V->Hp->Prop
abbrev TE:=St->Hp->VK->Prop
abbrev TT:=St->Hp->(Bool->Hp->Prop)->Prop
abbrev TA:=St->Hp->(List V->Hp->Prop)->Prop
structure Ends where
 nx:St->Hp->Prop
 rt:VK
 bk:St->Hp->Prop:=λζ ζ=>False
 ct:St->Hp->Prop:=λζ ζ=>False
abbrev TS:=Ends->St->Hp->Prop
def EP (X:Cx) (pins:B') (σ:St) (Q:VK) (u:Value) (Z:Shared):Prop:=∃v H',Inv X pins σ H' Z/\RelV v u/\Q v H'
def TP (X:Cx) (pins:B') (σ:St) (Q:Bool->Hp->Prop) (b:Bool) (Z:Shared):Prop:=∃H',Inv X pins σ H' Z/\Q b H'
def AP (X:Cx) (pins:B') (σ:St) (Q:List V->Hp->Prop) (us:List Value) (Z:Shared):Prop:=∃vs H',Inv X pins σ H' Z/\At vs us/\Q vs H'
def SP (X:Cx) (pins:B') (D:Ends) (f:Flow) (Z:Shared):Prop:=
 match f with
 |.next=>∃σ' H',Inv X pins σ' H' Z/\D.nx σ' H'
 |.brk=>∃σ' H',Inv X pins σ' H' Z/\D.bk σ' H'
 |.cont=>∃σ' H',Inv X pins σ' H' Z/\D.ct σ' H'
 |.ret u=>∃v σ' H',Inv X pins σ' H' Z/\RelV v u/\D.rt v H'
def PE (X:Cx) (e:Expr) (t:TE):Prop:=
 ∀(pins:B')(s:Shared)(σ:St)(H:Hp)(Q:VK),Inv X pins σ H s->t σ H Q->wpAny (model X.prog X.w) X.A (eval e X.env) (EP X pins σ Q) X.xe s
def PT (X:Cx) (e:Expr) (t:TT):Prop:=
 ∀(pins:B')(s:Shared)(σ:St)(H:Hp)(Q:Bool->Hp->Prop),Inv X pins σ H s->t σ H Q->wpAny (model X.prog X.w) X.A (isTrue e X.env (eval e X.env)) (TP X pins σ Q) X.xe s
def PW (X:Cx) (e:Expr) (t:TT):Prop:=
 ∀(whole:Sem Value)(pins:B')(s:Shared)(σ:St)(H:Hp)(Q:Bool->Hp->Prop),Inv X pins σ H s->t σ H Q->wpAny (model X.prog X.w) X.A (isTrue e X.env whole) (TP X pins σ Q) X.xe s
variable {X:Cx}{e:Expr}
def PW.pt{t:TT}(h:PW X e t):PT X e t:=h _
def PA (X:Cx) (es:List Expr) (t:TA):Prop:=
 ∀(L:Pos)(pins:B')(s:Shared)(σ:St)(H:Hp)(Q:List V->Hp->Prop),Inv X pins σ H s->t σ H Q->wpAny (model X.prog X.w) X.A (spliced (backTo L (starEach es X.env))) (AP X pins σ Q) X.xe s
def PS (X:Cx) (st:Stmt) (t:TS):Prop:=
 ∀(pins:B')(s:Shared)(σ:St)(H:Hp)(D:Ends),Inv X pins σ H s->t D σ H->wpAny (model X.prog X.w) X.A (exec st X.env) (SP X pins D) X.xe s
def Gu (X:Cx) (st:List Stmt) (t:TS):Prop:=
 ∀(pins:B')(s:Shared)(σ:St)(H:Hp)(D:Ends),Inv X pins σ H s->t D σ H->wpAny (model X.prog X.w) X.A (execs st X.env) (SP X pins D) X.xe s
variable {A:Around}{E:D'}{s:Shared}
def AV{α:Type}{t:Sem α}{Q b:α->Shared->Prop}{M:Model}(h:wpAny M A t Q E s)(c:∀a s,Q a s->b a s):wpAny M A t b E s:=FY h c λζ ζ x=>x
section
variable {X:Cx}
def mV:Option (Option V)->(V->Prop)->Prop|some (some v),q=>q v|_,_=>(λζ=>False) Nat.repr
def mB:V->(Bool->Prop)->Prop|.bl c,q=>0=0/\q c|_,_=>(λζ=>False) Nat.repr
def mI:V->(Int->Prop)->Prop|.int i,q=>q i|_,_=>(λζ=>False) Nat.repr
def IT:V->V->(Int->Int->Prop)->Prop|.int i,.int j,q=>q i j|_,_,_=>(λζ=>False) Nat.repr
def mR:V->(Addr->Prop)->Prop|.ref a,q=>q a|_,_=>(λζ=>False) Nat.repr
def mT:V->(Addr->List V->Prop)->Prop|.ref a,q=>∃xs,q a xs|_,_=>(λζ=>False) Nat.repr
def mX:V->V->(Addr->List V->Int->V->Prop)->Prop|.ref p,.int i,q=>∃xs v,q p xs i v|_,_,_=>(λζ=>False) Nat.repr
def mC:List V->(V->List V->Prop)->Prop|v::r,q=>q v r|_,_=>(λζ=>False) Nat.repr
def mN:List V->Prop->Prop|[],q=>q|_,_=>(λζ=>False) Nat.repr
def mL:List V->(V->Nat->Prop)->Prop|[x],q=>∃n,q x n|_,_=>(λζ=>False) Nat.repr
def mA:V->List V->(Addr->List V->V->Prop)->Prop|.ref l,[y],q=>∃xs,q l xs y|_,_,_=>(λζ=>False) Nat.repr
def mJ:List V->(Int->Prop)->Prop|[.int j],q=>q j|_,_=>(λζ=>False) Nat.repr
def mV.ex{o:Option (Option V)}{q:V->Prop}(h:mV o q):∃v,o=some (some v)/\q v:=by
 unfold mV at h;split at h;exact⟨_,rfl,h⟩;exact False.elim h
variable {x:V}
def mB.ex{q:Bool->Prop}(h:mB x q):∃c,x=.bl c/\q c:=by
 unfold mB at h;split at h;exact⟨_,rfl,h.2⟩;exact False.elim h
def mI.ex{q:Int->Prop}(h:mI x q):∃i,x=.int i/\q i:=by
 unfold mI at h;split at h;exact⟨_,rfl,h⟩;exact False.elim h
def IT.ex{y:V}{q:Int->Int->Prop}(h:IT x y q):∃i j,x=.int i/\y=.int j/\q i j:=by
 unfold IT at h;split at h;exact⟨_,_,rfl,rfl,h⟩;exact False.elim h
def mR.ex{q:Addr->Prop}(h:mR x q):∃a,x=.ref a/\q a:=by
 unfold mR at h;split at h;exact⟨_,rfl,h⟩;exact False.elim h
def mT.ex{q:Addr->List V->Prop}(h:mT x q):∃a xs,x=.ref a/\q a xs:=by
 unfold mT at h;split at h;exact⟨_,h.choose,rfl,h.choose_spec⟩;exact False.elim h
def mX.ex{y:V}{q:Addr->List V->Int->V->Prop}(h:mX x y q):∃p xs i v,x=.ref p/\y=.int i/\q p xs i v:=by
 unfold mX at h;split at h;obtain⟨xs,v,h⟩:=h;exact⟨_,xs,_,v,rfl,rfl,h⟩;exact False.elim h
variable {vs:List V}
def mC.ex{q:V->List V->Prop}(h:mC vs q):∃v r,vs=v::r/\q v r:=by
 unfold mC at h;split at h;exact⟨_,_,rfl,h⟩;exact False.elim h
def mN.ex{q:Prop}(h:mN vs q):vs=[]/\q:=by
 unfold mN at h;split at h;exact⟨rfl,h⟩;exact False.elim h
def mL.ex{q:V->Nat->Prop}(h:mL vs q):∃x n,vs=[x]/\q x n:=by
 unfold mL at h;split at h;exact⟨_,h.choose,rfl,h.choose_spec⟩;exact False.elim h
def mA.ex{q:Addr->List V->V->Prop}(h:mA x vs q):∃l xs y,x=.ref l/\vs=[y]/\q l xs y:=by
 unfold mA at h;split at h;exact⟨_,h.choose,_,rfl,rfl,h.choose_spec⟩;exact False.elim h
def mJ.ex{q:Int->Prop}(h:mJ vs q):∃j,vs=[.int j]/\q j:=by
 unfold mJ at h;split at h;exact⟨_,rfl,h⟩;exact False.elim h
def C1 (i:Nat):TE:=λσ H Q=>mV σ[i]? λv=>Q v H
def tC (v:V):TE:=λζ H Q=>Q v H
variable {L:Pos}
def LQ{i:Nat}{x:Str}(g:X.N[i]?=some x)(hv:Qq X.env.scope x)(hd:(x==("__debug__" : Str))=false:=by decide)(o:(x==("__classdict__" : Str))=false:=by decide):PE X (.Name x L) (C1 i):=by
 intro p s σ H Q I h
 replace h:=mV.ex h
 obtain⟨v,e,h⟩:=h;obtain⟨m,j,k⟩:=I.loc;obtain⟨u,r,l⟩:=k i x v g e hv;have b:EP X p σ Q u s:=⟨v,H,I,r,h⟩;rcases l with⟨a,n⟩|⟨a,c,d,f⟩;exact wpAny_Name (wpAny_loadName_local I.ok.kind a j n b) hd;rcases a with a|a;exact wpAny_Name (wpAny_loadName_cell I.ok.kind a d f b) hd;exact wpAny_Name (wpAny_loadName_free I.ok.kind a d f b o) hd
def Ai{i j L}:PE X (.Constant (.int i) j L) (tC (.int i)):=λζ ζ ζ H ζ I h=>wpAny_Constant_int ⟨.int i,H,I.tok _,⟨_,rfl⟩,h⟩
def FD{b j L}:PE X (.Constant (.bool b) j L) (tC (.bl b)):=λζ ζ ζ H ζ I h=>Constant_bool ⟨.bl b,H,I,rfl,h⟩
def Gv{j L}:PE X (.Constant .none j L) (tC .non):=λζ ζ ζ H ζ I h=>Constant_none ⟨.non,H,I,rfl,h⟩
def B8{x j L}:PE X (.Constant (.str x) j L) (tC (.str x)):=λζ ζ ζ H ζ I h=>Calls.Constant_str ⟨.str x,H,I.tok _,⟨_,rfl⟩,h⟩
def Gl (X:Cx) (x:Str):Prop:=X.env.kindOf x=some .globalImplicit
def V3{pins:B'}{σ:St}{x:Str}{u:Value}{Q:D'}(I:Inv X pins σ H s)(a:Gl X x)(b:X.mg x=some u)(h:Q u s)
 (hd:(x==("__debug__" : Str))=false:=by decide):wpAny (model X.prog X.w) X.A (eval (.Name x L) X.env) Q E s:=
 Calls.Name_function_global I.ok.kind a (Calls.loadGlobal_global (by rw[I.ok.glob];exact I.mod.glob.keeps I.bk) b h) hd
def K2{pins:B'}{σ:St}{x:Str}{u:Value}{Q:D'}(I:Inv X pins σ H s)(a:Gl X x)(b:X.mg x=none)(hv:bootBuiltins x=some u)(h:Q u s)
 (c:x ≠ "__name__" :=by decide) (hd:(x==("__debug__" : Str))=false:=by decide):wpAny (model X.prog X.w) X.A (eval (.Name x L) X.env) Q E s:=by
 obtain⟨f,d,e⟩:=I.mod.blt;exact Calls.Name_function_global I.ok.kind a (Calls.loadGlobal_builtin (by rw[I.ok.glob];exact I.mod.glob.keeps I.bk) b (by rw[I.ok.blt];exact d.keeps I.bk) ((e x c).trans hv) h) hd
def Jr{x:Str}{v:V}{u:Value}(a:Gl X x)(b:X.mg x=some u)(r:RelV v u)(hd:(x==("__debug__" : Str))=false:=by decide):PE X (.Name x L) (tC v):=
 λζ ζ ζ H ζ I h=>V3 I a b ⟨v,H,I,r,h⟩ hd
def Js{x:Str}{v:V}{u:Value}(a:Gl X x)(b:X.mg x=none)(hv:bootBuiltins x=some u)(r:RelV v u)(c:x ≠ "__name__" :=by decide)(hd:(x==("__debug__" : Str))=false:=by decide):PE X (.Name x L) (tC v):=
 λζ ζ ζ H ζ I h=>K2 I a b hv ⟨v,H,I,r,h⟩ c hd
variable {a b:Expr} {ta tb:TE} {L:Pos}
def PC (X:Cx) (op:CmpOp) (a b:Expr) (t:TE):Prop:=
 ∀(pins:B')(s:Shared)(σ:St)(H:Hp)(Q:VK),Inv X pins σ H s->t σ H Q ->
  wpAny (model X.prog X.w) X.A (eval a X.env) (λv s₁=>wpAny (model X.prog X.w) X.A (eval b X.env) (λu s₂=>wpAny (model X.prog X.w) X.A (compareOp op v u) (EP X pins σ Q) X.xe s₂) X.xe s₁) X.xe s
variable {op:CmpOp}
def V4(b:Expr)(h:op≠.In)(a:op≠.NotIn):behindInMarks op b=false:=by
 have c:(op==CmpOp.In)=false:=by cases op<;>first|rfl|exact absurd rfl h
 have d:(op==CmpOp.NotIn)=false:=by cases op<;>first|rfl|exact absurd rfl a
 cases b<;>simp[behindInMarks,c,d]
def Ou (ta:TE):TE:=λσ H Q=>ta σ H λx Y=>Q (.bl (decide (x=.non))) Y
def K3 (ta:TE):TE:=λσ H Q=>ta σ H λx Y=>Q (.bl (!decide (x=.non))) Y
def RelV.none_iff{v:Value}(r:RelV x v):(v==Value.none)=decide (x=.non):=by
 cases x with
 |non=>cases r;rfl
 |bl _=>cases r;rfl
 |int _=>obtain⟨t,rfl⟩:=r;rfl
 |str _=>obtain⟨t,rfl⟩:=r;rfl
 |byt _=>obtain⟨t,rfl⟩:=r;rfl
 |flt _=>obtain⟨t,rfl⟩:=r;rfl
 |ref _=>cases r;rfl
 |ty _=>cases r;rfl
def GW{j t}(b:PE X a ta):PC X .Is a (.Constant .none j t) (Ou ta):=by
 intro f s σ H Q I h;refine AV (b f s σ H _ I h) λv g⟨x,Y,c,d,e⟩=>?_;exact Constant_none (is_none_gen ⟨.bl _,Y,c,by rw[d.none_iff];rfl,e⟩)
def IU{j t}(b:PE X a ta):PC X .IsNot a (.Constant .none j t) (K3 ta):=by
 intro f s σ H Q I h;refine AV (b f s σ H _ I h) λv g⟨x,Y,c,d,e⟩=>?_;exact Constant_none (isnot_none_gen ⟨.bl _,Y,c,by rw[d.none_iff];rfl,e⟩)
def tB (t:TE):TT:=λσ H Q=>t σ H λx Y=>mB x λc=>Q c Y
def Hv{t:TE}(h:PC X op a b t)(c:behindInMarks op b=false:=by first|exact V4 _ (by decide) (by decide)|rfl):PE X (.Compare a [op] [b] L) t:=λe s σ H Q I d=>wpAny_Compare1 (h e s σ H Q I d) c
def ET{t:TE}(h:PC X op a b t)(e:behindInMarks op b=false:=by first|exact V4 _ (by decide) (by decide)|rfl):PT X (.Compare a [op] [b] L) (tB t):=by
 intro l s σ H Q I g;refine wpAny_isTrue_Compare1 (AV (h l s σ H _ I g) λv m e=>AV e λu n i=>AV i λc o⟨x,Y,j,k,f⟩=>?_) e
 replace f:=mB.ex f
 obtain⟨d,rfl,q⟩:=f;cases k;exact FX ⟨Y,j,q⟩
def FE{t:TE}(h:PE X e t)(b:∀whole,isTrue e X.env whole=(do let v <-whole;standAt e.pos;holding [v] (truthy v)):=by intro _;rfl):PT X e (tB t):=by
 intro i s σ H Q I c;refine isTrue_plain (AV (h i s σ H _ I c) λv j⟨x,Y,f,g,a⟩=>?_) (b _)
 replace a:=mB.ex a
 obtain⟨d,rfl,q⟩:=a;cases g;exact FX ⟨Y,f,q⟩
variable {g tB':TT} {j:List Expr}
def Ov (t u:TT):TT:=λσ H Q=>t σ H λc Y=>if c=true then u σ Y Q else Q false Y
def Zn (t u:TT):TT:=λσ H Q=>t σ H λc Y=>if c=true then Q true Y else u σ Y Q
def SW (t:TT):TT:=λσ H Q=>t σ H λc Y=>Q (!c) Y
def GX(b:PT X a g):PW X (.BoolOp .And [a] L) g:=by
 intro f d s σ H Q I h;refine isTrue_and (AV (b d s σ H Q I h) λc i e=>?_)
 cases c with
 |true=>exact isTrue_and_nil e
 |false=>exact e
def NO(b:PT X a g):PW X (.BoolOp .Or [a] L) g:=by
 intro f d s σ H Q I h;refine isTrue_or (AV (b d s σ H Q I h) λc i e=>?_)
 cases c with
 |false=>exact isTrue_or_nil e
 |true=>exact e
def GY(i:PT X a g)(k:PW X (.BoolOp .And (b::j) L) tB'):PW X (.BoolOp .And (a::b::j) L) (Ov g tB'):=by
 intro l f s σ H Q I h;refine isTrue_and (AV (i f s σ H _ I h) λc m⟨Y,d,e⟩=>?_)
 cases c with
 |true=>exact k l f m σ Y Q d e
 |false=>exact⟨Y,d,e⟩
def IV(i:PT X a g)(k:PW X (.BoolOp .Or (b::j) L) tB'):PW X (.BoolOp .Or (a::b::j) L) (Zn g tB'):=by
 intro l f s σ H Q I h;refine isTrue_or (AV (i f s σ H _ I h) λc m⟨Y,d,e⟩=>?_)
 cases c with
 |true=>exact⟨Y,d,e⟩
 |false=>exact k l f m σ Y Q d e
def Hc(b:PT X a g):PT X (.UnaryOp .Not a L) (SW g):=by
 intro d s σ H Q I h;exact isTrue_not (b d s σ H (λc Y=>Q (!c) Y) I h)
def Ox (ta tb:TE):TE:=λσ H Q=>ta σ H λx Y=>∃c,x=.bl c/\if c=true then tb σ Y Q else Q (.bl false) Y
def Oy (ta:TE):TE:=λσ H Q=>ta σ H λx Y=>∃c,x=.bl c/\Q (.bl (!c)) Y
def SX{op}{t:TE}(h:PE X a t):PE X (.BoolOp op [a] L) t:=λc s σ H Q I b=>BoolOp_one (h c s σ H Q I b)
def Oz(g:PE X a ta)(i:PE X (.BoolOp .And (b::j) L) tb):PE X (.BoolOp .And (a::b::j) L) (Ox ta tb):=by
 intro f s σ H Q I h;refine BoolOp_and (AV (g f s σ H _ I h) λv k⟨x,Y,e,l,d⟩=>?_);obtain⟨c,rfl,d⟩:=d;cases l;refine FX ?_
 cases c with
 |true=>exact i f k σ Y Q e d
 |false=>exact⟨.bl false,Y,e,rfl,d⟩
def LR(d:PE X a ta):PE X (.UnaryOp .Not a L) (Oy ta):=by
 intro g s σ H Q I h;refine UnaryOp_ (AV (d g s σ H _ I h) λv i⟨x,Y,e,f,b⟩=>?_);obtain⟨c,rfl,b⟩:=b;cases f;exact not_of (FX ⟨.bl (!c),Y,e,rfl,b⟩)
def V5 (t:TT) (ta tb:TE):TE:=λσ H Q=>t σ H λc Y=>if c=true then ta σ Y Q else tb σ Y Q
def Zo{c:Expr}(k:PT X c g)(l:PE X a ta)(m:PE X b tb):PE X (.IfExp c a b L) (V5 g ta tb):=by
 intro e s σ H Q I h;refine wpAny_IfExp (AV (k e s σ H _ I h) λd f⟨Y,i,j⟩=>?_)
 cases d with
 |true=>exact l e f σ Y Q i j
 |false=>exact m e f σ Y Q i j
end
def Ae (K:Ah) (H:Hp) (a:Addr) (xs:List V):Prop:=
 Rd H a (.lst xs) \/
  ∃(o:Obj)(its:Array Value)(n:Nat),K.lookup a=some o/\o.cls=.type "list" /\ o.dict=none/\o.data=.seq its n/\its.size<=sizeLine/\At xs its.toList
def Ar (K:Ah) (H:Hp) (a:Addr) (xs:List V):Prop:=
 Rd H a (.tup xs) \/
  ∃(o:Obj)(its:Array Value)(n:Nat),K.lookup a=some o/\o.cls=.type "tuple" /\ o.data=.seq its n/\its.size<=sizeLine/\At xs its.toList
def SY:Value->Option V
 |.none=>some .non
 |.bool b=>some (.bl b)
 |.int i _=>some (.int i)
 |.str x _=>some (.str x)
 |.bytes b _=>some (.byt b)
 |.float b _=>some (.flt b)
 |.ref a=>some (.ref a)
 |.type n=>some (.ty n)
 |_=>none
variable {x:V}
def RelV.abs{u:Value}(r:RelV x u):SY u=some x:=by
 cases x with
 |non=>cases r;rfl
 |bl _=>cases r;rfl
 |int _=>obtain⟨t,rfl⟩:=r;rfl
 |str _=>obtain⟨t,rfl⟩:=r;rfl
 |byt _=>obtain⟨t,rfl⟩:=r;rfl
 |flt _=>obtain⟨t,rfl⟩:=r;rfl
 |ref _=>cases r;rfl
 |ty _=>cases r;rfl
def RelV.inj{y:V}{u:Value}(r:RelV x u)(q:RelV y u):x=y:=Bz (r.abs.symm.trans q.abs)
theorem At.inj:∀{xs ys:List V}{us:List Value},At xs us->At ys us->xs=ys
 |_,_,_,.nil,.nil=>rfl
 |_,_,_,.cons r t,.cons a t'=>by rw[r.inj a,At.inj t t']
section
variable {X:Cx} {pins:B'} {σ:St} {H:Hp} {s:Shared} {a:Addr} {xs ys:List V}
def Ae.of{K:Ah}(h:H a=some (.lst xs)):Ae K H a xs:=.inl (.inl h)
def Ar.of{K:Ah}(h:H a=some (.tup xs)):Ar K H a xs:=.inl (.inl h)
def Inv.list(I:Inv X pins σ H s)(h:Ae X.K H a xs):∃b:List Value,At xs b/\PlainL s.heap a b.toArray/\xs.length<=sizeLine:=by
 rcases h with h|⟨o,b,n,c,d,hd,f,g,r⟩;obtain⟨z,b,n,r,e⟩:=h.ok I.hok;exact⟨b,r,⟨_,n,e,rfl,rfl,rfl⟩,z⟩;refine⟨b.toList,r,⟨o,n,I.kIn a o c,d,hd,by simpa using f⟩,?_⟩;have e:=r.length;simp only[Array.length_toList] at e;lia
def Inv.tuple(I:Inv X pins σ H s)(h:Ar X.K H a xs):∃b:List Value,At xs b/\IsTup s.heap a b.toArray/\xs.length<=sizeLine:=by
 rcases h with h|⟨o,b,n,c,d,f,g,r⟩;obtain⟨z,b,r,p⟩:=h.ok I.hok;exact⟨b,r,p,z⟩;refine⟨b.toList,r,⟨o,I.kIn a o c,d,n,by simpa using f⟩,?_⟩;have e:=r.length;simp only[Array.length_toList] at e;lia
def Inv.list_inj(I:Inv X pins σ H s)(h:Ae X.K H a xs)(h':Ae X.K H a ys):xs=ys:=by
 obtain⟨i,r,⟨o,n,e,_,_,d⟩,_⟩:=I.list h;obtain⟨j,f,⟨k,l,b,_,_,c⟩,_⟩:=I.list h';rw[e] at b;cases b;rw[d] at c;injection c with g _;have:i=j:=(by simpa using Bq Array.toList g);subst this;exact r.inj f
def Inv.tuple_inj(I:Inv X pins σ H s)(h:Ar X.K H a xs)(h':Ar X.K H a ys):xs=ys:=by
 obtain⟨i,r,⟨o,e,_,n,d⟩,_⟩:=I.tuple h;obtain⟨j,f,⟨k,b,_,l,c⟩,_⟩:=I.tuple h';rw[e] at b;cases b;rw[d] at c;injection c with g _;have:i=j:=(by simpa using Bq Array.toList g);subst this;exact r.inj f
end
abbrev Cx.wish (X:Cx) (E:D'):Cx:={X with xe:=E}
abbrev Cx.nox (X:Cx):Cx:=X.wish λζ ζ=>False
def Cx.Ok.wish{X:Cx}(ok:X.Ok)(E:D'):(X.wish E).Ok:=
 ⟨ok.mod,ok.kind,ok.glob,ok.blt,ok.above,ok.inj,ok.has,ok.cab,ok.hd,ok.frames,ok.stk,ok.exf,ok.bs,ok.bsz,ok.noex,ok.exfs,ok.funs,ok.frf⟩
def Cx.Ok.unwish(ok:(X.wish E).Ok):X.Ok:=
 ⟨ok.mod,ok.kind,ok.glob,ok.blt,ok.above,ok.inj,ok.has,ok.cab,ok.hd,ok.frames,ok.stk,ok.exf,ok.bs,ok.bsz,ok.noex,ok.exfs,ok.funs,ok.frf⟩
section
variable {X:Cx} {pins:B'} {σ:St} {H:Hp} {s:Shared} {E:D'}
def Inv.wish(I:Inv X pins σ H s)(E:D'):Inv (X.wish E) pins σ H s:=⟨I.ok.wish E,I.os,I.bare,I.base,I.loc,I.cell,I.free,I.freeC,I.pin,I.hok,I.len⟩
def Inv.unwish(I:Inv (X.wish E) pins σ H s):Inv X pins σ H s:=⟨I.ok.unwish,I.os,I.bare,I.base,I.loc,I.cell,I.free,I.freeC,I.pin,I.hok,I.len⟩
def SP.unwish{D:Ends}{f:Flow}{Z:Shared}(h:SP (X.wish E) pins D f Z):SP X pins D f Z:=by
 cases f with
 |next=>obtain⟨σ',a,I,q⟩:=h;exact⟨σ',a,I.unwish,q⟩
 |brk=>obtain⟨σ',a,I,q⟩:=h;exact⟨σ',a,I.unwish,q⟩
 |cont=>obtain⟨σ',a,I,q⟩:=h;exact⟨σ',a,I.unwish,q⟩
 |ret u=>obtain⟨v,σ',a,I,r,q⟩:=h;exact⟨v,σ',a,I.unwish,r,q⟩
def Gu.nox{st:List Stmt}{t:TS}(h:Gu X.nox st t):Gu X st t:=λpins s σ H D I a =>
 FY (h pins s σ H D (I.wish _) a) (λζ ζ q=>q.unwish) λζ ζ z=>False.elim z
end
section
variable {X:Cx} {st:Stmt} {j:List Stmt} {t u:TS} {e:Expr} {te:TE} {L:Pos}
def K4:TS:=λD σ H=>D.nx σ H
def LS (t u:TS):TS:=λD σ H=>(λζ=>t {D with nx:=u D} σ H) Nat.repr
def Bg:Gu X [] K4:=λζ ζ σ H ζ I h=>wpAny_execs_nil ⟨σ,H,I,h⟩
def Ao(b:PS X st t)(c:Gu X j u):Gu X (st::j) (LS t u):=by
 intro a s σ H D I h;refine wpAny_execs_cons (AV (b a s σ H {D with nx:=u D} I h) λf d q=>?_)
 cases f with
 |next =>
   obtain⟨σ',e,g,q⟩:=q;exact c a d σ' e D g q
 |ret v=>exact q
 |brk=>exact q
 |cont=>exact q
def As(a:PS X st t):Gu X [st] t:=by
 intro b s σ H D I h;refine wpAny_execs_cons (AV (a b s σ H D I h) λf c q=>?_)
 cases f with
 |next=>exact wpAny_execs_nil q
 |ret v=>exact q
 |brk=>exact q
 |cont=>exact q
def Inv.quiet{pins:B'}{σ:St}(I:Inv X pins σ H s):interactive X.env=false:=by simp[interactive,I.ok.kind]
def OA (te:TE):TS:=λD σ H=>te σ H λζ Y=>D.nx σ Y
def C8(a:PE X e te)(b:swapsWith e none L.line X.env=pure false:=by rfl):PS X (.Expr e L) (OA te):=by
 intro f s σ H D I h;exact wpAny_Expr_any (AV (a f s σ H _ I h) λv g⟨x,Y,c,i,d⟩=>⟨σ,Y,c,d⟩) I.quiet b
def S0 (te:TE):TS:=λD σ H=>te σ H D.rt
def AK(a:PE X e te):PS X (.Return (some e) L) (S0 te):=by
 intro f s σ H D I h;exact wpAny_Return_some (AV (a f s σ H _ I h) λv g⟨x,Y,b,c,d⟩=>⟨x,σ,Y,b,c,d⟩)
def S1 (c:TT) (t u:TS):TS:=λD σ H=>c σ H λb Y=>if b=true then t D σ Y else u D σ Y
def Bc{c:Expr}{a b:List Stmt}{tc:TT}(j:PT X c tc)(k:Gu X a t)(l:Gu X b u):PS X (.If c a b L) (S1 tc t u):=by
 intro e s σ H D I h;refine wpAny_If (AV (j e s σ H _ I h) λd f⟨Y,g,i⟩=>?_)
 cases d with
 |true=>exact k e f σ Y D g i
 |false=>exact l e f σ Y D g i
def LV:TS:=λζ ζ ζ=>False
def Zp:PS X st LV:=λζ ζ ζ ζ ζ ζ h=>h.elim
end
abbrev TG:=V->St->Hp->(St->Hp->Prop)->Prop
abbrev LX:=List V->St->Hp->(St->Hp->Prop)->Prop
def PG (X:Cx) (target:Expr) (t:TG):Prop:=
 ∀(pins:B')(s:Shared)(σ:St)(H:Hp)(v:V)(u:Value)(Q:St->Hp->Prop),Inv X pins σ H s->RelV v u->t v σ H Q ->
  wpAny (model X.prog X.w) X.A (assign target X.env u) (λζ Z=>∃σ' H',Inv X pins σ' H' Z/\Q σ' H') X.xe s
def OB (X:Cx) (ts:List Expr) (t:LX):Prop:=
 ∀(pins:B')(s:Shared)(σ:St)(H:Hp)(vs:List V)(us:List Value)(Q:St->Hp->Prop),Inv X pins σ H s->At vs us->t vs σ H Q ->
  wpAny (model X.prog X.w) X.A (assignInOrder ((assignEach ts X.env).map (·.2)) us) (λζ Z=>∃σ' H',Inv X pins σ' H' Z/\Q σ' H') X.xe s
abbrev LY:=V->V->V->Hp->(Hp->Prop)->Prop
def Jt (X:Cx) (t:LY):Prop:=
 ∀(pins:B')(s:Shared)(σ:St)(H:Hp)(o i v:V)(ov iv u:Value)(Q:Hp->Prop),Inv X pins σ H s->RelV o ov->RelV i iv->RelV v u->t o i v H Q ->
  wpAny (model X.prog X.w) X.A (setItem ov iv u) (λζ Z=>∃H',Inv X pins σ H' Z/\Q H') X.xe s
abbrev S3:=V->V->Hp->VK->Prop
def Zq (X:Cx) (op:Operator) (t:S3):Prop:=
 ∀(pins:B')(s:Shared)(σ:St)(H:Hp)(x y:V)(v u:Value)(Q:VK),Inv X pins σ H s->RelV x v->RelV y u->t x y H Q ->
  wpAny (model X.prog X.w) X.A (inplaceOp op v u) (EP X pins σ Q) X.xe s
section
variable {X:Cx} {L:Pos}
def IW (i:Nat):TG:=λv σ H Q=>Q (σ.set i (some v)) H
variable {i:Nat}
def Az{x:Str}(a:X.N.Nodup)(b:X.N[i]?=some x:=by rfl)(c:Loc X.env.scope x:=by first|exact .inl rfl|exact .inr rfl)(d:X.fn x=true\/X.env.scope.names.lookup x=some .local:=by first|exact .inl rfl|exact .inr rfl|assumption):PG X (.Name x L) (IW i):=by
 intro f s σ H v u Q I r h;exact wpAny_assign_Name (SV I a b c r (λZ e=>⟨_,H,e,h⟩) d)
def LZ:LX:=λvs σ H Q=>mN vs (Q σ H)
def OC (t:TG) (u:LX):LX:=λvs σ H Q=>mC vs λv r=>t v σ H λσ' H'=>u r σ' H' Q
def Co:OB X [] LZ:=by
 intro c s σ H a b Q I r h
 replace h:=mN.ex h
 obtain⟨e,h⟩:=h;subst e;cases r;exact assignInOrder_nil ⟨σ,H,I,h⟩
def AH{es:List Expr}{t:TG}{u:LX}(b:PG X e t)(c:OB X es u)
 (d:(assignEach (e::es) X.env).map (·.2)=assign e X.env::(assignEach es X.env).map (·.2):=by rfl):OB X (e::es) (OC t u):=by
 intro a s σ H l m Q I r h
 replace h:=mC.ex h
 obtain⟨v,n,f,h⟩:=h;subst f
 cases r with
 |cons r g =>
   rw[d];refine assignInOrder_cons (AV (b a s σ H _ _ _ I r h) λ_ i⟨σ1,Y,j,k⟩=>?_);exact c a i σ1 Y _ _ Q j g k
def L0 (K:Ah) (n:Nat) (t:LX):TG:=λv σ H Q=>mT v λa xs=>Ar K H a xs/\xs.length=n/\t xs σ H Q
def Cp{es:List Expr}{k:Nat}{t:LX}{n:Nat}(g:X.calm=true)(h:OB X es t)
 (i:(assignEach es X.env).length=n:=by rfl) (z:(assignEach es X.env).findIdx? (·.1)=none:=by rfl):PG X (.Tuple es k L) (L0 X.K n t):=by
 intro f s σ H v u Q I r c
 replace c:=mT.ex c
 obtain⟨a,j,l,m,p,c⟩:=c;subst l;cases r;obtain⟨B,d,q,A⟩:=I.tuple m;refine assign_Tuple_tuple (I.ok.hd g) q (by simp[i,<-p,d.length]) z λw x=>?_;have y:Inv X f σ H {s with heap:=w}:=I.kept (t':=s.toks) λb o e=>x b o (CF (Br e)) e;exact h f _ σ H j _ Q y (by simpa using d) c
def S4 (c ti:TE) (t:LY):TG:=λv σ H Q=>c σ H λo Y=>ti σ Y λi H2=>t o i v H2 λH3=>Q σ H3
def Qr{o i:Expr}{c e:TE}{t:LY}(f:PE X o c)(g:PE X i e)(j:Jt X t)
 (k:∀v,assign (.Subscript o i L) X.env v=(do
  let a <-holding [v] (eval o X.env)
  let b <-holding [v,a] (eval i X.env)
  standAt L
  holding [v,a,b] (setItem a b v)
  release [v,a,b] []):=by intro _;rfl):PG X (.Subscript o i L) (S4 c e t):=by
 intro d s σ H v u Q I r h;rw[k];refine Ad (FA (AV (f d s σ H _ I h) λa l⟨x,Y,m,n,p⟩=>?_));refine Ad (FA (AV (g d l σ Y _ m p) λb q⟨y,w,z,A,B⟩=>?_));refine Ad (wpAny_standAt (Ad (FA (AV (j d q σ w x y v a b u _ z n A r B) λ_ F⟨C,D,E⟩=>?_))));exact wpAny_release ⟨σ,C,D,E⟩
def Ju (te:TE) (g:TG):TS:=λD σ H=>(λζ=>te σ H λx Y=>g x σ Y D.nx) Nat.repr
variable {te:TE}
def D6{a:Expr}{g:TG}(c:PE X e te)(d:PG X a g)(f:swapsWithSole [a] e L.line X.env=pure false:=by rfl)(i:swappedStores [a] e X.env=pure none:=by rfl)
 (j:(assignEach [a] X.env).map (·.2)=[assign a X.env]:=by rfl):PS X (.Assign [a] e L) (Ju te g):=by
 intro b s σ H D I h;refine wpAny_Assign_stores (AV (c b s σ H _ I h) λv k⟨x,Y,l,m,n⟩=>?_) f i;rw[j];exact AV (d b k σ Y x v _ l m n) λζ o q=>q
def AL{x:Str}{t:Pos}(a:X.N.Nodup)(b:PE X e te)(c:X.N[i]?=some x:=by rfl)(d:Loc X.env.scope x:=by first|exact .inl rfl|exact .inr rfl)(f:swapsWith e (some (.Name x t)) L.line X.env=pure false:=by rfl)(g:X.fn x=true\/X.env.scope.names.lookup x=some .local:=by first|exact .inl rfl|exact .inr rfl|assumption) :
 PS X (.Assign [.Name x t] e L) (Ju te (IW i)):=by
 intro n s σ H D I h;refine wpAny_Assign_Name (AV (b n s σ H _ I h) λv o⟨y,Y,j,k,l⟩=>?_) f;exact SV j a c d k (λp m=>⟨_,Y,m,l⟩) g
def OD (i:Nat) (te:TE) (ti:S3):TS:=λD σ H=>∃x,σ[i]?=some (some x)/\te σ H λy Y=>ti x y Y λz H2=>D.nx (σ.set i (some z)) H2
def L1{x:Str}{op:Operator}{f:S3}{t:Pos}(j:X.N.Nodup)(g:X.N[i]?=some x)(b:Loc X.env.scope x)(n:PE X e te)(o:Zq X op f)(p:X.fn x=true\/X.env.scope.names.lookup x=some .local:=by first|exact .inl rfl|exact .inr rfl|assumption) :
 PS X (.AugAssign (.Name x t) op e L) (OD i te f):=by
 intro d s σ H D I h;obtain⟨v,q,h⟩:=h;obtain⟨m,A,B⟩:=I.loc;have T:Qq X.env.scope x:=by rcases b with k|k;exact .inl k;exact .inr (.inl k)
 obtain⟨u,r,l⟩:=B i x v g q T;refine wpAny_AugAssign_Name ?_
 have go:wpAny (model X.prog X.w) X.A (eval e X.env) (λw C=>wpAny (model X.prog X.w) X.A (inplaceOp op u w) (λr E=>wpAny (model X.prog X.w) X.A (storeName X.env x r) (λζ=>SP X d D .next) X.xe E) X.xe C) X.xe s:=by
  refine AV (n d s σ H _ I h) λw F⟨y,Y,G,J,K⟩=>?_;refine AV (o d F σ Y v y u w _ G r J K) λz V⟨W,M,N,O,P⟩=>?_;exact SV N j g b O (λZ Q=>⟨_,M,Q,P⟩) p
 rcases l with⟨a,R⟩|⟨a,c,S,U⟩;exact wpAny_loadName_local I.ok.kind a A R go;rcases a with a|a;exact wpAny_loadName_cell I.ok.kind a S U go;rcases b with k|k;have:X.env.scope.names.lookup x=some .free:=a;rw[k] at this;cases this;have:X.env.scope.names.lookup x=some .free:=a;rw[k] at this;cases this
end
section
variable {X:Cx} {L:Pos}
def L3 (c:TT) (tb:TS):TS:=λD σ H=>∃W:Nat->St->Hp->Prop,(∃m,W m σ H)/\∀m σ H,W m σ H ->
 c σ H λb Y=>if b=true then ∃N:St->Hp->Prop,(∀σ' H',N σ' H'->∃m',m'<m/\W m' σ' H')/\tb {D with nx:=N,ct:=N,bk:=D.nx} σ Y else D.nx σ Y
def S5{c:Expr}{body:List Stmt}{tc:TT}{tb:TS}(o:PassesOwn (model X.prog X.w) X.A X.env X.xe)(u:PT X c tc)(w:Gu X body tb):PS X (.While c body [] L) (L3 tc tb):=by
 intro m s σ H D I h;obtain⟨W,⟨x,y⟩,turn⟩:=h;refine wpAny_While (codeAny_whileLoop (λn Z=>∃σ' p,Inv X m σ' p Z/\W n σ' p) ?_ x ⟨σ,H,I,y⟩);rintro n z ⟨σ1,Y,A,B⟩;refine wpAny_passesOwn o (AV (u m z σ1 Y _ A (turn n σ1 Y B)) λb C⟨q,r,d⟩=>?_)
 cases b with
 |true =>
   obtain⟨N,t,d⟩:=d;rw[Al rfl];refine wpAny_passesOwn o (AV (w m C σ1 q _ r d) λf E e=>?_)
   cases f with
   |next =>
     obtain⟨σ3,a,g,i⟩:=e;obtain⟨j,k,l⟩:=t σ3 a i;exact⟨j,k,σ3,a,g,l⟩
   |cont =>
     obtain⟨σ3,a,g,i⟩:=e;obtain⟨j,k,l⟩:=t σ3 a i;exact⟨j,k,σ3,a,g,l⟩
   |brk=>exact e
   |ret v=>exact e
 |false =>
   rw[An Ct];exact wpAny_execs_nil ⟨σ1,q,r,d⟩
end
structure It where
 go:Nat->Hp->Prop
 yld:Nat->Hp->V->Hp->Prop
 stop:Nat->Hp->Prop
def Dj (X:Cx) (pins:B') (H:Hp) (b:Addr):Prop:=
 H b=none/\b≠X.env.locals/\b∉X.fs/\(b∈X.ex\/X.s₀.heap.objs.size<=b)/\(∀x c,X.env.cells.lookup x=some c->c≠b)/\∀p∈X.pn++pins,p.1≠b
variable {pins:B'}{σ:St}
def Inv.fpOk{H':Hp}(I:Inv X pins σ H s)(a:s.heap.objs.size<=b)(d:H' b=none):Dj X pins H' b:=by
 refine⟨d,Nat.ne_of_gt (FW I.lt a),I.nofs a,.inr (Ek I.sz a),λx c e z=>?_,λp f z=>?_⟩;obtain⟨v,q⟩:=I.cell x c e;exact absurd (FW q.lt (by rw[z];exact a)) (Hs _);exact absurd (FW (Br (I.pin p f).1) (by rw[z];exact a)) (Hs _)
structure Gw (P:Program) (w:World) (K:Ah) (tg:Expr) (J:It) (fp:List Addr) (it:Addr) (tn:Nat->Heap->Prop):Prop where
 mem:it∈fp
 obj:∀i h,tn i h->∀b∈fp,∃o,h.get? b=some o/\∀v,o.data≠.cell v
 keep:∀i h h',tn i h->(∀b∈fp,∀o,h.get? b=some o->h'.get? b=some o)->tn i h'
 item:∀(X:Cx),X.prog=P->X.w=w->X.K=K->X.calm=true->∀(i:Nat)(pins:B')(s:Shared)(σ:St)(H:Hp)(E:D'),Inv X pins σ H s->(∀b∈fp,Dj X pins H b)->tn i s.heap->J.go i H ->
  wpAny (model P w) X.A (pyNext (.ref it)) (λr s1=>∃u,r=some u /\
   wpAny (model P w) X.A (letOwnedTupleGo tg (.ref it) u) (λζ s2=>∃x H',Inv X pins σ H' s2/\RelV x u/\J.yld i H x H'/\tn (i+1) s2.heap/\∀b∈fp,H' b=none) E s1) E s
 done:∀(X:Cx),X.prog=P->X.w=w->X.K=K->X.calm=true->∀(i:Nat)(pins:B')(s:Shared)(σ:St)(H:Hp)(E:D'),Inv X pins σ H s->(∀b∈fp,Dj X pins H b)->tn i s.heap->J.stop i H ->
  wpAny (model P w) X.A (pyNext (.ref it)) (λr s1=>r=none/\Inv X pins σ H s1) E s
 self:∀(A:Around)(i:Nat)(s:Shared)(Q:D')(E:D'),tn i s.heap->Q (.ref it) s->wpAny (model P w) A (pyIter (.ref it)) Q E s
abbrev TI:=St->Hp->(It->Hp->Prop)->Prop
def S6 (X:Cx) (pins:B') (σ:St) (tg:Expr) (R:It->Hp->Prop) (itv:Value) (s2:Shared):Prop:=
 ∃(it:Addr)(fp:List Addr)(tn:Nat->Heap->Prop)(J:It)(H':Hp),itv=.ref it/\Inv X pins σ H' s2/\Gw X.prog X.w X.K tg J fp it tn/\tn 0 s2.heap/\(∀b∈fp,Dj X pins H' b)/\R J H'
def PI (X:Cx) (tg j:Expr) (wi:TI):Prop:=
 ∀(pins:B')(s:Shared)(σ:St)(H:Hp)(R:It->Hp->Prop),Inv X pins σ H s->wi σ H R ->
  wpAny (model X.prog X.w) X.A (eval j X.env) (λv s1=>wpAny (model X.prog X.w) X.A (pyIter v) (S6 X pins σ tg R) X.xe s1) X.xe s
variable {tg:Expr}
def Hw{M:Model}{it:Addr}{u:Value}{o:Obj}{n:String}{vs:Array Value}{Q:Unit->Shared->Prop}(b:s.heap.get? it=some o)(c:o.cls=.type n)(hd:o.data=.fields vs)
 (d:["enumerate", "zip", "dict_itemiterator", "dict_reverseitemiterator", "odict_iterator", "itertools.zip_longest", "itertools.pairwise"].contains n=false) (a:Q () s):wpAny M A (letOwnedTupleGo tg (.ref it) u) Q E s:=by
 unfold letOwnedTupleGo
 cases tg<;>first
  |exact Aw a
  |(cases u<;>first
   |exact Aw a
   | (refine Ad (wpAny_load b ?_)
      rw[c,hd]
      show wpAny M A (if(["enumerate", "zip", "dict_itemiterator", "dict_reverseitemiterator", "odict_iterator", "itertools.zip_longest", "itertools.pairwise"].contains n && vs[0]?==some (rawInt _))=true then _ else _) Q E s
      rw[An (by intro h;rw[d,Bool.false_and] at h;cases h)]
      exact Aw a))
def NP (K:Ah) (a:Addr):It:=
 ⟨λi H=>∃xs x,Ae K H a xs/\xs[i]?=some x,λi H x H'=>H'=H/\∀xs,Ae K H a xs->xs[i]?=some x,λi H=>∃xs,Ae K H a xs/\xs.length<=i⟩
def NQ (lo:Int) (n:Nat):It:=⟨λi ζ=>i<n,λi H x H'=>H'=H/\x=.int (lo+i),λi ζ=>n<=i⟩
theorem Zr{K:Ah}(a it:Addr):Gw P w K tg (NP K a) [it] it (λi h=>h.IsListIter it a i) where
 mem:=by simp
 obj:=λi h f b g=>by
  have e:b=it:=(by simpa using g);subst e;obtain⟨o,e,c,d⟩:=f;exact⟨o,e,λv z=>by rw[d] at z;cases z⟩
 keep:=λi h j f k=>f.at λo e=>k it (by simp) o e
 item:=by
  intro X n q r J i pins s σ H E I l f t;subst n q r;obtain⟨M,x,m,y⟩:=t;obtain⟨W,A,p,N⟩:=I.list m;obtain⟨u,O,Q⟩:=A.get y;obtain⟨B,C,R,D,F,G⟩:=l it (by simp);refine wpAny_pyNext_list_item f p.isList (x:=u) (by simpa using O) λj L S=>?_;have T:Inv X pins σ H {s with heap:=j}:=I.turned (t':=s.toks) (λb o g e=>(S.2 b g).trans e) B C D F G;obtain⟨o,e,c,d⟩:=id L;exact⟨u,rfl,Hw (s:={s with heap:=j}) e c d (by decide) ⟨x,H,T,Q,⟨rfl,λY U=>by rw[I.list_inj U m];exact y⟩,L,λb g=>(l b g).1⟩⟩
 done:=by
  intro X n q r J i pins s σ H E I l f t;subst n q r;obtain⟨M,m,y⟩:=t;obtain⟨W,A,p,N⟩:=I.list m;obtain⟨B,C,R,D,F,G⟩:=l it (by simp);have Z:=A.length;exact wpAny_pyNext_list_end (I.ok.hd J) f p.isList (by simp;lia) λj V=>⟨rfl,I.turned (t':=s.toks) (λb o g e=>V b o g e) B C D F G⟩
 self:=λζ ζ ζ ζ ζ f h=>wpAny_pyIter_listiter f h
def Zs{K:Ah}(it:Addr)(lo:Int)(n:Nat):Gw P w K tg (NQ lo n) [it] it (λi h=>IsRangeIter h it (lo+(i:Nat)*1) ((n:Int)-(i:Nat)) 1) where
 mem:=by simp
 obj:=λi h a b c=>by
  have e:b=it:=(by simpa using c);subst e
  exact⟨_,a,λv z=>by
   have B:Data.fields _=Data.cell v:=z
   cases B⟩
 keep:=λi h d a k=>k it (by simp) _ a
 item:=by
  intro X g j l m i pins s σ H E I f a p;subst g j l;obtain⟨q,r,C,u,x,y⟩:=f it (by simp);have W:=Walks.range (prog:=X.prog) (w:=X.w) (I.ok.hd m) it lo 1 n;refine W.item i s _ _ p a λv d tk D A U=>?_;obtain⟨t,rfl⟩:=D;have F:Inv X pins σ H {s with heap:=d,toks:=tk}:=I.turned (λb o c e=>U b o (by simpa using c) e) q r u x y;refine⟨_,rfl,Hw (s:={s with heap:=d,toks:=tk}) (n:= "range_iterator") A rfl rfl (by decide) ⟨.int (lo+i),H,F,⟨t,?_⟩,⟨rfl,rfl⟩,A,λb c=>(f b c).1⟩⟩;rw[Int.mul_one]
 done:=by
  intro X g j l m i pins s σ H E I f a p;subst g j l;obtain⟨q,r,C,u,x,y⟩:=f it (by simp);exact wpAny_pyNext_range_end (I.ok.hd m) a (by have:n<=i:=p;lia) λd G=>⟨rfl,I.turned (t':=s.toks) (λb o c e=>G b o c e) q r u x y⟩
 self:=λζ ζ ζ ζ ζ a h=>wpAny_pyIter_rangeiter a h
section
variable {X:Cx} {tg:Expr}
def OE (K:Ah) (tl:TE):TI:=λσ H R=>tl σ H λx Y=>mR x λa=>(∃xs,Ae K Y a xs)/\R (NP K a) Y
def Dk{l:Expr}{g:TE}(i:PE X l g):PI X tg l (OE X.K g):=by
 intro pins s σ H R I h;refine AV (i pins s σ H _ I h) λv c⟨x,Y,d,j,f⟩=>?_
 replace f:=mR.ex f
 obtain⟨a,e,⟨n,k⟩,q⟩:=f;subst e;cases j;obtain⟨u,r,p,t⟩:=d.list k;refine wpAny_pyIter_list p.isList ?_;refine⟨c.heap.objs.size,[c.heap.objs.size],_,_,Y,rfl,d.kept (t':=c.toks) λb o e=>Bf _ e,Zr a _,⟨_,Cd _ rfl,rfl,rfl⟩,λb m=>?_,q⟩;have e:b=c.heap.objs.size:=(by simpa using m);subst e;exact d.fpOk (AG _) (d.hok.fresh (AG _))
def V6{R:It->Hp->Prop}{lo a:Int}{t u v:Tok}{tk:Nat}(I:Inv X pins σ H s)(d:-(2 ^ 62)<=lo)(f:lo<2 ^ 62)(g:-(2 ^ 62)<=a)(h:a<2 ^ 62)
 (q:R (NQ lo (a-lo).toNat) H):wpAny (model X.prog X.w) X.A (pyIter (.ref s.heap.objs.size)) (S6 X pins σ tg R) E {s with heap:=s.heap.push {cls:=.type "range",data:=.fields #[.int lo t,.int a u,.int 1 v]},toks:=tk}:=by
 refine wpAny_pyIter_range (IsRange.new ..) (small_one d f g h) ?_;have c:Inv X pins σ H {s with heap:=s.heap.push {cls:=.type "range",data:=.fields #[.int lo t,.int a u,.int 1 v]},toks:=tk}:=I.kept λb o e=>Bf _ e
 refine⟨(s.heap.push {cls:=.type "range",data:=.fields #[.int lo t,.int a u,.int 1 v]}).objs.size,[(s.heap.push {cls:=.type "range",data:=.fields #[.int lo t,.int a u,.int 1 v]}).objs.size],_,_,H,rfl,
  c.kept (t':=tk) λb o e=>Bf _ e,Zs _ lo (a-lo).toNat,?_,λb i=>?_,q⟩
 have j:lo+((0:Nat):Int)*1=lo:=(by simp);have k:(((a-lo).toNat:Nat):Int)-((0:Nat):Int)=Builtin.Range.rangeSize lo a 1:=by rw[rangeSize_one];split<;>lia
 show IsRangeIter _ _ (lo+((0:Nat):Int)*1) ((((a-lo).toNat:Nat):Int)-((0:Nat):Int)) 1;rw[j,k];exact Cd _ rfl;have e:b=(s.heap.push {cls:=.type "range",data:=.fields #[.int lo t,.int a u,.int 1 v]}).objs.size:=(by simpa using i);subst e;exact c.fpOk (AG _) (c.hok.fresh (AG _))
def OF (ta:TA):TI:=λσ H R=>ta σ H λvs Y=>mJ vs λj=>-(2 ^ 62)<=j/\j<2 ^ 62/\R (NQ 0 j.toNat) Y
def OG (ta:TA):TI:=λσ H R=>ta σ H λvs Y=>∃i j:Int,vs=[.int i,.int j]/\(-(2 ^ 62)<=i/\i<2 ^ 62/\-(2 ^ 62)<=j/\j<2 ^ 62)/\R (NQ i (j-i).toNat) Y
variable {L:Pos}
def Hx{a:Expr}{c:TA}{p:Pos}(d:Gl X "range")(f:X.mg "range" = none)(g:PA X [a] c)(i:starEach [a] X.env=[(false,eval a X.env)]:=by rfl):PI X tg (.Call (.Name "range" p) [a] [] L) (OF c):=by
 intro pins s σ H R I h;refine Call_ (K2 I d f boot_range (PyProof.Rows.callWith_type1 (AV (g L pins s σ H _ I h) λo u⟨v,Y,k,l,b⟩=>?_) i rfl))
 replace b:=mJ.ex b
 obtain⟨j,e,b,m,q⟩:=b;subst e
 cases l with
 |cons r n =>
   cases n;obtain⟨t,rfl⟩:=r;exact call_range_1 (V6 k (by lia) (by lia) b m (by simpa using q))
def Zt{a b:Expr}{f:TA}{p:Pos}(k:Gl X "range")(l:X.mg "range" = none)(m:PA X [a,b] f)(n:starEach [a,b] X.env=[(false,eval a X.env),(false,eval b X.env)]:=by rfl)(g:starEach [b] X.env=[(false,eval b X.env)]:=by rfl) :
 PI X tg (.Call (.Name "range" p) [a,b] [] L) (OG f):=by
 intro pins s σ H R I h;refine Call_ (K2 I k l boot_range (PyProof.Rows.callWith_type1 (AV (m L pins s σ H _ I h) λz A⟨B,Y,o,u,c⟩=>?_) (by rw[n,g]) (by rw[g];rfl)));obtain⟨i,j,e,⟨c,v,w,x⟩,q⟩:=c;subst e
 cases u with
 |cons r d =>
   cases d with
   |cons y d =>
     cases d;obtain⟨t,rfl⟩:=r;obtain⟨C,rfl⟩:=y;exact call_range_2 (V6 o c v w x q)
def FZ (J:It) (g:TG) (tb:TS) (D:Ends) (σ:St) (Y:Hp):Prop:=∃W:Nat->Nat->St->Hp->Prop,(∃m,W 0 m σ Y)/\∀i m σ H,W i m σ H ->
 (J.stop i H/\D.nx σ H)\/(J.go i H/\∃N:St->Hp->Prop,(∀σ' H',N σ' H'->∃m',m'<m/\W (i+1) m' σ' H')/\∀x H',J.yld i H x H'->g x σ H' λσ2 H2=>tb {D with nx:=N,ct:=N,bk:=D.nx} σ2 H2)
def S7 (wi:TI) (g:TG) (tb:TS):TS:=λD σ H=>wi σ H λJ Y=>FZ J g tb D σ Y
def OH (fp:List Addr) (h:Heap):B':=fp.filterMap λb=>(h.get? b).map λo=>(b,o)
variable {fp:List Addr}
def Qs{o:Obj}(a:b∈fp)(e:h.get? b=some o):(b,o)∈OH fp h:=List.mem_filterMap.mpr ⟨b,a,by rw[e];rfl⟩
def Zu{p:Addr×Obj}(a:p∈OH fp h):p.1∈fp/\h.get? p.1=some p.2:=by
 obtain⟨b,c,e⟩:=List.mem_filterMap.mp a
 cases q:h.get? b with
 |none=>rw[q] at e;cases e
 |some o =>
   rw[q] at e;have d:(b,o)=p:=Bz e;subst d;exact⟨c,q⟩
theorem Inv.pinned(I:Inv X pins σ H s)(f:∀b∈fp,Dj X pins H b)(g:∀b∈fp,∃o,s.heap.get? b=some o/\∀v,o.data≠.cell v):Inv X (pins++OH fp s.heap) σ H s:=
 I.pins_of λp h=>(BI.mp h).elim (λz=>I.pin p (Du _ z)) λz=>by
  obtain⟨a,e⟩:=Zu z;obtain⟨i,j,k,_⟩:=f p.1 a;obtain⟨o,c,d⟩:=g p.1 a;rw[e] at c;cases c;exact⟨e,i,j,k,d⟩
theorem Inv.unpinned{a:B'}(I:Inv X (pins++a) σ H s):Inv X pins σ H s:=I.pins_of λp b=>I.pin p (Du _ (Eu _ b))
def CG{j:Expr}{body:List Stmt}{B:TI}{g:TG}{tb:TS}(p:PassesOwn (model X.prog X.w) X.A X.env X.xe)(C:X.calm=true)(P:PI X tg j B)(Q:PG X tg g)(a:Gu X body tb)
 (R:∀x,foldedSetIterable j X.env x=pure x:=by intro _;rfl):PS X (.For tg j body [] L) (S7 B g tb):=by
 intro pins s σ H af I h;refine wpAny_For (AV (P pins s σ H _ I h) λv s1 S=>AV S λai s2 U=>?_) R;obtain⟨it,fp,D,ag,V,e,Y,T,aa,E,W,⟨m0,w0⟩,turn⟩:=U;subst e;have A:∀{k:Hp},(∀b∈fp,k b=none)->∀b∈fp,Dj X pins k b:=λhn b a=>⟨hn b a,(E b a).2⟩;refine codeAny_forLoop_any (λn Z=>∃i σ' k,Inv X pins σ' k Z/\D i Z.heap/\(∀b∈fp,k b=none)/\W i n σ' k) ?_ m0 ⟨0,σ,V,Y,aa,λb a=>(E b a).1,w0⟩;rintro n F ⟨i,σ3,t,G,M,O,w3⟩;rcases turn i n σ3 t w3 with⟨stop,qn⟩|⟨go,N,hN,step⟩
 . refine wpAny_passesOwn p (AV (T.done X rfl rfl rfl C i pins F σ3 t X.xe G (A O) M stop) λr s4⟨w,I4⟩=>?_)
   subst w;exact wpAny_execs_nil ⟨σ3,t,I4,qn⟩
 . refine wpAny_passesOwn p (AV (T.item X rfl rfl rfl C i pins F σ3 t X.xe G (A O) M go) λr s4⟨u,w,h4⟩=>?_)
   subst w;refine wpAny_passesOwn p (AV h4 λ_ J⟨x,K,I5,r5,y5,z,ab⟩=>?_);have ae:=I5.pinned (A ab) (T.obj _ _ z);refine wpAny_passesOwn p (AV (Q _ J σ3 K x u _ ae r5 (step x K y5)) λ_ s6⟨σ6,H6,I6,q6⟩=>?_);refine wpAny_passesOwn p (AV (a _ s6 σ6 H6 _ I6 q6) λf y l=>?_)
   have again:∀{σ7:St}{c:Hp},Inv X (pins++OH fp J.heap) σ7 c y->N σ7 c->∃m,m<n/\∃i σ' k,Inv X pins σ' k y/\D i y.heap/\(∀b∈fp,k b=none)/\W i m σ' k:=λ{σ7 c}d q=>by
    obtain⟨m',hm,w7⟩:=hN σ7 c q;refine⟨m',hm,i+1,σ7,c,d.unpinned,T.keep _ _ _ z λb a o e=>(d.pin (b,o) (Du _ (Du _ (Qs a e)))).1,λb a=>?_,w7⟩;obtain⟨o,e,ah⟩:=T.obj _ _ z b a;exact(d.pin (b,o) (Du _ (Du _ (Qs a e)))).2.1
   cases f with
   |next=>obtain⟨σ7,c,d,q⟩:=l;exact again d q
   |cont=>obtain⟨σ7,c,d,q⟩:=l;exact again d q
   |brk=>obtain⟨σ7,c,d,l⟩:=l;exact⟨σ7,c,d.unpinned,l⟩
   |ret v=>obtain⟨x7,σ7,c,d,r7,l⟩:=l;exact⟨x7,σ7,c,d.unpinned,r7,l⟩
end
variable {g:TG}{tb:TS}{D:Ends}
def OI{J:It}(n:Nat)(Pv:Nat->St->Hp->Prop)(b:Pv 0 σ H)(go:∀i σ H,Pv i σ H->i<n->J.go i H)(stop:∀σ H,Pv n σ H->J.stop n H)
 (c:∀i v σ H H',Pv i σ H->i<n->J.yld i H v H'->g v σ H' λσ2 d=>tb {D with nx:=Pv (i+1),ct:=Pv (i+1),bk:=D.nx} σ2 d) (hd:∀σ H,Pv n σ H->D.nx σ H):FZ J g tb D σ H:=by
 unfold FZ;refine⟨λi m σ H=>m=n-i/\i<=n/\Pv i σ H,⟨_,rfl,Di _,b⟩,?_⟩;rintro i m σ H ⟨rfl,f,p⟩;by_cases a:i<n;exact .inr ⟨go i σ H p a,Pv (i+1),λσ' H' e=>⟨n-(i+1),by lia,rfl,a,e⟩,λv H' y=>c i v σ H H' p a y⟩
 . obtain rfl:i=n:=by lia
   exact .inl ⟨stop σ H p,hd σ H p⟩
def EU{K:Ah}{xs:List V}(Pv:Nat->St->Hp->Prop)(d:Pv 0 σ H)(c:∀i σ H,i<=xs.length->Pv i σ H->Ae K H a xs)
 (e:∀i x σ H,xs[i]?=some x->Pv i σ H->g x σ H λσ2 f=>tb {D with nx:=Pv (i+1),ct:=Pv (i+1),bk:=D.nx} σ2 f) (hd:∀σ H,Pv xs.length σ H->D.nx σ H):FZ (NP K a) g tb D σ H:=OI xs.length Pv d (λi σ H p b=>⟨xs,xs[i],c i σ H (CI b) p,by simp[b]⟩) (λσ H p=>⟨xs,c _ σ H (AG _) p,AG _⟩) (λi v σ H h p b y=>by obtain⟨rfl,y⟩:=y;exact e i v σ _ (y xs (c i σ _ (CI b) p)) p) hd
def Jv{lo:Int}{n:Nat}(Pv:Nat->St->Hp->Prop)(b:Pv 0 σ H)
 (c:∀i σ H,i<n->Pv i σ H->g (.int (lo+i)) σ H λσ2 d=>tb {D with nx:=Pv (i+1),ct:=Pv (i+1),bk:=D.nx} σ2 d) (hd:∀σ H,Pv n σ H->D.nx σ H):FZ (NQ lo n) g tb D σ H:=OI n Pv b (λi σ H p a=>a) (λσ H p=>AG _) (λi v σ H e p a y=>by obtain⟨rfl,rfl⟩:=y;exact c i σ _ a p) hd
abbrev R2:=V->V->Hp->VK->Prop
def Dv (X:Cx) (f:Value->Value->Sem Value) (r:R2):Prop:=
 ∀(pins:B')(s:Shared)(σ:St)(H:Hp)(x y:V)(v u:Value)(Q:VK),Inv X pins σ H s->RelV x v->RelV y u->r x y H Q ->
  wpAny (model X.prog X.w) X.A (f v u) (EP X pins σ Q) X.xe s
def Qt (X:Cx) (f:Value->Sem Value) (r:V->Hp->VK->Prop):Prop:=
 ∀(pins:B')(s:Shared)(σ:St)(H:Hp)(x:V)(v:Value)(Q:VK),Inv X pins σ H s->RelV x v->r x H Q ->
  wpAny (model X.prog X.w) X.A (f v) (EP X pins σ Q) X.xe s
def A6 (X:Cx) (f:Value) (r:List V->Hp->VK->Prop):Prop:=
 ∀(pins:B')(s:Shared)(σ:St)(H:Hp)(xs:List V)(us:List Value)(Q:VK),Inv X pins σ H s->At xs us->r xs H Q ->
  wpAny (model X.prog X.w) X.A (call f us) (EP X pins σ Q) X.xe s
def S8 (X:Cx) (r:V->Hp->(Bool->Hp->Prop)->Prop):Prop:=
 ∀(pins:B')(s:Shared)(σ:St)(H:Hp)(x:V)(v:Value)(Q:Bool->Hp->Prop),Inv X pins σ H s->RelV x v->r x H Q ->
  wpAny (model X.prog X.w) X.A (truthy v) (TP X pins σ Q) X.xe s
def IX (r:R2) (ta tb:TE):TE:=λσ H Q=>ta σ H λx Y=>tb σ Y λy H2=>r x y H2 Q
def Zv (r:V->Hp->VK->Prop) (ta:TE):TE:=λσ H Q=>ta σ H λx Y=>r x Y Q
def rI (C:Int->Int->Prop) (g:Int->Int->V):R2:=λx y H Q=>IT x y λi j=>C i j/\Q (g i j) H
def IY (g:Int->Int->V):R2:=λx y H Q=>IT x y λi j=>Q (g i j) H
def rU (g:Int->V):V->Hp->VK->Prop:=λx H Q=>mI x λi=>Q (g i) H
section
variable {X:Cx} {a b c:Expr} {ta tb tc:TE} {L:Pos}
variable {f:Value->Value->Sem Value}
def L4(e:PE X a ta)(g:PE X b tb){R:V->V->Hp->Prop}(I:Inv X pins σ H s)
 (h:ta σ H λx Y=>tb σ Y λy c=>R x y c) {Q:D'} (i:∀v u d x y c,Inv X pins σ c d->RelV x v->RelV y u->R x y c->wpAny (model X.prog X.w) X.A (f v u) Q X.xe d) :
 wpAny (model X.prog X.w) X.A (eval a X.env) (λv j=>wpAny (model X.prog X.w) X.A (eval b X.env) (λu k=>wpAny (model X.prog X.w) X.A (f v u) Q X.xe k) X.xe j) X.xe s:=by
 refine AV (e pins s σ H _ I h) λv l⟨x,Y,m,n,o⟩=>?_;refine AV (g pins l σ Y _ m o) λu d⟨y,c,p,q,r⟩=>?_;exact i v u d x y c p n q r
def AE{op:Operator}{r:R2}(c:Dv X (binaryOp op) r)(d:PE X a ta)(e:PE X b tb):PE X (.BinOp a op b L) (IX r ta tb):=by
 intro pins s σ H Q I h;exact wpAny_BinOp (L4 d e I h λv u f x y g i j k q=>c pins f σ g x y v u Q i j k q)
def K5{op:UnaryOp}{r:V->Hp->VK->Prop}(b:Qt X (unaryOp op) r)(c:PE X a ta):PE X (.UnaryOp op a L) (Zv r ta):=by
 intro pins s σ H Q I h;exact UnaryOp_ (AV (c pins s σ H _ I h) λv d⟨x,Y,e,f,g⟩=>b pins d σ Y x v Q e f g)
def S9{C:Int->Int->Prop}{g:Int->Int->Int}
 (e:∀(i j:Int)(t u:Tok)(s:Shared)(Q:D')(E:D'),C i j->Q (.int (g i j) s.toks) {s with toks:=s.toks+1}->wpAny (model X.prog X.w) X.A (f (.int i t) (.int j u)) Q E s) :
 Dv X f (rI C λi j=>.int (g i j)):=by
 intro pins s σ H x y v u Q I a b h
 replace h:=IT.ex h
 obtain⟨i,j,rfl,rfl,c,q⟩:=h;obtain⟨t,rfl⟩:=a;obtain⟨d,rfl⟩:=b;exact e i j t d s _ _ c ⟨.int (g i j),H,I.tok _,⟨_,rfl⟩,q⟩
def L5{g:Int->Int->Int}
 (d:∀(i j:Int)(t u:Tok)(s:Shared)(Q:D')(E:D'),Q (.int (g i j) s.toks) {s with toks:=s.toks+1}->wpAny (model X.prog X.w) X.A (f (.int i t) (.int j u)) Q E s) :
 Dv X f (IY λi j=>.int (g i j)):=by
 intro pins s σ H x y v u Q I a b h
 replace h:=IT.ex h
 obtain⟨i,j,rfl,rfl,q⟩:=h;obtain⟨t,rfl⟩:=a;obtain⟨c,rfl⟩:=b;exact d i j t c s _ _ ⟨.int (g i j),H,I.tok _,⟨_,rfl⟩,q⟩
def L6{g:Int->Int->Bool}
 (d:∀(i j:Int)(t u:Tok)(s:Shared)(Q:D')(E:D'),Q (.bool (g i j)) s->wpAny (model X.prog X.w) X.A (f (.int i t) (.int j u)) Q E s) :
 Dv X f (IY λi j=>.bl (g i j)):=by
 intro pins s σ H x y v u Q I a b h
 replace h:=IT.ex h
 obtain⟨i,j,rfl,rfl,q⟩:=h;obtain⟨t,rfl⟩:=a;obtain⟨c,rfl⟩:=b;exact d i j t c s _ _ ⟨.bl (g i j),H,I,rfl,q⟩
def Ta (i j:Int):Prop:=0<j/\j<1073741824
def L7 (i j:Int):Prop:=(-(2 ^ 64)<i/\i<2 ^ 64)\/(-(2 ^ 64)<j/\j<2 ^ 64)
def L7.ok{i j:Int}(h:L7 i j):IntMulOk i j:=by
 rcases h with⟨a,b⟩|⟨a,b⟩;exact .of_left (intBits_le_64 a b);exact .of_right (intBits_le_64 a b)
def Hy:Dv X (binaryOp .Add) (IY λi j=>.int (i+j)):=L5 λζ ζ ζ ζ ζ ζ ζ q=>add_int q
def Hz:Dv X (binaryOp .Sub) (IY λi j=>.int (i-j)):=L5 λζ ζ ζ ζ ζ ζ ζ q=>sub_int q
def EV:Dv X (binaryOp .Mult) (rI L7 λi j=>.int (i*j)):=S9 λζ ζ ζ ζ ζ ζ ζ a q=>mul_int q a.ok
def FQ:Dv X (binaryOp .FloorDiv) (rI Ta λi j=>.int (i/j)):=S9 λi j ζ ζ ζ ζ ζ a q=>by
 have b:(0:Int)<j:=a.1;have c:j<1073741824:=a.2;exact floordiv_int (by lia) (by rw[Int.fdiv_eq_ediv_of_nonneg i (by lia)];exact q) (.inl (PyProof.noPylong_small (by lia)))
def Bu:Dv X (binaryOp .Mod) (rI (λζ j=>0<j) λi j=>.int (i%j)):=S9 λi j ζ ζ ζ ζ ζ a q=>by
 have b:(0:Int)<j:=a;exact mod_int' (by lia) (by rw[Int.fmod_eq_emod_of_nonneg i (by lia)];exact q)
def V7:Dv X (inplaceOp .Add) (IY λi j=>.int (i+j)):=L5 λζ ζ ζ ζ ζ ζ ζ q=>iadd_int q
def Zw{f:Value->Sem Value}{g:Int->Int}
 (b:∀(i:Int)(t:Tok)(s:Shared)(Q:D')(E:D'),Q (.int (g i) s.toks) {s with toks:=s.toks+1}->wpAny (model X.prog X.w) X.A (f (.int i t)) Q E s) :
 Qt X f (rU λi=>.int (g i)):=by
 intro pins s σ H x v Q I a h
 replace h:=mI.ex h
 obtain⟨i,rfl,q⟩:=h;obtain⟨t,rfl⟩:=a;exact b i t s _ _ ⟨.int (g i),H,I.tok _,⟨_,rfl⟩,q⟩
def K6:Qt X (unaryOp .USub) (rU λi=>.int (-i)):=Zw λζ ζ ζ ζ ζ q=>neg_int q
end
def L8:V->V->Bool
 |.non,.non=>true|.non,.int _=>true|.int _,.non=>true|.non,.bl _=>true|.bl _,.non=>true|.non,.str _=>true|.str _,.non=>true
 |.int _,.int _=>true|.bl _,.bl _=>true|.str _,.str _=>true|.byt _,.byt _=>true
 |.int _,.str _=>true|.str _,.int _=>true|.bl _,.str _=>true|.str _,.bl _=>true
 |_,_=>false
def Zx:R2:=λx y H Q=>L8 x y=true/\Q (.bl (decide (x=y))) H
def V8:R2:=λx y H Q=>L8 x y=true/\Q (.bl (!decide (x=y))) H
def V9{i j:Int}:decide (V.int i=V.int j)=(i==j):=by
 rw[Bool.eq_iff_iff]
 simp
def HA{i j:Bool}:decide (V.bl i=V.bl j)=(i==j):=by
 rw[Bool.eq_iff_iff]
 simp
def Wa{i j:Str}:decide (V.str i=V.str j)=(i==j):=by
 rw[Bool.eq_iff_iff]
 simp
def Wb{i j:Array UInt8}:decide (V.byt i=V.byt j)=(i.toList==j.toList):=by
 rw[Bool.eq_iff_iff];cases i;cases j
 simp
section
variable {X:Cx} {a b c:Expr} {ta tb tc:TE} {L:Pos}
def Dw{Q:VK}{k a:Bool}(I:Inv X pins σ H s)(q:Q (.bl k) H)(e:k=a):EP X pins σ Q (.bool a) s:=by
 subst e;exact⟨.bl k,H,I,rfl,q⟩
def CJ:Dv X (compareOp .Eq) Zx:=by
 intro pins s σ H x y v u Q I d a h;obtain⟨c,q⟩:=h
 cases x with
 |non =>
   cases d
   cases y with
   |non=>cases a;exact PySem.EqNone.eq_none_none (Dw I q (by simp))
   |bl j=>cases a;exact PySem.EqNone.eq_none_bool (Dw I q (by simp))
   |int j=>obtain⟨b,rfl⟩:=a;exact PySem.EqNone.eq_none_int (Dw I q (by simp))
   |str j=>obtain⟨b,rfl⟩:=a;exact PySem.EqNone.eq_none_str (Dw I q (by simp))
   |_=>exact absurd (show false=true from c) Ct
 |bl i =>
   cases d
   cases y with
   |non=>cases a;exact PySem.EqNone.eq_bool_none (Dw I q (by simp))
   |bl j=>cases a;exact eq_bool (Dw I q HA)
   |str j=>obtain⟨b,rfl⟩:=a;exact PySem.EqMixed.eq_bool_str (Dw I q (by simp))
   |_=>exact absurd (show false=true from c) Ct
 |int i =>
   obtain⟨t,rfl⟩:=d
   cases y with
   |non=>cases a;exact PySem.EqNone.eq_int_none (Dw I q (by simp))
   |int j=>obtain⟨b,rfl⟩:=a;exact eq_int (Dw I q V9)
   |str j=>obtain⟨b,rfl⟩:=a;exact PySem.EqMixed.eq_int_str (Dw I q (by simp))
   |_=>exact absurd (show false=true from c) Ct
 |str i =>
   obtain⟨t,rfl⟩:=d
   cases y with
   |non=>cases a;exact PySem.EqNone.eq_str_none (Dw I q (by simp))
   |bl j=>cases a;exact PySem.EqMixed.eq_str_bool (Dw I q (by simp))
   |int j=>obtain⟨b,rfl⟩:=a;exact PySem.EqMixed.eq_str_int (Dw I q (by simp))
   |str j=>obtain⟨b,rfl⟩:=a;exact eq_str (Dw I q Wa)
   |_=>exact absurd (show false=true from c) Ct
 |byt i =>
   obtain⟨t,rfl⟩:=d
   cases y with
   |byt j=>obtain⟨b,rfl⟩:=a;exact PySem.W.eq_bytes (Dw I q Wb)
   |_=>exact absurd (show false=true from c) Ct
 |_=>cases y<;>exact absurd (show false=true from c) Ct
def L9:Dv X (compareOp .NotEq) V8:=by
 intro pins s σ H x y v u Q I d a h;obtain⟨c,q⟩:=h
 cases x with
 |non =>
   cases d
   cases y with
   |non=>cases a;exact PySem.EqNone.ne_none_none (Dw I q (by simp))
   |bl j=>cases a;exact PySem.EqNone.ne_none_bool (Dw I q (by simp))
   |int j=>obtain⟨b,rfl⟩:=a;exact PySem.EqNone.ne_none_int (Dw I q (by simp))
   |str j=>obtain⟨b,rfl⟩:=a;exact PySem.EqNone.ne_none_str (Dw I q (by simp))
   |_=>exact absurd (show false=true from c) Ct
 |bl i =>
   cases d
   cases y with
   |non=>cases a;exact PySem.EqNone.ne_bool_none (Dw I q (by simp))
   |bl j=>cases a;exact ne_bool (Dw I q (Bq not HA))
   |str j=>obtain⟨b,rfl⟩:=a;exact PySem.EqMixed.ne_bool_str (Dw I q (by simp))
   |_=>exact absurd (show false=true from c) Ct
 |int i =>
   obtain⟨t,rfl⟩:=d
   cases y with
   |non=>cases a;exact PySem.EqNone.ne_int_none (Dw I q (by simp))
   |int j=>obtain⟨b,rfl⟩:=a;exact ne_int (Dw I q (Bq not V9))
   |str j=>obtain⟨b,rfl⟩:=a;exact PySem.EqMixed.ne_int_str (Dw I q (by simp))
   |_=>exact absurd (show false=true from c) Ct
 |str i =>
   obtain⟨t,rfl⟩:=d
   cases y with
   |non=>cases a;exact PySem.EqNone.ne_str_none (Dw I q (by simp))
   |bl j=>cases a;exact PySem.EqMixed.ne_str_bool (Dw I q (by simp))
   |int j=>obtain⟨b,rfl⟩:=a;exact PySem.EqMixed.ne_str_int (Dw I q (by simp))
   |str j=>obtain⟨b,rfl⟩:=a;exact ne_str (Dw I q (Bq not Wa))
   |_=>exact absurd (show false=true from c) Ct
 |byt i =>
   obtain⟨t,rfl⟩:=d
   cases y with
   |byt j=>obtain⟨b,rfl⟩:=a;exact PySem.W.ne_bytes (Dw I q (Bq not Wb))
   |_=>exact absurd (show false=true from c) Ct
 |_=>cases y<;>exact absurd (show false=true from c) Ct
def Gx:Dv X (compareOp .Lt) (IY λi j=>.bl (decide (i<j))):=L6 λζ ζ ζ ζ ζ ζ ζ q=>lt_int q
def OJ:Dv X (compareOp .LtE) (IY λi j=>.bl (decide (i<=j))):=L6 λζ ζ ζ ζ ζ ζ ζ q=>le_int q
def HB:Dv X (compareOp .Gt) (IY λi j=>.bl (decide (j<i))):=L6 λζ ζ ζ ζ ζ ζ ζ q=>gt_int q
variable {op:CmpOp}
def Bs(b:Expr)(h:op≠.In:=by decide)(a:op≠.NotIn:=by decide):behindInMarks op b=false:=by
 have c:(op==CmpOp.In)=false:=by cases op<;>first|rfl|exact absurd rfl h
 have d:(op==CmpOp.NotIn)=false:=by cases op<;>first|rfl|exact absurd rfl a
 cases b<;>simp[behindInMarks,c,d]
variable {r:R2}
def IZ(c:Dv X (compareOp op) r)(d:PE X a ta)(e:PE X b tb)(f:behindInMarks op b=false):PE X (.Compare a [op] [b] L) (IX r ta tb):=by
 intro pins s σ H Q I h;exact wpAny_Compare1 (L4 d e I h λv u g x y i j k l q=>c pins g σ i x y v u Q j k l q) f
def K7 (t:TE):TT:=λσ H Q=>t σ H λx H'=>mB x λk=>Q k H'
def Bv(f:Dv X (compareOp op) r)(g:PE X a ta)(i:PE X b tb)(j:behindInMarks op b=false):PT X (.Compare a [op] [b] L) (K7 (IX r ta tb)):=by
 intro pins s σ H Q I h
 refine wpAny_isTrue_Compare1 (AV (g pins s σ H _ I h) λv l⟨x,Y,m,n,o⟩=>AV (i pins l σ Y _ m o) λu p⟨y,q,t,w,A⟩ =>
  AV (f pins p σ q x y v u _ t n w A) λc E⟨z,B,C,D,d⟩=>?_) j
 replace d:=mB.ex d
 obtain⟨k,e,d⟩:=d;subst e;cases D;exact FX ⟨B,C,d⟩
def Ma (r r':R2) (ta tb tc:TE):TE:=λσ H Q=>ta σ H λx Y=>tb σ Y λy H2=>r x y H2 λz H3=>∃k,z=.bl k /\
 (if k=true then tc σ H3 λw' H4=>r' y w' H4 Q else Q (.bl false) H3)
def Wc{i:CmpOp}{j:R2}(o:Dv X (compareOp op) r)(aa:Dv X (compareOp i) j)(p:PE X a ta)(q:PE X b tb)(t:PE X c tc)
 (w:lastMarks [op,i] [b,c]=false:=by with_unfolding_all rfl):PT X (.Compare a [op,i] [b,c] L) (K7 (Ma r j ta tb tc)):=by
 intro pins s σ H Q I h
 refine isTrue_chain (AV (p pins s σ H _ I h) λv z⟨x,Y,A,B,C⟩=>test_link (AV (q pins z σ Y _ A C) λu D⟨y,E,F,l,G⟩ =>
  AV (o pins D σ E x y v u _ F B l G) λab J⟨ae,g,m,K,k,e,n⟩=>?_)) w
 subst e;cases K;refine FX ?_
 cases k with
 |false =>
   have d:mB (.bl false) (λk=>Q k g):=n
   replace d:=mB.ex d
   obtain⟨k',M,N⟩:=d;cases M;exact ite_ff ⟨g,m,N⟩
 |true =>
   refine ite_tt (test_last (AV (t pins J σ g _ m n) λO P⟨R,S,T,U,d⟩=>AV (aa pins P σ S y R u O _ T l U d) λd' s5⟨z2,V,W,Z,f⟩=>?_))
   replace f:=mB.ex f
   obtain⟨k2,e2,f⟩:=f;subst e2;cases Z;exact FX ⟨V,W,f⟩
def Tb (K:Ah) (x:V) (H:Hp) (k:Bool):Prop:=
 match x with
 |.non=>k=false
 |.bl b=>k=b
 |.int i=>k=(i != 0)
 |.str y=>y.length<=sizeLine/\k=((y.length:Int) != 0)
 |.byt y=>y.size<=sizeLine/\k=((y.size:Int) != 0)
 |.ref p=>(∃xs,Ae K H p xs/\k=!xs.isEmpty)\/(∃xs,Ar K H p xs/\k=!xs.isEmpty)\/∃kvs,H p=some (.dK kvs)/\k=!kvs.isEmpty
 |_=>False
def Zy{κ:Type}{a:List (κ×V)}{vs:List (κ×Value)}(r:KV a vs):(!vs.isEmpty)=!a.isEmpty:=by
 cases r<;>rfl
def We{xs:List V}{a:List Value}(r:At xs a):(!a.toArray.isEmpty)=!xs.isEmpty:=by
 cases r<;>simp
def Mb:(sizeLine:Nat)<2 ^ 63:=by rw[sizeLine_eq];decide
def Mc:S8 X (λx H Q=>∃k,Tb X.K x H k/\Q k H):=by
 intro pins s σ H x v Q I d h;obtain⟨k,e,q⟩:=h;have A:=Mb;have B:sizeLine=16777216:=sizeLine_eq
 cases x with
 |non =>
   cases d;have a:k=false:=e;subst a;exact truthy_none ⟨H,I,q⟩
 |bl b =>
   cases d;have a:k=b:=e;subst a;exact FX ⟨H,I,q⟩
 |int i =>
   obtain⟨t,rfl⟩:=d;have a:k=(i != 0):=e;subst a;exact PySem.P.truthy_int ⟨H,I,q⟩
 |str y =>
   obtain⟨t,rfl⟩:=d;obtain⟨u,a⟩:y.length<=sizeLine/\k=((y.length:Int) != 0):=e;subst a;exact PySem.P.truthy_str (by lia) ⟨H,I.tok _,q⟩
 |byt y =>
   obtain⟨t,rfl⟩:=d;obtain⟨u,a⟩:y.size<=sizeLine/\k=((y.size:Int) != 0):=e;subst a;exact PySem.W.truthy_bytes (by lia) ⟨H,I.tok _,q⟩
 |ref p =>
   cases d;have a:(∃c,Ae X.K H p c/\k=!c.isEmpty)\/(∃c,Ar X.K H p c/\k=!c.isEmpty)\/∃f,H p=some (.dK f)/\k=!f.isEmpty:=e;rcases a with⟨c,g,a⟩|⟨c,g,a⟩|⟨f,g,a⟩;subst a;obtain⟨z,r,l,n⟩:=I.list g;have o:=r.length;exact wpAny_truthy_list l.isList (by simp only[Ce];lia) ⟨H,I.tok _,by rw[We r];exact q⟩;subst a;obtain⟨z,r,l,n⟩:=I.tuple g;have o:=r.length;exact truthy_tuple l (by simp only[Ce];lia) ⟨H,I.tok _,by rw[We r];exact q⟩;subst a;obtain⟨n,w,j,r,m⟩:f.length<=sizeLine/\(p==sysModules)=false/\∃j,KV f j/\s.heap.DictOf (ES X.prog X.w) p j:=I.hok p _ g;have o:f.length=j.length:=Paired.length r;exact wpAny_truthy_dict w m (by lia) ⟨H,I.tok _,by rw[Zy r];exact q⟩
 |_=>exact(show False from e).elim
def Wf:Dv X (binaryOp .Add) (λx y H Q=>∃i j,x=.str i/\y=.str j/\i.length+j.length<=sizeLine/\Q (.str (i++j)) H):=by
 intro pins s σ H x y v u Q I a b h;obtain⟨i,j,rfl,rfl,c,q⟩:=h;obtain⟨t,rfl⟩:=a;obtain⟨d,rfl⟩:=b;exact add_str (λd tk=>⟨.str (i++j),H,I.tok _,⟨_,rfl⟩,q⟩) c
def Fa{us:List Value}(r:At [x] us):∃u,us=[u]/\RelV x u:=by
 cases r with
 |cons a b=>cases b;exact⟨_,rfl,a⟩
def Jw{y:V}{us:List Value}(r:At [x,y] us):∃u a,us=[u,a]/\RelV x u/\RelV y a:=by
 cases r with
 |cons b c =>
   cases c with
   |cons d e=>cases e;exact⟨_,_,rfl,b,d⟩
def Zz(b:X.calm=true):A6 X (.builtin "min") (λxs H Q=>∃i j,xs=[.int i,.int j]/\Q (.int (if j<i then j else i)) H):=by
 intro pins s σ H xs c Q I r h;obtain⟨i,j,rfl,q⟩:=h;obtain⟨u,d,rfl,⟨t,rfl⟩,⟨e,rfl⟩⟩:=Jw r;refine min_two_ints (I.ok.hd b) λf tk k=>⟨_,H,I.kept k,?_,q⟩;by_cases a:j<i;rw[Al a,Al a];exact⟨_,rfl⟩;rw[An a,An a];exact⟨_,rfl⟩
def Wg:A6 X (.type "int") (λxs H Q=>(∃i,xs=[.int i]/\Q (.int i) H)\/∃k,xs=[.bl k]/\Q (.int (if k then 1 else 0)) H):=by
 intro pins s σ H xs b Q I r h;rcases h with⟨i,rfl,q⟩|⟨k,rfl,q⟩;obtain⟨u,rfl,t,rfl⟩:=Fa r;exact call_int_int ⟨.int i,H,I,⟨_,rfl⟩,q⟩;obtain⟨u,rfl,a⟩:=Fa r
 cases a;exact call_int_bool ⟨.int (if k then 1 else 0),H,I.tok _,⟨_,rfl⟩,q⟩
def Tc (K:Ah) (x:V) (H:Hp) (n:Nat):Prop:=
 match x with
 |.str y=>y.length<=sizeLine/\n=y.length
 |.byt y=>y.size<=sizeLine/\n=y.size
 |.ref p=>(∃xs,Ae K H p xs/\n=xs.length)\/∃xs,Ar K H p xs/\n=xs.length
 |_=>False
def Dy:A6 X (.builtin "len") (λxs H Q=>mL xs λx n=>Tc X.K x H n/\Q (.int n) H):=by
 intro pins s σ H xs l Q I r h
 replace h:=mL.ex h
 obtain⟨x,n,rfl,e,q⟩:=h;obtain⟨u,rfl,b⟩:=Fa r;have m:=Mb;have o:sizeLine=16777216:=sizeLine_eq
 cases x with
 |str y =>
   obtain⟨t,rfl⟩:=b;obtain⟨i,a⟩:y.length<=sizeLine/\n=y.length:=e;subst a;exact len_str (by lia) ⟨.int _,H,I.tok _,⟨_,rfl⟩,q⟩
 |byt y =>
   obtain⟨t,rfl⟩:=b;obtain⟨i,a⟩:y.size<=sizeLine/\n=y.size:=e;subst a;exact PySem.W.len_bytes (by lia) ⟨.int _,H,I.tok _,⟨_,rfl⟩,q⟩
 |ref p =>
   cases b;have a:(∃xs,Ae X.K H p xs/\n=xs.length)\/∃xs,Ar X.K H p xs/\n=xs.length:=e;rcases a with⟨xs,c,a⟩|⟨xs,c,a⟩;subst a;obtain⟨k,d,f,j⟩:=I.list c;have g:=d.length;exact Calls.call_len_list f.isList (by simp only[Ce];lia) ⟨.int xs.length,H,I.tok _,⟨_,by simp only[Ce];rw[g]⟩,q⟩;subst a;obtain⟨k,d,f,j⟩:=I.tuple c;have g:=d.length;exact len_tuple f (by simp only[Ce];lia) ⟨.int xs.length,H,I.tok _,⟨_,by simp only[Ce];rw[g]⟩,q⟩
 |_=>exact(show False from e).elim
end
section
variable {prog:Program} {w:World} {A:Around} {E:D'} {s:Shared} {K:Ah} {x dx C f:Addr} {mA:Str->Option Value} {name:Str} {v:Value}
end
def El.some_of{v:V}{o:Option Value}(r:El (some v) o):∃u,o=some u/\RelV v u:=by
 cases o with
 |none=>exact(show False from r).elim
 |some u=>exact⟨u,rfl,r⟩
section
variable {P:Program} {w:World} {H H':Hp} {h h':Heap} {a C dx:Addr} {fs fs':List (Str×V)}
end
section
variable {X:Cx} {pins:B'} {σ:St} {H:Hp} {s:Shared} {a C dx:Addr} {fs:List (Str×V)} {f:Str} {v:V} {A:Around} {E:D'}
end
section
variable {X:Cx} {o e d:Expr} {f:Str} {L t j:Pos} {ta J:TE}
end
section
variable {X:Cx} {pins:B'} {σ:St} {H:Hp} {s:Shared} {A:Around} {E:D'} {Q:D'} {c:Value} {b:Bool}
end
structure B2 (k:Nat) (A:Around):Prop where
 hd:A.handled=none
 dp:A.depth+3*k+5<recursionLimit
 un:A.units+16*k+200<cLine
def B2.mono{j k:Nat}(r:B2 k A)(h:j<=k):B2 j A:=⟨r.hd,by have:=r.dp;lia,by have:=r.un;lia⟩
def B2.deeper{k:Nat}{A:Around}(r:B2 (k+1) A)(env:Env):B2 k (A.deeper env):=
 ⟨r.hd,by have:=r.dp;show A.depth+1+3*k+5<_;lia,by have:=r.un;show A.units+3+16*k+200<_;lia⟩
def B2.depth{k:Nat}{A:Around}(r:B2 k A):A.depth<recursionLimit:=by have:=r.dp;lia
def B2.units{k:Nat}{A:Around}(r:B2 k A):A.units+64<cLine:=by have:=r.un;lia
def Md:TA:=λζ H Q=>Q [] H
def Qv (ta:TE) (tr:TA):TA:=λσ H Q=>ta σ H λx Y=>tr σ Y λxs H2=>Q (x::xs) H2
section
variable {X:Cx} {e:Expr} {es:List Expr} {te:TE} {t:TA} {L:Pos}
def Af:PA X [] Md:=λζ ζ ζ ζ H Q I h=>Calls.spliced_nil ⟨[],H,I,.nil,h⟩
def Ab(a:PE X e te)(b:PA X es t)(c:starEach (e::es) X.env=(false,eval e X.env)::starEach es X.env:=by rfl):PA X (e::es) (Qv te t):=by
 intro L pins s σ H Q I h;rw[c];show wpAny _ _ (spliced ((false,eval e X.env)::backTo L (starEach es X.env))) _ _ s;refine Calls.spliced_cons (AV (a pins s σ H _ I h) λu d⟨x,Y,f,g,i⟩=>?_);exact AV (b L pins d σ Y _ f i) λo p⟨j,k,l,m,n⟩=>⟨x::j,k,l,.cons g m,n⟩
def Td (t:TA):TE:=λσ H Q=>t σ H λxs Y=>xs.length<=sizeLine/\∀p,Y p=none->Q (.ref p) (upd Y p (.tup xs))
def Tf (t:TA):TE:=λσ H Q=>t σ H λxs Y=>xs.length<=sizeLine/\∀p,Y p=none->Q (.ref p) (upd Y p (.lst xs))
def BE{d}(h:PA X es t):PE X (.Tuple es d L) (Td t):=by
 intro pins s σ H Q I f;refine wpAny_Tuple_spliced (AV (h L pins s σ H _ I f) λg a⟨i,Y,c,r,z,q⟩=>⟨by rw[<-r.length];exact z,?_⟩);have j:Y a.heap.objs.size=none:=c.hok.fresh (AG _);refine⟨.ref a.heap.objs.size,upd Y a.heap.objs.size (.tup i),c.laid (t':=a.toks) (λb u e=>Bf _ e) (AG _) ?_,rfl,q _ j⟩;exact⟨z,g,r,⟨_,Cd _ rfl,rfl,_,rfl⟩⟩
def Cq(h:PA X es t):PE X (.List es L) (Tf t):=by
 intro pins s σ H Q I d;refine wpAny_List_spliced (AV (h L pins s σ H _ I d) λf a⟨g,Y,c,r,z,q⟩=>⟨by rw[<-r.length];exact z,?_⟩);have i:Y a.heap.objs.size=none:=c.hok.fresh (AG _);refine⟨.ref a.heap.objs.size,upd Y a.heap.objs.size (.lst g),c.laid (t':=a.toks) (λb u e=>Bf _ e) (AG _) ?_,rfl,q _ i⟩;exact⟨z,f,0,r,Cd _ rfl⟩
end
abbrev Sp:=List V->Hp->VK->XK->Prop
abbrev HC:=List Env->Hp->Shared->XK->Value->Shared->Prop
structure Jx (P:Program) (w:World) (K:Ah) (mg:Str->Option Value) (base:Heap) (A:Around) (outer:List Env) (s:Shared) (H:Hp):Prop where
 frames:A.frames=some outer
 mod:Mod K mg base
 bs:∀b o,base.get? b=some o->s.heap.get? b=some o/\H b=none
 bsz:base.objs.size<=s.heap.objs.size
 funs:s.heap.FunFrames base outer
 frf:∀b∈E9 outer,H b=none
 hok:C7 P w H s.heap
 bare:AllBare s.gens
def CE (outer:List Env) (P:Program) (w:World) (H:Hp) (s:Shared) (Q:VK) (u:Value) (Z:Shared):Prop:=
 ∃v H',Z.os=s.os/\AllBare Z.gens/\Un (E9 outer) [] H H' s.heap Z.heap/\C7 P w H' Z.heap/\RelV v u/\Q v H'
def CR (CX:HC) (outer:List Env) (P:Program) (w:World) (H:Hp) (s:Shared) (Q:VK) (E:XK) (r:Result) (Z:Shared):Prop:=
 match r with
 |.ok (.ret u)=>CE outer P w H s Q u Z
 |.ok _=>False
 |.error e=>CX outer H s E e Z
structure EF (P:Program) (w:World) (K:Ah) (mg:Str->Option Value) (base:Heap) (CX:HC) (k:Nat) (f:Addr) (fd:FuncData) (ps:List Str) (sp:Sp):Prop where
 len:∀vs H Q E,sp vs H Q E->vs.length=ps.length
 run:∀(A:Around)(outer:List Env)(s:Shared)(H:Hp)(args:Args)(us:List Value)(vs:List V)(Q:VK)(E:XK),B2 k A->Jx P w K mg base A outer s H->BindsTo s fd args (ps.zip us)->At vs us->sp vs H Q E ->
  codeAny (model P w) A (.call (.ref f) args) (CR CX outer P w H s Q E) s
section
variable {X:Cx} {pins:B'} {σ:St} {H:Hp} {s Z:Shared}
def Inv.env0(I:Inv X pins σ H s):Jx X.prog X.w X.K X.mg X.base X.A X.stack s H:=
 ⟨I.ok.frames,I.ok.mod,I.bs,Ek I.ok.bsz I.sz,I.stack,I.stkFree,I.hok,I.bare⟩
def Inv.after{Q:VK}{u:Value}(I:Inv X pins σ H s)(h:CE X.stack X.prog X.w H s Q u Z):EP X pins σ Q u Z:=by
 obtain⟨v,a,c,j,un,f,r,q⟩:=h;obtain⟨e,g,d,t,i⟩:=Z;obtain rfl:i=s.os:=c;exact⟨v,a,I.call (h':=e) (g':=g) (d':=d) (t':=t) (ch:=[]) un f j (λb z=>absurd z (by simp)),r,q⟩
end
def HD (sp:Sp) (c:List V) (E:XK) (t:TA):TE:=λσ H Q=>t σ H λvs Y=>sp (vs++c) Y Q E
def Binds (K:Ah) (fd:FuncData) (ps:List Str) (ds:List Value):Prop:=
 ∀(s:Shared)(us:List Value),K.In s.heap->(us++ds).length=ps.length->BindsTo s fd ⟨us,[]⟩ (ps.zip (us++ds))
variable {ps:List Str}
def Binds.all{K:Ah}{a:FuncData}(h:∀us:List Value,us.length=ps.length->bindArgs a ⟨us,[]⟩=pure (ps.zip us)):Binds K a ps []:=λs us ζ b=>by
 rw[E7] at b ⊢;exact .of_eq (h us b)
def Tg (CX:HC) (X:Cx) (E:XK):Prop:=∀(pins:B')(σ:St)(H:Hp)(s:Shared)(e:Value)(Z:Shared),Inv X pins σ H s->CX X.stack H s E e Z->X.xe e Z
section
variable {X:Cx} {CX:HC} {k:Nat} {f C:Addr} {fd:FuncData} {ps:List Str} {sp:Sp} {c:List V} {ds:List Value} {E:XK} {x m:Str} {p L apos:Pos} {e o:Expr} {es:List Expr} {ta:TE} {t:TA}
def Me{Q:VK}{us:List Value}{vs:List V}(F:EF X.prog X.w X.K X.mg X.base CX k f fd ps sp)(d:B2 k X.A)(g:Binds X.K fd ps ds)(hd:At c ds)(i:Tg CX X E)
 (I:Inv X pins σ H s) (r:At vs us) (h:sp (vs++c) H Q E):wpAny (model X.prog X.w) X.A (call (.ref f) us) (EP X pins σ Q) X.xe s:=by
 have b:At (vs++c) (us++ds):=r.append hd;have j:(us++ds).length=ps.length:=by rw[<-b.length];exact F.len _ _ _ _ h
 refine wpAny_call (codeAny_mono (F.run X.A X.stack s H ⟨us,[]⟩ (us++ds) (vs++c) Q E d I.env0 (g s us I.kIn j) b h) λr Z a=>?_)
 cases r with
 |error e=>exact i pins σ H s e Z I a
 |ok l =>
   cases l with
   |ret u=>exact I.after a
   |next=>exact False.elim a
   |brk=>exact False.elim a
   |cont=>exact False.elim a
def Jy(F:EF X.prog X.w X.K X.mg X.base CX k f fd ps sp)(b:B2 k X.A)(d:Gl X x)(g:X.mg x=some (.ref f))(i:PySem.W.keepIn X.K (.ref f)=true)(j:Binds X.K fd ps ds)(hd:At c ds)(l:Tg CX X E)
 (m:PA X (e::es) t) (o:(x==("__debug__" : Str))=false:=by decide) (n:starEach (e::es) X.env=(false,eval e X.env)::starEach es X.env:=by rfl) (u:(backTo L (starEach es X.env)).any (·.1)=false:=by rfl) :
 PE X (.Call (.Name x p) (e::es) [] L) (HD sp c E t):=by
 intro pins s σ H Q I h;refine wpAny_Call_Name_kw (V3 I d g ?_ o);refine PySem.W.callWith_K (h₀:=X.base) I.ok.mod.kin i (AV (m L pins s σ H _ I h) λv w⟨y,Y,a,r,q⟩=>⟨a.kIn,?_⟩) n u;exact Me F b j hd l a r q
end
section
variable {X:Cx} {CX:HC} {k:Nat} {f C:Addr} {fd:FuncData} {ps ks:List Str} {sp:Sp} {E:XK} {x m:Str} {p L apos kpos:Pos} {e o:Expr} {es:List Expr} {kws:List Keyword} {te ta:TE} {t tk:TA} {nm:Option Str}
variable {g:List Value->List Value->List Value} {gV:List V->List V->List V}
end
structure Ag (N P:List Str) (sc:Scope):Prop where
 kind:sc.kind=.function
 co:sc.isCoroutine=false
 gen:sc.isGenerator=false
 nd:N.Nodup
 pre:N.take P.length=P
 par:∀x∈P,sc.names.lookup x=some .local\/sc.names.lookup x=some .cell
 nofree:∀y∈sc.names,y.2≠.free
theorem Wh{kindOf:Str->Option NameKind}{x:Str}:∀{binds:List (Str×Value)}{m:Str->Option Value},(∀v,(x,v)∉binds)->bindL kindOf binds m x=m x
 |[],_,_=>rfl
 |(n,v)::r,m,h=>by
   unfold bindL;rw[Wh λw a=>h w (B6 _ a)];split;have:x≠n:=by rintro rfl;exact h v Bn
   simp[this];rfl
theorem Wi{kindOf:Str->Option NameKind}{x:Str}:∀{binds:List (Str×Value)}{m:Str->Option Value},(∀v,(x,v)∉binds)->bindC kindOf binds m x=m x
 |[],_,_=>rfl
 |(n,v)::r,m,h=>by
   unfold bindC;rw[Wi λw a=>h w (B6 _ a)];split;rfl;have:x≠n:=by rintro rfl;exact h v Bn
   simp[this]
theorem Wj{kindOf:Str->Option NameKind}{x:Str}{v:Value}:∀{P:List Str}{vs:List Value}{i:Nat}{m:Str->Option Value},P.Nodup->P[i]?=some x->vs[i]?=some v->kindOf x=some .local ->
 bindL kindOf (P.zip vs) m x=some v
 |[],_,_,_,_,h,_,_=>by simp at h
 |_::_,[],_,_,_,_,h,_=>by simp at h
 |p::P,w::vs,0,m,c,a,b,d=>by
   simp at a b;subst a;subst b;show bindL kindOf ((p,w)::P.zip vs) m p=_;unfold bindL;rw[Wh λv hv=>(Gd.mp c).1 (List.of_mem_zip hv).1,Al d]
   simp
 |p::P,w::vs,i+1,m,c,a,b,d=>by
   show bindL kindOf ((p,w)::P.zip vs) m x=_;unfold bindL;exact Wj (i:=i) (Gd.mp c).2 (by simpa using a) (by simpa using b) d
theorem Wk{kindOf:Str->Option NameKind}{x:Str}{v:Value}:∀{P:List Str}{vs:List Value}{i:Nat}{m:Str->Option Value},P.Nodup->P[i]?=some x->vs[i]?=some v->kindOf x≠some .local ->
 bindC kindOf (P.zip vs) m x=some v
 |[],_,_,_,_,h,_,_=>by simp at h
 |_::_,[],_,_,_,_,h,_=>by simp at h
 |p::P,w::vs,0,m,c,a,b,d=>by
   simp at a b;subst a;subst b;show bindC kindOf ((p,w)::P.zip vs) m p=_;unfold bindC;rw[Wi λv hv=>(Gd.mp c).1 (List.of_mem_zip hv).1,An d]
   simp
 |p::P,w::vs,i+1,m,c,a,b,d=>by
   show bindC kindOf ((p,w)::P.zip vs) m x=_;unfold bindC;exact Wk (i:=i) (Gd.mp c).2 (by simpa using a) (by simpa using b) d
def start (N:List Str) (vs:List V):St:=vs.map some++List.replicate (N.length-vs.length) none
def AF (CX:HC) (P:Program) (w:World) (K:Ah) (mg:Str->Option Value) (base:Heap) (N:List Str) (qual:Str) (scope:Scope) (f:Addr) (cd:Value) (A:Around) (outer:List Env) (s:Shared) (H:Hp) (E:XK):Cx where
 prog:=P
 w:=w
 K:=K
 mg:=mg
 base:=base
 A:=A.deeper (envOfC qual scope s.heap.objs.size f cd)
 N:=N
 s₀:=s
 H₀:=H
 env:=envOfC qual scope s.heap.objs.size f cd
 outer:=outer
 stack:=envOfC qual scope s.heap.objs.size f cd::outer
 ex:=[]
 calm:=true
 fn:=λζ=>true
 pn:=[]
 xe:=λe Z=>wpAny (model P w) (A.deeper (envOfC qual scope s.heap.objs.size f cd)) (leaving (envOfC qual scope s.heap.objs.size f cd) e) (λζ s''=>CX outer H s E e s'') (λe' s''=>CX outer H s E e' s'') Z
def Wl{a:Scope}{n:Nat}{x:Str}(h:a.names.lookup x=some .cell):∃c,(cellsFrom n a.names []).lookup x=some c:=by
 have q:=PySem.W.cellsFrom_some a.names n [] (.inl h);exact Option.isSome_iff_exists.mp q
def ZA{CX:HC}{K:Ah}{C:Str->Option Value}{F:Heap}{N:List Str}{B:Str}{scope:Scope}{f:Addr}{m:Value}{G:List Env}{I:Shared}{E:XK}{us:List Value}{vs:List V}
 (S:Ag N ps scope) (hd:A.handled=none) (g:Jx P w K C F A G s H) (R:vs.length=ps.length) (r:At vs us)
 (x:InCallC s s.heap.objs.size (bindL (envOfC B scope s.heap.objs.size f m).kindOf (ps.zip us) λζ=>none) (cellsFrom (s.heap.objs.size+1) scope.names []) (bindC (envOfC B scope s.heap.objs.size f m).kindOf (ps.zip us) λζ=>none) I) :
 Inv (AF CX P w K C F N B scope f m A G s H E) [] (start N vs) H I:=by
 have U:ps.length<=N.length:=by have:=Bq List.length S.pre;rw[FP] at this;lia
 obtain⟨o,tk,rfl,J⟩:=x.done;have D:∀b:Addr,b∉(AF CX P w K C F N B scope f m A G s H E).ex:=λb z=>absurd (show b∈([]:List Addr) from z) (by simp)
 refine⟨⟨g.mod,S.kind,rfl,rfl,AG _,λy z c o d=>?_,λy j=>?_,λy c ζ h=>?_,λζ=>hd,Around.frames_deeper g.frames,.inr ⟨rfl,rfl⟩,λb z=>absurd z (D b),g.bs,g.bsz,λb ζ ζ=>D b,λb z=>absurd z (D b),g.funs,g.frf⟩,
  rfl,g.bare,Un.kept J,⟨_,x.toInCall.ns,λi y v o d T=>?_⟩,λy c h=>⟨_,x.cell y c h⟩,g.hok.fresh (AG _),λy c h=>?_,λp l=>absurd (show p∈([]:B') from l) (by simp),g.hok.kept J,?_⟩
 exact name_of_addr x.apart (Gq o) (Gq d);have j:scope.names.lookup y=some .cell\/scope.names.lookup y=some .free:=j;rcases j with j|j;exact Wl j;exact absurd rfl (S.nofree _ (Gq j));exact CI (x.above y c (Gq h))
 have t:i<vs.length:=by
  unfold start at d;by_cases t:i<vs.length;exact t;rw[ED (by simpa using t)] at d;rw[List.getElem?_replicate] at d;split at d<;>cases d
 have O:vs[i]?=some v:=by
  unfold start at d;rw[Ei (by simpa using t),A8] at d
  cases e:vs[i]? with
  |none=>rw[e] at d;cases d
  |some a=>rw[e] at d;cases d;rfl
 obtain⟨u,L,Q⟩:=r.get O
 have l:ps[i]?=some y:=by
  rw[<-S.pre,List.getElem?_take_of_lt (by lia)];exact o
 have M:ps.Nodup:=by rw[<-S.pre];exact S.nd.sublist (List.take_sublist _ _)
 refine⟨u,Q,?_⟩;rcases S.par y (A9 l) with k|k;exact .inl ⟨k,Wj M l L k⟩;obtain⟨c,e⟩:=Wl (n:=s.heap.objs.size+1) k;refine .inr ⟨.inl k,c,e,?_⟩;have q:=x.cell y c e;rw[Wk M l L (by show scope.names.lookup y≠_;rw[k];decide)] at q;exact q;exact g.hok.fresh (CI (x.above y c (Gq h)));unfold start;show _=N.length;rw[AS,Ak,List.length_replicate];lia
def OK{CX:HC}{K:Ah}{i:Str->Option Value}{j:Heap}{k:Nat}{f:Addr}{name c:Str}{M:Arguments}{body:List Stmt}{scope:Scope}{p kV F z a ct O:Value}{B R:Option Addr}
 {aa:Array (Option Value)} {N:List Str} {sp:Sp} (T:K.lookup f=some ⟨O,R,.func (PySem.W.fnOf name c M body scope p kV F z B a ct),aa⟩) (ab:PySem.W.codeIn K a c=true) (S:Ag N ps scope)
 (len:∀vs H Q E,sp vs H Q E->vs.length=ps.length)
 (af:∀(A:Around)(g:List Env)(s:Shared)(H:Hp)(vs:List V)(Q:VK)(E:XK),B2 k (A.deeper (envOfC c scope s.heap.objs.size f a))->sp vs H Q E ->
  ∃t,Gu (AF CX P w K i j N c scope f a A g s H E) body t/\t {nx:=λζ H'=>Q .non H',rt:=Q} (start N vs) H) :
 EF P w K i j CX (k+1) f (PySem.W.fnOf name c M body scope p kV F z B a ct) ps sp:=by
 refine⟨len,λA g s H ai U vs Q E l h W r G=>?_⟩;have X:=len _ _ _ _ G;have C:K.In s.heap:=h.mod.kin.keeps λb o e=>(h.bs b o e).1;have ae:s.heap.NoLimit:=h.mod.nolimit.keeps λb o e=>(h.bs b o e).1
 have ag:∀y∈ps.zip U,scope.names.lookup y.1=some .local\/(scope.names.lookup y.1=some .cell/\((cellsFrom (s.heap.objs.size+1) scope.names []).lookup y.1).isSome=true):=λ⟨n,v⟩Y=>by
  rcases S.par n (List.of_mem_zip Y).1 with q|q;exact .inl q;exact .inr ⟨q,PySem.W.cellsFrom_some _ _ _ (.inl q)⟩
 refine codeAny_call_function l.depth (C _ _ T) rfl S.co S.gen rfl (PySem.W.codeRec_of C ab) (W _ _ _ _ ?_);refine wpAny_newFunctionEnv_cells S.kind ag λah he D x=>?_;subst he;refine⟨ae.keeps x.toInCall.keep,codeAny_func ?_⟩;obtain⟨t,ht,hq⟩:=af A g s H vs Q E (l.deeper _) G;have I:Inv (AF CX P w K i j N c scope f a A g s H E) [] (start N vs) H D:=ZA S l.hd h X r x;refine FY (ht [] D (start N vs) H _ I hq) (λfl Z d=>?_) λe Z d=>d
 have L:∀{σ':St}{H':Hp}{v:V}{u:Value},Inv (AF CX P w K i j N c scope f a A g s H E) [] σ' H' Z->RelV v u->Q v H'->CE g P w H s Q u Z:=
  λ{σ' H' v u}J m q=>⟨v,H',J.os,J.bare,J.base,J.hok,m,q⟩
 cases fl with
 |ret u =>
   obtain⟨v,σ',H',J,m,q⟩:=d;exact L J m q
 |next =>
   obtain⟨σ',H',J,q⟩:=d;exact L (v:=V.non) (u:=Value.none) J rfl q
 |brk =>
   obtain⟨_,_,_,q⟩:=d;exact False.elim q
 |cont =>
   obtain⟨_,_,_,q⟩:=d;exact False.elim q
section
variable {X:Cx} {x:Str} {p L:Pos} {e:Expr} {es:List Expr} {t:TA} {id T:String} {r:List V->Hp->VK->Prop}
def Ti (r:List V->Hp->VK->Prop) (t:TA):TE:=λσ H Q=>t σ H λvs Y=>r vs Y Q
def BA(a:A6 X (.builtin id) r)(b:X.mg x=none)(c:PA X (e::es) t)(d:Gl X x:=by rfl)(hv:bootBuiltins x=some (.builtin id):=by decide +kernel)(f:x ≠ "__name__" :=by decide)(o:(x==("__debug__" : Str))=false:=by decide)
 (g:starEach (e::es) X.env=(false,eval e X.env)::starEach es X.env:=by rfl) (q:(backTo L (starEach es X.env)).any (·.1)=false:=by rfl):PE X (.Call (.Name x p) (e::es) [] L) (Ti r t):=by
 intro pins s σ H Q I h;refine wpAny_Call_Name_kw (K2 I d b hv ?_ f o);exact PyProof.Rows.callWith_builtin1 (AV (c L pins s σ H _ I h) λi j⟨k,Y,l,m,n⟩=>a pins j σ Y k i Q l m n) g q
def GZ(a:A6 X (.type T) r)(b:X.mg x=none)(c:PA X (e::es) t)(d:Gl X x:=by rfl)(hv:bootBuiltins x=some (.type T):=by decide +kernel)(f:x ≠ "__name__" :=by decide)(o:(x==("__debug__" : Str))=false:=by decide)
 (g:starEach (e::es) X.env=(false,eval e X.env)::starEach es X.env:=by rfl) (q:(backTo L (starEach es X.env)).any (·.1)=false:=by rfl):PE X (.Call (.Name x p) (e::es) [] L) (Ti r t):=by
 intro pins s σ H Q I h;refine wpAny_Call_Name_kw (K2 I d b hv ?_ f o);exact PyProof.Rows.callWith_type1 (AV (c L pins s σ H _ I h) λi j⟨k,Y,l,m,n⟩=>a pins j σ Y k i Q l m n) g q
end
end L2
namespace HT
open PySem PyProof.Rows
section
open PySem.SeqAt
open PySem.AutoSeq1 (wpAny_loadPart')
open PySem.MeetsSeq PySem.MeetsSeq2 PySem.MeetsSeq3
end
section
variable {prog:Program} {w:World} {A:Around} {E:D'} {s:Shared}
def sIx (n d:Nat):Option Int->Nat
 |none=>d
 |some v=>if v<0 then(v+(n:Int)).toNat else min v.toNat n
def sIx_none(n d:Nat):sIx n d none=d:=rfl
def sIx_nat(n d k:Nat):sIx n d (some (k:Int))=min k n:=by
 show(if(k:Int)<0 then((k:Int)+(n:Int)).toNat else min (k:Int).toNat n)=min k n;rw[An (by lia),Bo]
end
end HT
namespace L2
open PySem PySem.Spec PyProof.Rows
abbrev TO:=St->Hp->(Option Int->Hp->Prop)->Prop
def PO (X:Cx) (e:Option Expr) (t:TO):Prop:=
 ∀(pins:B')(s:Shared)(σ:St)(H:Hp)(Q:Option Int->Hp->Prop),Inv X pins σ H s->t σ H Q ->
  wpAny (model X.prog X.w) X.A (evalPart e X.env) (λu Z=>∃o H',Inv X pins σ H' Z/\IsPart u o/\Q o H') X.xe s
def Jz:TO:=λζ H Q=>Q none H
def OL (t:TE):TO:=λσ H Q=>t σ H λx Y=>∃i,x=.int i/\Q (some i) Y
def Wm{ns:List Int}:∀{us:List Value},At (ns.map V.int) us->IntsAre us ns:=by
 induction ns with
 |nil=>intro us r;rw[Om] at r;cases r;exact .nil
 |cons n ns a =>
   intro us r;rw[Eh] at r
   cases r with
   |cons b c =>
     obtain⟨t,e⟩:=b;subst e;exact .cons n t (a c)
section
variable {X:Cx} {e:Expr} {te:TE} {lo hi:Option Expr} {tl th:TO} {L J:Pos}
def Qw:PO X none Jz:=by
 intro a s σ H Q I h;rw[evalPart_none];exact Aw ⟨none,H,I,.none,h⟩
def NR(h:PE X e te):PO X (some e) (OL te):=by
 intro f s σ H Q I a;rw[evalPart_some];refine AV (h f s σ H _ I a) λu g⟨x,Y,b,c,d⟩=>?_;obtain⟨i,rfl,q⟩:=d;obtain⟨t,rfl⟩:=c;exact⟨some i,Y,b,.int i t,q⟩
def Tj (X:Cx) (r:V->Option Int->Option Int->Hp->VK->Prop):Prop:=
 ∀(pins:B')(s:Shared)(σ:St)(H:Hp)(x:V)(v vl vu:Value)(lo hi:Option Int)(sl:Addr)(Q:VK),Inv X pins σ H s->RelV x v->s.heap.IsSliceOf sl vl vu .none->IsPart vl lo->IsPart vu hi->r x lo hi H Q ->
  ∃T id,typeLookup (.type T) "__getitem__" = pure (some (.builtin id))/\s.TypeIs v T/\wpAny (model X.prog X.w) X.A (getItem v (.ref sl)) (EP X pins σ Q) X.xe s
def ZB (r:V->Option Int->Option Int->Hp->VK->Prop) (te:TE) (tl th:TO):TE:=λσ H Q=>te σ H λx Y=>tl σ Y λl H2=>th σ H2 λu H3=>r x l u H3 Q
def OM{r:V->Option Int->Option Int->Hp->VK->Prop}(i:Tj X r)(j:PE X e te)(k:PO X lo tl)(m:PO X hi th):PE X (.Subscript e (.Slice lo hi none J) L) (ZB r te tl th):=by
 intro c s σ H Q I h;refine Subscript_ (AV (j c s σ H _ I h) λv n⟨x,Y,o,p,t⟩=>?_);refine wpAny_Slice (AV (k c n σ Y _ o t) λd w⟨l,y,z,A,B⟩=>AV (m c w σ y _ z B) λf a⟨u,g,C,D,E⟩=>?_);rw[evalPart_none];refine Aw ?_;have F:Inv X c σ g {a with heap:=a.heap.push {cls:=.type "slice",data:=.fields #[d,f,.none]}}:=C.kept (t':=a.toks) λb N q=>Bf _ q;obtain⟨T,id,G,K,M⟩:=i c {a with heap:=a.heap.push {cls:=.type "slice",data:=.fields #[d,f,.none]}} σ g x v d f l u a.heap.objs.size Q F p (Heap.IsSliceOf.new ..) A D E;show wpAny (model X.prog X.w) X.A (subscriptTail e (.Slice lo hi none J) v (.ref a.heap.objs.size)) (EP X c σ Q) X.xe {a with heap:=a.heap.push {cls:=.type "slice",data:=.fields #[d,f,.none]}};exact tail_any (ops:=[.ref a.heap.objs.size,v]) K G M (by with_unfolding_all rfl)
def Em (xs:List V) (lo hi:Option Int):List V:=(xs.drop (HT.sIx xs.length 0 lo)).take (HT.sIx xs.length xs.length hi-HT.sIx xs.length 0 lo)
def ZC(xs:List V)(lo hi:Option Int):(Em xs lo hi).length<=xs.length:=by
 unfold Em;rw[FP,Gp];lia
end
def Hd (n:Nat) (i:Int):Option Nat:=if 0<=i then(if i<n then some i.toNat else none) else if -(n:Int)<=i then some (i+n).toNat else none
def Bl {α:Type} (xs:List α) (i:Int):Option α:=(Hd xs.length i).bind λj=>xs[j]?
variable {n:Nat}
def Wn{i:Int}{j:Nat}(h:Hd n i=some j):seqIndex? i n=some j/\j<n/\-(n:Int)<=i/\i<n:=by
 unfold Hd at h;by_cases b:0<=i;rw[Al b] at h;by_cases a:i<n;rw[Al a] at h;have e:i.toNat=j:=Bz h;exact⟨by rw[seqIndex_of b a,e],by lia,by lia,a⟩;rw[An a] at h;cases h;rw[An b] at h;by_cases a:-(n:Int)<=i;rw[Al a] at h;have e:(i+n).toNat=j:=Bz h;exact⟨by rw[seqIndex_neg (by lia) a,e],by lia,a,by lia⟩;rw[An a] at h;cases h
def Tl{α:Type}{xs:List α}{i:Int}{v:α}(h:Bl xs i=some v):∃j,seqIndex? i xs.length=some j/\xs[j]?=some v/\j<xs.length/\-(xs.length:Int)<=i/\i<xs.length:=by
 unfold Bl at h
 cases e:Hd xs.length i with
 |none=>rw[e] at h;cases h
 |some j =>
   rw[e] at h;obtain⟨a,b,c,d⟩:=Wn e;exact⟨j,a,h,b,c,d⟩
def BQ{α:Type}{xs:List α}{j:Nat}{v:α}(h:xs[j]?=some v):Bl xs (j:Int)=some v:=by
 have a:j<xs.length:=(AY.mp h).1
 have e:Hd xs.length (j:Int)=some j:=by
  unfold Hd;rw[Al (by lia),Al (by lia)];simp
 unfold Bl;rw[e];exact h
def JA (b:Expr):Prop:=∀o i,subscripted b false o i=operate [o,i] (getItem o i)
def I0 (X:Cx) (r:R2):Prop:=
 ∀(d slice:Expr)(pins:B')(s:Shared)(σ:St)(H:Hp)(x y:V)(v u:Value)(Q:VK),Inv X pins σ H s->RelV x v->RelV y u->r x y H Q ->
  subscripted slice false v u=operate [v,u] (getItem v u)->wpAny (model X.prog X.w) X.A (subscriptTail d slice v u) (EP X pins σ Q) X.xe s
def K8 (X:Cx) (id:String) (r:V->List V->Hp->VK->Prop):Prop:=
 ∀(pins:B')(s:Shared)(σ:St)(H:Hp)(x:V)(xs:List V)(v:Value)(us:List Value)(Q:VK),Inv X pins σ H s->RelV x v->At xs us->r x xs H Q ->
  wpAny (model X.prog X.w) X.A (call (.builtin id) (v::us)) (EP X pins σ Q) X.xe s
section
variable {X:Cx} {a b:Expr} {ta tb:TE} {L:Pos}
def I0.or{r a:R2}(h:I0 X r)(h':I0 X a):I0 X (λx y H Q=>r x y H Q\/a x y H Q):=by
 intro d slice f s σ H x y v u Q I b c q e;rcases q with q|q;exact h d slice f s σ H x y v u Q I b c q e;exact h' d slice f s σ H x y v u Q I b c q e
def Ax{r:R2}(c:I0 X r)(d:PE X a ta)(e:PE X b tb)(f:JA b:=by exact λζ ζ=>rfl):PE X (.Subscript a b L) (IX r ta tb):=by
 intro m s σ H Q I h;exact Subscript_ (L4 d e I h λv u g x y i j k l q=>c a b m g σ i x y v u Q j k l q (f _ _))
def ON (K:Ah):R2:=λx y H Q=>mX x y λp xs i v=>Ae K H p xs/\Bl xs i=some v/\Q v H
def OO (K:Ah):R2:=λx y H Q=>mX x y λp xs i v=>Ar K H p xs/\Bl xs i=some v/\Q v H
def OP:R2:=λx y H Q=>∃z i c,x=.str z/\y=.int i/\z.length<=sizeLine/\Bl z.cps.toList i=some c/\Q (.str ⟨#[c]⟩) H
def JB:I0 X (ON X.K):=by
 intro d slice l s σ H x y v u Q I m n h e
 replace h:=mX.ex h
 obtain⟨p,J,i,z,rfl,rfl,o,A,q⟩:=h;cases m;obtain⟨t,rfl⟩:=n;obtain⟨F,r,b,K⟩:=I.list o;obtain⟨j,a,B,L,C,D⟩:=Tl A;obtain⟨w,f,G⟩:=r.get B;have E:=r.length;have M:=Mb;have k:EP X l σ Q w s:=⟨z,H,I,G,q⟩;by_cases g:0<=i
 have c:i.toNat=j:=by
  rw[seqIndex_of g D] at a;exact Bz a
 exact item_listR b.isList g (by lia) (by rw[c];simpa using f) k e
 have c:(i+(F.toArray.size:Int)).toNat=j:=by
  rw[seqIndex_neg (by lia) C] at a;rw[Ce,<-E];exact Bz a
 exact subscriptTail_builtinR (x:=w) b.isList.typeIs slot_list_getitem.lookup
  (wpAny_getItem_list_neg (Q:=λr Z=>r=w/\EP X l σ Q r Z) b.isList (by lia) (by rw[Ce]<;>lia) (by lia) (by rw[c];simpa using f) ⟨rfl,k⟩) e
def Mf:I0 X (OO X.K):=by
 intro d slice b s σ H x y v u Q I c e h f
 replace h:=mX.ex h
 obtain⟨p,C,i,z,rfl,rfl,g,k,q⟩:=h;cases c;obtain⟨t,rfl⟩:=e;obtain⟨K,r,a,D⟩:=I.tuple g;obtain⟨j,l,m,E,F,G⟩:=Tl k;obtain⟨w,n,A⟩:=r.get m;have o:=r.length;have J:=Mb;have B:EP X b σ Q w s:=⟨z,H,I,A,q⟩
 exact subscriptTail_builtinR (x:=w) a.typeIs slot_tuple_getitem.lookup
  (getItem_tuple (j:=j) (Q:=λr Z=>r=w/\EP X b σ Q r Z) a (by lia) (by lia) (by rw[Ce,<-o];exact l) (by simpa using n) ⟨rfl,B⟩) f
def Mg:I0 X OP:=by
 intro d slice C s σ H x y v u Q I b e h f;obtain⟨z,i,c,rfl,rfl,r,g,q⟩:=h;obtain⟨t,rfl⟩:=b;obtain⟨w,rfl⟩:=e;obtain⟨j,a,k,A,l,m⟩:=Tl g;have n:z.cps.toList.length=z.length:=(by simp[Str.length]);rw[n] at a l m;have B:=Mb
 exact tail_any (typeIs_str s z t) slot_str_getitem.lookup (getItem_str (c:=c) (by
  have o:decide (i < -(2 ^ 63:Int))=false:=D1 (by lia);have p:decide (i ≥ 2 ^ 63)=false:=D1 (by lia)
  rw[o,p,Bool.or_false]) (by rw[a];simpa using k) ⟨.str ⟨#[c]⟩,H,I.tok _,⟨_,rfl⟩,q⟩) f
def OQ (K:Ah):R2:=λx y H Q=>ON K x y H Q\/OO K x y H Q\/OP x y H Q
def Ay:I0 X (OQ X.K):=JB.or (Mf.or Mg)
def ZD(a:List Value)(n j:Nat)(u:Value):Obj.mapSeq (·.setIfInBounds j u) {cls:=.type "list",data:=.seq a.toArray n}={cls:=.type "list",data:=.seq (a.set j u).toArray n}:=by
 simp[Obj.mapSeq]
def Inv.lst{pins:B'}{σ:St}{H:Hp}{s:Shared}{p:Addr}{xs:List V}(I:Inv X pins σ H s)(h:H p=some (.lst xs)) :
 ∃(a:List Value)(n:Nat),At xs a/\s.heap.get? p=some {cls:=.type "list",data:=.seq a.toArray n}/\xs.length<=sizeLine:=by
 obtain⟨z,a,n,r,e⟩:=I.hok p _ h;exact⟨a,n,r,e,z⟩
variable {s:Shared}
def Inv.lstUpd{pins:B'}{σ:St}{H:Hp}{p:Addr}{xs ys:List V}{d its':List Value}{a:Nat}{f:Obj->Obj}(I:Inv X pins σ H s)(h:H p=some (.lst xs))
 (g:s.heap.get? p=some {cls:=.type "list",data:=.seq d.toArray n}) (c:f {cls:=.type "list",data:=.seq d.toArray n}={cls:=.type "list",data:=.seq its'.toArray a}) (r:At ys its') (hz:ys.length<=sizeLine) (t:Nat) :
 Inv X pins σ (upd H p (.lst ys)) {s with heap:=s.heap.update p f,toks:=t}:=by
 have e:(s.heap.update p f).get? p=some {cls:=.type "list",data:=.seq its'.toArray a}:=by
  rw[Heap.get?_update_self f g (by rw[c]<;>rfl),c]
 refine I.write (x:=p) (e:=p) (by rw[h];trivial) (.inl rfl) (λb u i q=>(Heap.get?_update_other _ _ (Ne.symm i)).trans q) ⟨_,e⟩ ?_;exact⟨hz,its',a,r,e⟩
def OR:V->V->V->Hp->(Hp->Prop)->Prop:=λo i v H Q=>∃p xs k j,o=.ref p/\i=.int k/\H p=some (.lst xs)/\Hd xs.length k=some j/\Q (upd H p (.lst (xs.set j v)))
def To:Jt X OR:=by
 intro D s σ H o i v E F u Q I x y z h;obtain⟨p,A,k,j,rfl,rfl,e,B,q⟩:=h;cases x;obtain⟨t,rfl⟩:=y;obtain⟨w,n,r,b,C⟩:=I.lst e;obtain⟨a,G,f,g⟩:=Wn B;have c:=r.length;have J:=Mb
 have l:Inv X D σ (upd H p (.lst (A.set j v))) {s with heap:=s.heap.update p (Obj.mapSeq (·.setIfInBounds j u))}:=
  I.lstUpd e b (ZD w n j u) (r.set z j) (by rw[Ge];exact C) s.toks
 by_cases m:0<=k
 have d:k.toNat=j:=by
  rw[seqIndex_of m g] at a;exact Bz a
 exact PySem.W.ki_setAt b m (by lia) (by rw[Ce,<-c];exact g) (by rw[d];exact⟨_,l,q⟩)
 have d:(k+(w.toArray.size:Int)).toNat=j:=by
  rw[seqIndex_neg (by lia) f] at a;rw[Ce,<-c];exact Bz a
 exact PySem.W.ki_setBack b (by lia) (by rw[Ce,<-c];exact f) (by lia) (by rw[d];exact⟨_,l,q⟩)
def ZE(lo a:Option Int)(n:Nat):(sliceBounds lo a none n).1=((HT.sIx n 0 lo:Nat):Int)/\(sliceBounds lo a none n).2.1=((HT.sIx n n a:Nat):Int)/\(sliceBounds lo a none n).2.2=1:=by
 refine⟨?_,?_,rfl⟩
 cases lo with
 |none=>simp[sliceBounds,HT.sIx]
 |some i =>
   simp only[sliceBounds,HT.sIx,Option.getD_none,show(1:Int) > 0 by decide,if_true];by_cases h:i<0;simp only[h,if_true]<;>lia;simp only[h,if_false]<;>lia
 cases a with
 |none=>simp[sliceBounds,HT.sIx]
 |some i =>
   simp only[sliceBounds,HT.sIx,Option.getD_none,show(1:Int) > 0 by decide,if_true];by_cases h:i<0;simp only[h,if_true]<;>lia;simp only[h,if_false]<;>lia
def ZF(a:List Value)(lo b:Option Int):slicePick a.toArray lo b none=((a.drop (HT.sIx a.length 0 lo)).take (HT.sIx a.length a.length b-HT.sIx a.length 0 lo)).toArray:=by
 obtain⟨c,d,e⟩:=ZE lo b a.toArray.size;unfold slicePick;rw[c,d,e];simp only[sliceRange_one,pick_run,Ce]<;>rfl
def Tp (K:Ah):V->Option Int->Option Int->Hp->VK->Prop:=λx lo hi H Q=>∃a xs,x=.ref a/\Ae K H a xs/\∀p,H p=none->Q (.ref p) (upd H p (.lst (Em xs lo hi)))
def OS:Tj X (Tp X.K):=by
 intro z s σ H x v p t d e u Q I g i j k h;obtain⟨a,c,rfl,l,q⟩:=h;cases g;obtain⟨y,r,f,m⟩:=I.list l;have n:=r.length;refine⟨"list",_,slot_list_getitem.lookup,f.isList.typeIs,?_⟩;refine wpAny_getItem_list_slice f.isList i j k .none (by simp) ?_ (by rw[Ce]<;>lia);rw[ZF,<-n];refine⟨.ref s.heap.objs.size,_,I.laid (t':=s.toks) (o:=.lst (Em c d e)) (λb w q=>Bf _ q) (AG _) ?_,rfl,q _ (I.hok.fresh (AG _))⟩;exact⟨Ek (ZC c d e) m,_,0,(r.drop (HT.sIx c.length 0 d)).take (HT.sIx c.length c.length e-HT.sIx c.length 0 d),Cd _ rfl⟩
def JC:V->Bool
 |.non=>true
 |.bl _=>true
 |.int _=>true
 |.str _=>true
 |_=>false
def JD:V->V->Bool
 |.non,.non=>true
 |.bl a,.bl b=>a==b
 |.bl a,.int b=>(if a then 1 else 0)==b
 |.int a,.bl b=>a==(if b then 1 else 0)
 |.int a,.int b=>a==b
 |.str a,.str b=>a==b
 |_,_=>false
variable {x:V}
def Mh{A:Around}{y:V}{u v:Value}(e:RelV y u)(c:RelV x v)(g:JC y=true)(f:JC x=true):SeqAt.EqAt A s u v (JD y x):=by
 cases y with
 |non =>
   cases e
   cases x with
   |non=>cases c;exact SeqAt.EqAt.same _
   |bl b=>cases c;exact SeqAt.EqAt.none_bool b
   |int b=>obtain⟨t,rfl⟩:=c;exact SeqAt.EqAt.none_int b t
   |str b=>obtain⟨t,rfl⟩:=c;exact SeqAt.EqAt.none_str b t
   |_=>exact absurd (show false=true from f) Ct
 |bl a =>
   cases e
   cases x with
   |non=>cases c;exact SeqAt.EqAt.bool_none a
   |bl b=>cases c;exact SeqAt.EqAt.bool_bool a b
   |int b=>obtain⟨t,rfl⟩:=c;exact SeqAt.EqAt.bool_int a b t
   |str b=>obtain⟨t,rfl⟩:=c;exact SeqAt.EqAt.bool_str a b t
   |_=>exact absurd (show false=true from f) Ct
 |int a =>
   obtain⟨d,rfl⟩:=e
   cases x with
   |non=>cases c;exact SeqAt.EqAt.int_none a d
   |bl b=>cases c;exact SeqAt.EqAt.int_bool a d b
   |int b=>obtain⟨t,rfl⟩:=c;exact SeqAt.EqAt.int_int a d b t
   |str b=>obtain⟨t,rfl⟩:=c;exact SeqAt.EqAt.int_str a d b t
   |_=>exact absurd (show false=true from f) Ct
 |str a =>
   obtain⟨d,rfl⟩:=e
   cases x with
   |non=>cases c;exact SeqAt.EqAt.str_none a d
   |bl b=>cases c;exact SeqAt.EqAt.str_bool a d b
   |int b=>obtain⟨t,rfl⟩:=c;exact SeqAt.EqAt.str_int a d b t
   |str b=>obtain⟨t,rfl⟩:=c;exact SeqAt.EqAt.str_str a d b t
   |_=>exact absurd (show false=true from f) Ct
 |_=>exact absurd (show false=true from g) Ct
def JE (x:V) (u:Value):Bool:=match u with
 |.none=>JD .non x
 |.bool b=>JD (.bl b) x
 |.int i _=>JD (.int i) x
 |.str z _=>JD (.str z) x
 |_=>false
def HE{y:V}{u:Value}(r:RelV y u)(f:JC y=true):JE x u=JD y x:=by
 cases y with
 |non=>cases r;rfl
 |bl b=>cases r;rfl
 |int i=>obtain⟨t,rfl⟩:=r;rfl
 |str z=>obtain⟨t,rfl⟩:=r;rfl
 |_=>exact absurd (show false=true from f) Ct
theorem Tq{x:V}:∀{xs:List V}{us:List Value},At xs us->xs.all JC=true->us.any (JE x)=xs.any λy=>JD y x
 |_,_,.nil,_=>rfl
 |y::xs,u::us,.cons r t,f=>by
   rw[List.all_cons,Bool.and_eq_true] at f;rw[List.any_cons,List.any_cons,HE r f.1,Tq t f.2]
theorem Tr{A:Around}{s:Shared}{x:V}{v:Value}(b:RelV x v)(c:JC x=true):∀{xs:List V}{us:List Value},At xs us->xs.all JC=true->∀u∈us,SeqAt.EqAt A s u v (JE x u)
 |_,_,.nil,_=>λu a=>by cases a
 |y::xs,u::us,.cons r t,f=>λd a=>by
   rw[List.all_cons,Bool.and_eq_true] at f;rcases B5.mp a with rfl|a;rw[HE r f.1];exact Mh r b f.1 c;exact Tr b c t f.2 d a
def Qx (x:V) (xs:List V):Bool:=xs.any λy=>JD y x
def Wo (K:Ah) (neg:Bool):R2:=λx y H Q=>∃p xs,y=.ref p/\(Ae K H p xs\/Ar K H p xs)/\JC x=true/\xs.all JC=true/\Q (.bl (if neg then !Qx x xs else Qx x xs)) H
def ZG:Dv X (compareOp .In) (Wo X.K false):=by
 intro k s σ H x y v u Q I e g h;obtain⟨p,j,rfl,a,f,fs,q⟩:=h;cases g;rcases a with a|a;obtain⟨b,r,c,i⟩:=I.list a;refine SeqAt.in_listAt (JE x) c.isList (λw d=>Tr e f r fs w (by simpa using d)) ⟨.bl _,H,I,rfl,?_⟩;rw[show b.toArray.any (JE x)=b.any (JE x) by simp,Tq r fs];exact q;obtain⟨b,r,c,i⟩:=I.tuple a;refine SeqAt.in_tupleAt (JE x) c (λw d=>Tr e f r fs w (by simpa using d)) ⟨.bl _,H,I,rfl,?_⟩;rw[show b.toArray.any (JE x)=b.any (JE x) by simp,Tq r fs];exact q
def Qy:A6 X (.type "list") (λxs H Q=>∃p ys,xs=[.ref p]/\(Ae X.K H p ys\/Ar X.K H p ys)/\∀l,H l=none->Q (.ref l) (upd H l (.lst ys))):=by
 intro y s σ H xs A Q I r h;obtain⟨p,ys,rfl,g,q⟩:=h;obtain⟨u,rfl,x⟩:=Fa r;cases x
 have w:∀(c:List Value),At ys c->ys.length<=sizeLine->∀(a:Heap)(d:Nat),(∀b v,s.heap.get? b=some v->a.get? b=some v) ->
  a.get? s.heap.objs.size=some {cls:=.type "list",dict:=none,data:=.seq c.toArray d,slots:=#[]}->EP X y σ Q (.ref s.heap.objs.size) {s with heap:=a}:=λc f i a d j e =>
  ⟨.ref s.heap.objs.size,_,I.laid (t':=s.toks) j (AG _) (show AB X.prog X.w _ a _ (.lst ys) from⟨i,c,d,f,e⟩),rfl,q _ (I.hok.fresh (AG _))⟩
 rcases g with g|g;obtain⟨c,f,k,i⟩:=I.list g;have z:=f.length;obtain⟨o,m,t,n,hd⟩:=k.isList;exact call_list_seq p (.inl rfl) m t hd (λa d j e=>w c f i a d j e) (by simp only[Ce]<;>lia);obtain⟨c,f,k,i⟩:=I.tuple g;have z:=f.length;obtain⟨o,m,t,n,hd⟩:=k;exact call_list_seq p (.inr rfl) m t hd (λa d j e=>w c f i a d j e) (by simp only[Ce]<;>lia)
def ZH:A6 X (.type "tuple") (λxs H Q=>∃p ys,xs=[.ref p]/\((Ae X.K H p ys/\∀l,H l=none->Q (.ref l) (upd H l (.tup ys)))\/(Ar X.K H p ys/\Q (.ref p) H))):=by
 intro k s σ H xs v Q I r h;obtain⟨p,ys,rfl,h⟩:=h;obtain⟨u,rfl,m⟩:=Fa r;cases m;rcases h with⟨c,q⟩|⟨c,q⟩;obtain⟨g,d,f,i⟩:=I.list c;have w:=d.length;refine call_tuple_list f.isList (λa n=>?_) (by simp only[Ce]<;>lia);have j:Inv X k σ H {s with heap:=a}:=I.kept (t':=s.toks) n
 have t:Inv X k σ (upd H a.objs.size (.tup ys)) {s with heap:=a.push {cls:=.type "tuple",data:=.seq g.toArray}}:=
  j.laid (t':=s.toks) (λb o e=>Bf _ e) (AG _) (show AB X.prog X.w _ _ _ (.tup ys) from⟨i,g,d,IsTup.new _ _⟩)
 exact⟨.ref a.objs.size,_,t,rfl,q _ (j.hok.fresh (AG _))⟩;obtain⟨g,d,f,i⟩:=I.tuple c;exact call_tuple_same f ⟨.ref p,H,I,rfl,q⟩
def Ts (K:Ah) (T:String) (x:V) (H:Hp):Prop:=match x with
 |.str _=>T = "str"
 |.int _=>T = "int"
 |.ref p=>(T = "list" /\ ∃xs,Ae K H p xs)\/(T = "tuple" /\ ∃o,K.lookup p=some o/\o.cls=.type "tuple" /\ o.dict=none) \/
  (T = "dict" /\ ((∃kvs,H p=some (.dK kvs))\/∃kvs,H p=some (.dT kvs)))\/(T = "set" /\ ∃S n,H p=some (.set S n))
 |_=>False
def HF{pins:List (Addr × Obj)}{σ:St}{H:Hp}{T:String}{v:Value}(I:Inv X pins σ H s)(r:RelV x v)(ty:Ts X.K T x H) :
 s.TypeIs v T/\∀a,v=.ref a->∃ob,s.heap.get? a=some ob/\ob.dict=none:=by
 cases x with
 |str z =>
   obtain⟨t,rfl⟩:=r
   cases(show T = "str" from ty)
   exact⟨typeIs_str s z t,λζ e=>nomatch e⟩
 |int i =>
   obtain⟨t,rfl⟩:=r
   cases(show T = "int" from ty)
   exact⟨typeIs_int s i t,λζ e=>nomatch e⟩
 |ref p =>
   cases r;rcases ty with⟨rfl,k,g⟩|⟨rfl,o,b,h,hd⟩|⟨rfl,b⟩|⟨rfl,S,n,b⟩;obtain⟨l,_,f,_⟩:=I.list g;refine⟨f.isList.typeIs,λa e=>?_⟩;cases e;obtain⟨o,n,e,c,hd,_⟩:=f;exact⟨o,e,hd⟩;refine⟨⟨o,I.kIn p o b,h⟩,λa e=>?_⟩;cases e;exact⟨o,I.kIn _ o b,hd⟩
   have z:∃o,s.heap.get? p=some o/\o.ExactDict:=by
    rcases b with⟨j,b⟩|⟨j,b⟩;obtain⟨_,_,_,_,o,_,_,e,ex,_⟩:=I.hok p _ b;exact⟨o,e,ex⟩;obtain⟨_,_,_,_,o,_,_,e,ex,_⟩:=I.hok p _ b;exact⟨o,e,ex⟩
   obtain⟨o,e,ex⟩:=z;refine⟨⟨o,e,ex.1⟩,λa d=>?_⟩;cases d;exact⟨o,e,ex.2.1⟩;obtain⟨o,_,_,_,e,ex,_⟩:=I.hok p _ b;refine⟨⟨o,e,ex.1⟩,λa d=>?_⟩;cases d;exact⟨o,e,ex.2.1⟩
 |_=>exact False.elim ty
def Tt (K:Ah) (T:String) (r:V->List V->Hp->VK->Prop) (c:TE):TE:=λσ H Q=>c σ H λx Y=>Ts K T x Y/\r x [] Y Q
def ZI (K:Ah) (T:String) (r:V->List V->Hp->VK->Prop) (c:TE) (t:TA):TE:=λσ H Q=>c σ H λx Y=>Ts K T x Y/\t σ Y λxs H2=>r x xs H2 Q
variable {o e:Expr} {es:List Expr} {c:TE} {t:TA} {name:Str} {apos cpos:Pos} {T id:String} {r:V->List V->Hp->VK->Prop}
def Mi(e:PlainAttrs T)(n:Slot T name id)(m:typeOf (.builtin id)=pure (.type "method_descriptor"))(f:K8 X id r)(g:PE X o c)
 (p:attributeBase o name X.env (eval o X.env)=eval o X.env:=by rfl) (q:(apos.endLine==cpos.line)=true:=by rfl):PE X (.Call (.Attribute o name apos) [] [] cpos) (Tt X.K T r c):=by
 intro d s σ H Q I h;refine wpAny_Call_method0_late p q (AV (g d s σ H _ I h) λv i⟨x,Y,a,b,ty,j⟩=>?_);obtain⟨k,l⟩:=HF a b ty;exact⟨T,id,e,n,m,k,l,Calls.callWith_builtin rfl (PySem.evalArgs_none (f d i σ Y x [] v [] Q a b .nil j))⟩
def C3(g:PlainAttrs T)(E:Slot T name id)(D:typeOf (.builtin id)=pure (.type "method_descriptor"))(i:K8 X id r)(j:PE X o c)(k:PA X (e::es) t)
 (G:attributeBase o name X.env (eval o X.env)=eval o X.env:=by rfl)
 (F:((backTo cpos (starEach (e::es) X.env)).all (λx=>!x.1) && (backToKw cpos (keywordEach [] X.env)).all (λx=>x.1.isSome)
  && decide ((e::es).length+([]:List Keyword).length+(if([]:List Keyword).isEmpty then 0 else 1)<30))=true:=by rfl)
 (J:(apos.endLine==cpos.line)=true:=by rfl) (l:starEach (e::es) X.env=(false,eval e X.env)::starEach es X.env:=by rfl) (K:(backTo cpos (starEach es X.env)).any (·.1)=false:=by rfl) :
 PE X (.Call (.Attribute o name apos) (e::es) [] cpos) (ZI X.K T r c t):=by
 intro a s σ H Q I h;refine wpAny_Call_method_late G F J rfl (AV (j a s σ H _ I h) λv m⟨x,Y,b,d,ty,n⟩=>?_);obtain⟨p,q⟩:=HF b d ty;refine⟨T,id,g,E,D,p,q,?_⟩;have f:=k cpos a m σ Y _ b n;rw[l] at f ⊢;refine Calls.callWith_builtin (by show(false || (backTo cpos (starEach es X.env)).any (·.1))=false;rw[K]<;>rfl) (Calls.evalArgs_plain ?_);exact AV f λu w⟨y,z,A,B,C⟩=>i a w σ z x y v u Q A d B C
end
def Tu (X:Cx) (id:String) (r:V->List V->Hp->VK->Prop):Prop:=
 ∀(pins:B')(s:Shared)(σ:St)(H:Hp)(x:V)(xs:List V)(v:Value)(us:List Value)(Q:VK),Inv X pins σ H s->RelV x v->At xs us->r x xs H Q ->
  wpAny (model X.prog X.w) X.A (call (.builtin id) (v::us)) (EP X pins σ Q) X.xe s
theorem At.one:∀{x:V}{us:List Value},At [x] us->∃u,us=[u]/\RelV x u
 |_,_,.cons r .nil=>⟨_,rfl,r⟩
theorem At.zero:∀{us:List Value},At [] us->us=[]
 |_,.nil=>rfl
section
variable {X:Cx} {pins:B'} {σ:St} {H:Hp} {s:Shared} {l b:Addr} {xs ys zs:List V}
def Inv.lset{a its':List Value}{f:Array Value->Array Value}{t':Nat}(I:Inv X pins σ H s)(b:H l=some (.lst xs))
 (e:s.heap.get? l=some {cls:=.type "list",data:=.seq a.toArray n}) (c:f a.toArray=its'.toArray) (hv:At ys its') (hz:ys.length<=sizeLine) :
 Inv X pins σ (upd H l (.lst ys)) {s with heap:=s.heap.update l (Obj.mapSeq f),toks:=t'}:=by
 have q:=PySem.IsL.update e f;rw[c] at q;refine I.write (x:=l) (e:=l) (by rw[b];exact trivial) (.inl rfl) (λh u d g=>(Heap.get?_update_other s.heap (Obj.mapSeq f) (Ne.symm d)).trans g) ⟨_,q⟩ ?_;exact⟨hz,its',_,hv,q⟩
def Inv.lnew{a:List Value}{t':Nat}(I:Inv X pins σ H s)(hv:At ys a)(hz:ys.length<=sizeLine) :
 Inv X pins σ (upd H s.heap.objs.size (.lst ys)) {s with heap:=s.heap.push {cls:=.type "list",data:=.seq a.toArray},toks:=t'}:=
 I.laid (λζ ζ q=>Bf _ q) (AG _) ⟨hz,a,0,hv,Cd _ rfl⟩
def Inv.fresh(I:Inv X pins σ H s):H s.heap.objs.size=none:=I.hok.fresh (AG _)
def Inv.lstM(I:Inv X pins σ H s)(b:H l=some (.lst xs)):xs.length<=sizeLine/\∃(a:List Value)(n:Nat),At xs a/\xs.length=a.length/\s.heap.get? l=some {cls:=.type "list",data:=.seq a.toArray n}:=by
 obtain⟨z,a,n,r,e⟩:=I.hok l _ b;exact⟨z,a,n,r,r.length,e⟩
def ZJ(h:n<=sizeLine):Builtin.List.listTooLong n=false:=by
 unfold Builtin.List.listTooLong;exact D1 (by lia)
end
section
variable {X:Cx}
def Wp:V->List V->Hp->VK->Prop:=λx vs H Q=>mA x vs λl xs y=>H l=some (.lst xs)/\xs.length<sizeLine/\Q .non (upd H l (.lst (xs++[y])))
theorem Wq:Tu X "list.append" Wp:=by
 intro o s σ H x g v i Q I c d h
 replace h:=mA.ex h
 obtain⟨l,j,y,rfl,rfl,a,k,q⟩:=h;cases c;obtain⟨u,rfl,f⟩:=d.one;obtain⟨z,b,n,r,m,e⟩:=I.lstM a;refine call_meets F.slot_list_append ⟨_,e,rfl⟩ F.entry_list_append (F.args_list_append_2 _ _) (PySem.list_append l b.toArray n u (by rw[Ce];lia)) ⟨e,?_⟩;refine⟨.non,_,I.lset (its':=b++[u]) a e (by simp) (r.append (.cons f .nil)) ?_,rfl,q⟩;rw[AS,CZ];lia
def Wr:V->List V->Hp->VK->Prop:=λx vs H Q=>∃l b xs zs,x=.ref l/\vs=[.ref b]/\H l=some (.lst xs)/\H b=some (.lst zs)/\xs.length+zs.length<=sizeLine/\Q .non (upd H l (.lst (xs++zs)))
theorem ZK:Tu X "list.extend" Wr:=by
 intro J s σ H x w v y Q I f g h;obtain⟨l,b,A,B,rfl,rfl,d,i,C,q⟩:=h;cases f;obtain⟨u,rfl,j⟩:=g.one;cases j;obtain⟨z,a,n,r,D,e⟩:=I.lstM d;obtain⟨E,c,k,m,G,o⟩:=I.lstM i;have p:a.toArray.size+c.toArray.size<=sizeLine:=by rw[Ce,Ce];lia
 have t:¬(!a.toArray.isEmpty && Builtin.List.listTooLong (a.toArray.size+c.toArray.size))=true:=by
  rw[ZJ p,Bool.and_false];exact Ct
 refine call_meets F.slot_list_extend ⟨_,e,rfl⟩ F.entry_list_extend (F.args_list_extend_2 _ _)
  (AutoSeq1.list_extend_list_list_0 l a.toArray n b c.toArray k t (by rw[Ce];lia) (by lia)) ⟨e,o,?_⟩
 refine⟨.non,_,I.lset (its':=a++c) d e (by simp) (r.append m) ?_,rfl,q⟩;rw[AS];lia
def HG:V->List V->Hp->VK->Prop:=λx vs H Q=>∃l xs,x=.ref l/\vs=[]/\H l=some (.lst xs)/\Q .non (upd H l (.lst []))
theorem ZL:Tu X "list.clear" HG:=by
 intro m s σ H x g v i Q I b c h;obtain⟨l,j,rfl,rfl,a,q⟩:=h;cases b;have d:=c.zero;subst d;obtain⟨z,f,n,r,k,e⟩:=I.lstM a;refine call_meets F.slot_list_clear ⟨_,e,rfl⟩ F.entry_list_clear (F.args_list_clear_1 _) (AutoSeq1.list_clear_list_0 l f.toArray n (by rw[Ce];lia)) ⟨e,?_⟩;exact⟨.non,_,I.lset (its':=[]) (ys:=[]) a e rfl .nil (Di _),rfl,q⟩
def Tv:R2:=λx y H Q=>∃l b xs zs,x=.ref l/\y=.ref b/\H l=some (.lst xs)/\H b=some (.lst zs)/\xs.length+zs.length<=sizeLine/\∀p,H p=none->Q (.ref p) (upd H p (.lst (xs++zs)))
def OT:Dv X (binaryOp .Add) Tv:=by
 intro D s σ H x y v u Q I d f h;obtain⟨l,b,o,p,rfl,rfl,g,i,t,q⟩:=h;cases d;cases f;obtain⟨z,a,n,r,w,e⟩:=I.lstM g;obtain⟨A,c,B,j,C,k⟩:=I.lstM i;refine PySem.P.add_list e k ?_ (by rw[Ce,Ce];lia);have m:a.toArray++c.toArray=(a++c).toArray:=(by simp);rw[m];exact⟨.ref _,_,I.lnew (t':=s.toks) (r.append j) (by rw[AS];lia),rfl,q _ I.fresh⟩
end
section
variable {prog:Program} {w:World} {A:Around} {E:D'} {s:Shared}
end
section
variable {X:Cx}
end
section
variable {κ:Type} [DecidableEq κ]
def AJ (kvs:List (κ×V)) (k:κ):Option V:=(kvs.find? λkv=>decide (kv.1=k)).map (·.2)
def A1 (kvs:List (κ×V)) (k:κ) (v:V):List (κ×V):=
 if(kvs.any λkv=>decide (kv.1=k))=true then kvs.map (λkv=>if kv.1=k then(kv.1,v) else kv) else kvs++[(k,v)]
def He{p:κ×V}{r:List (κ×V)}{k:κ}(e:p.1=k):AJ (p::r) k=some p.2:=by simp[AJ,NI,e]
def Hf{p:κ×V}{r:List (κ×V)}{k:κ}(e:¬p.1=k):AJ (p::r) k=AJ r k:=by simp[AJ,NI,e]
theorem OU(k:κ):∀a:List (κ×V),(a.any λb=>decide (b.1=k))=(AJ a k).isSome
 |[]=>rfl
 |p::r=>by
   rw[List.any_cons];by_cases e:p.1=k;simp only[He e,Ba e,Bool.true_or,Option.isSome_some];rw[Hf e,D1 e,Bool.false_or];exact OU k r
theorem Wu(k j:κ)(y:V):∀c:List (κ×V),AJ (c.map λa=>if a.1=k then(a.1,y) else a) j=(AJ c j).map λx=>if j=k then y else x
 |[]=>rfl
 |p::r=>by
   have b:=Wu k j y r;rw[Eh];by_cases h:p.1=k;rw[Al h];by_cases e:p.1=j;rw[He (p:=(p.1,y)) e,He e,Option.map_some,Al (e.symm.trans h)];rw[Hf (p:=(p.1,y)) e,Hf e,b];rw[An h];by_cases e:p.1=j;rw[He (p:=p) e,He e,Option.map_some,An (λz=>h (e.trans z))];rw[Hf (p:=p) e,Hf e,b]
theorem Wv(k j:κ)(y:V):∀b:List (κ×V),AJ b k=none->AJ (b++[(k,y)]) j=if j=k then some y else AJ b j
 |[],_=>by
   by_cases e:k=j;rw[Al e.symm];exact He (p:=(k,y)) e;rw[An (λz=>e z.symm)];exact Hf (p:=(k,y)) e
 |p::r,a=>by
   rw[List.cons_append];have c:¬p.1=k:=λz=>by rw[He z] at a;cases a
   rw[Hf c] at a;have d:=Wv k j y r a;by_cases e:p.1=j;rw[He e,He e,An (λz=>c (e.trans z))];rw[Hf e,Hf e,d]
def OV(b:List (κ×V))(k j:κ)(y:V):AJ (A1 b k y) j=if j=k then some y else AJ b j:=by
 unfold A1;by_cases a:(b.any λc=>decide (c.1=k))=true;rw[Al a,Wu];rw[OU] at a;by_cases e:j=k;obtain⟨x,d⟩:=Option.isSome_iff_exists.mp a;rw[Al e,e,d,Option.map_some,Al rfl];rw[An e]
 cases AJ b j with
 |none=>rfl
 |some x=>rw[Option.map_some,An e]
 rw[An a];refine Wv k j y b ?_;rw[OU] at a
 cases q:AJ b k with
 |none=>rfl
 |some x=>rw[q] at a;exact(a rfl).elim
def OW(a:List (κ×V))(k:κ)(v:V):(A1 a k v).length<=a.length+1:=by
 unfold A1;split;rw[Ak];lia;rw[AS,Ej,GF];lia
def El.isSome_eq{o:Option V}{u:Option Value}(r:El o u):o.isSome=u.isSome:=by
 cases o with
 |none=>cases u with
   |none=>rfl
   |some _=>exact(show False from r).elim
 |some _=>cases u with
   |none=>exact(show False from r).elim
   |some _=>rfl
def El.getD{o:Option V}{u:Option Value}{d:V}{d':Value}(r:El o u)(a:RelV d d'):RelV (o.getD d) (u.getD d'):=by
 cases o with
 |none=>cases u with
   |none=>exact a
   |some _=>exact(show False from r).elim
 |some _=>cases u with
   |none=>exact(show False from r).elim
   |some _=>exact r
variable {kvs:List (κ×V)}{vs:List (κ×Value)}
def KV.val(r:KV kvs vs)(k:κ):El (AJ kvs k) (valueAt vs k):=by
 unfold KV at r
 induction r with
 |nil=>exact True.intro
 |@cons p q i a h t f =>
   obtain⟨d,g⟩:=h;by_cases e:p.1=k;have c:q.1=k:=d.symm.trans e;have b:valueAt (q::a) k=some q.2:=(by simp[valueAt,NI,c]);rw[He e,b];exact g;have c:¬q.1=k:=λz=>e (d.trans z);have b:valueAt (q::a) k=valueAt a k:=(by simp[valueAt,NI,c]);rw[Hf e,b];exact f
def KV.any{kvs:List (κ×V)}{vs:List (κ×Value)}(r:KV kvs vs)(k:κ):(kvs.any λa=>decide (a.1=k))=vs.any λa=>decide (a.1=k):=by
 unfold KV at r
 induction r with
 |nil=>rfl
 |cons h t b=>rw[List.any_cons,List.any_cons,b,h.1]
def KV.repl(r:KV kvs vs)(k:κ){y:V}{u:Value}(c:RelV y u) :
 KV (kvs.map λa=>if a.1=k then(a.1,y) else a) (vs.map λa=>if a.1=k then(a.1,u) else a):=by
 unfold KV at r ⊢
 induction r with
 |nil=>exact .nil
 |@cons p q g i h t d =>
   rw[Eh,Eh];refine .cons ?_ d;obtain⟨b,f⟩:=h;by_cases e:p.1=k;rw[Al e,Al (b.symm.trans e)];exact⟨b,c⟩;rw[An e,An (λz=>e (b.trans z))];exact⟨b,f⟩
def KV.put(r:KV kvs vs)(k:κ){y:V}{u:Value}(a:RelV y u):KV (A1 kvs k y) (stored vs k u):=by
 unfold A1 stored;rw[r.any k];by_cases e:(vs.any λb=>decide (b.1=k))=true;rw[Al e,Al e];exact r.repl k a;rw[An e,An e];exact Paired.snoc r ⟨rfl,a⟩
def KV.length{kvs:List (κ×V)}{vs:List (κ×Value)}(r:KV kvs vs):kvs.length=vs.length:=Paired.length r
end
variable {P:Program}{w:World}{u:Value}
def NS{k:AN}(r:RelV (kV k) u):(ES P w).is k u=true:=by
 cases k with
 |inl i=>obtain⟨t,e⟩:=(show ∃t,u=Value.int i t from r);subst e;exact Zj P w i t
 |inr x=>obtain⟨t,e⟩:=(show ∃t,u=Value.str x t from r);subst e;exact Zk P w x t
theorem Ww{P:Program}{w:World}:∀{ks:List AN}{us:List Value},At (ks.map kV) us->ItemsAre (ES P w) ks us
 |[],_,r=>by rw[Om] at r;cases r;exact .nil
 |k::ks,_,r=>by
   rw[Eh] at r
   cases r with
   |cons h t=>exact .cons (NS h) (Ww t)
abbrev KT (H:Hp):List (List AN×V)->List (List AN×Addr×Value)->Prop:=Paired λp q=>p.1=q.1/\H q.2.1=some (.tup (p.1.map kV))/\RelV p.2 q.2.2
variable {H:Hp}{kvs:List (List AN×V)}{xs:List (List AN×Addr×Value)}
def KT.val(r:KT H kvs xs)(k:List AN):El (AJ kvs k) ((atKey xs k).map (·.2)):=by
 induction r with
 |nil=>exact True.intro
 |@cons p q i a h t f =>
   obtain⟨d,_,g⟩:=h;by_cases e:p.1=k;have c:q.1=k:=d.symm.trans e;have b:atKey (q::a) k=some q.2:=(by simp[atKey,NI,c]);rw[He e,b];exact g;have c:¬q.1=k:=λz=>e (d.trans z);have b:atKey (q::a) k=atKey a k:=(by simp[atKey,NI,c]);rw[Hf e,b];exact f
variable {y:V}
def KT.repl(r:KT H kvs xs)(k:List AN)(d:RelV y u) :
 KT H (kvs.map λb=>if b.1=k then(b.1,y) else b) (xs.map (putAt k u)):=by
 induction r with
 |nil=>exact .nil
 |@cons p q i j h t f =>
   rw[Eh,Eh];refine .cons ?_ f;obtain⟨a,c,g⟩:=h;unfold putAt;by_cases e:p.1=k;rw[Al e,Al (a.symm.trans e)];exact⟨a,c,d⟩;rw[An e,An (λz=>e (a.trans z))];exact⟨a,c,g⟩
def KT.put(r:KT H kvs xs)(k:List AN){b:Addr}(c:H b=some (.tup (k.map kV)))(a:RelV y u) :
 KT H (A1 kvs k y) (storedH xs k b u):=by
 have e:(kvs.any λd=>decide (d.1=k))=(atKey xs k).isSome:=by
  rw[OU,(r.val k).isSome_eq,Option.isSome_map]
 unfold A1 storedH;rw[e];by_cases q:(atKey xs k).isSome=true;rw[Al q,Al q];exact r.repl k a;rw[An q,An q];exact Paired.snoc r ⟨rfl,c,a⟩
variable {H':Hp}
def KT.keeps(r:KT H kvs xs)(a:∀b ys,H b=some (.tup ys)->H' b=some (.tup ys)):KT H' kvs xs:=
 Paired.mapP r λζ ζ z=>⟨z.1,a _ _ z.2.1,z.2.2⟩
section
variable {P:Program} {w:World} {H:Hp} {h:Heap} {a:Addr}
def HH{u:HO}(ok:C7 P w H h)(e:Rd H a u):AB P w H h a u:=e.ok ok
def NT{kvs:List (AN×V)}(ok:C7 P w H h)(e:Rd H a (.dK kvs)):kvs.length<=sizeLine/\(a==sysModules)=false/\∃vs,KV kvs vs/\h.DictOf (ES P w) a vs:=
 show AB P w H h a (.dK kvs) from HH ok e
def K9{kvs:List (AN×V)}(ok:C7 P w H h)(e:H a=some (.dK kvs)):kvs.length<=sizeLine/\(a==sysModules)=false/\∃vs,KV kvs vs/\h.DictOf (ES P w) a vs:=NT ok (.inl e)
def Mj{ks:List AN}(ok:C7 P w H h)(e:H a=some (.tup (ks.map kV))):(tupleKind (ES P w)).is h ks a:=by
 obtain⟨_,f,r,o,b,c,n,d⟩:=(show AB P w H h a (.tup (ks.map kV)) from ok a _ e);exact⟨o,f.toArray,n,b,c,d,by simpa using Ww r⟩
def NU(ok:C7 P w H h)(e:Rd H a (.dT kvs)):kvs.length<=sizeLine/\(a==sysModules)=false /\
 ∃xs,KT H kvs xs/\h.DictOfH (tupleKind (ES P w)) a xs:=by
 obtain⟨z,y,xs,r,o,d,f,g,i,j,k,n⟩:=(show AB P w H h a (.dT kvs) from HH ok e);refine⟨z,y,xs,r,o,d,f,g,i,j,k,λx b=>?_,n⟩
 have all:∀{l:List (List AN × V)}{m:List (List AN × Addr × Value)},KT H l m -> ∀x∈m,(tupleKind (ES P w)).is h x.1 x.2.1:=by
  intro l m q
  induction q with
  |nil=>intro x b;exact nomatch b
  |@cons p q u v c t s =>
    intro x b;rcases B5.mp b with e|b;subst e;exact Mj ok (by rw[<-c.1];exact c.2.1);exact s x b
 exact all r x b
def HI(ok:C7 P w H h)(e:H a=some (.dT kvs)):kvs.length<=sizeLine/\(a==sysModules)=false /\
 ∃xs,KT H kvs xs/\h.DictOfH (tupleKind (ES P w)) a xs:=NU ok (.inl e)
end
def Dz (H:Hp) (a:Addr) (y:V) (r:Option V):Prop:=
 (∃kvs k,Rd H a (.dK kvs)/\y=kV k/\r=AJ kvs k)\/∃kvs k b,Rd H a (.dT kvs)/\y=.ref b/\H b=some (.tup (k.map kV))/\r=AJ kvs k
def HJ (H:Hp) (a:Addr) (y v:V) (H':Hp):Prop:=
 (∃kvs k,H a=some (.dK kvs)/\y=kV k/\kvs.length<sizeLine/\H'=upd H a (.dK (A1 kvs k v))) \/
 ∃kvs k b,H a=some (.dT kvs)/\y=.ref b/\H b=some (.tup (k.map kV))/\kvs.length<sizeLine/\H'=upd H a (.dT (A1 kvs k v))
def Dz.k{H:Hp}{a:Addr}{kvs:List (AN×V)}{k:AN}(e:H a=some (.dK kvs)):Dz H a (kV k) (AJ kvs k):=.inl ⟨kvs,k,.inl e,rfl,rfl⟩
variable {a:Addr}
def Dz.t{b:Addr}{k:List AN}(e:H a=some (.dT kvs))(c:H b=some (.tup (k.map kV))):Dz H a (.ref b) (AJ kvs k):=.inr ⟨kvs,k,b,.inl e,rfl,c,rfl⟩
def HJ.k{H:Hp}{a:Addr}{kvs:List (AN×V)}{k:AN}{v:V}(e:H a=some (.dK kvs))(b:kvs.length<sizeLine):HJ H a (kV k) v (upd H a (.dK (A1 kvs k v))):=.inl ⟨kvs,k,e,rfl,b,rfl⟩
section
variable {X:Cx} {pins:B'} {σ:St} {H:Hp} {s:Shared} {a:Addr} {y v:V} {u r:Value} {o:Option V} {A:Around} {E:D'}
def Inv.big(I:Inv X pins σ H s):sysModules<s.heap.objs.size:=by
 have h:mainGlobals<s.heap.objs.size:=(I.mod.glob.keeps I.bk).lt;exact Nat.lt_trans (by decide) h
def ZM{Q:D'}(q:A.units+1<cLine)(I:Inv X pins σ H s)(g:Dz H a y (some v))(n:RelV y u)(h:∀c Z,Inv X pins σ H Z->RelV v c->Q c Z) :
 wpAny (model X.prog X.w) A (getItem (.ref a) u) Q E s:=by
 rcases g with⟨kvs,k,e,d,l⟩|⟨kvs,k,b,e,d,r,l⟩;subst d;obtain⟨z,hd,t,j,f⟩:=NT I.hok e;obtain⟨c,i,m⟩:=El.some_of (v:=v) (o:=valueAt t k) (by rw[l];exact j.val k);exact wpAny_getItem_of (NS n) f.mapOf i (h c _ (I.tok _) m);subst d
 cases(show u=Value.ref b from n);obtain⟨z,hd,xs,j,f⟩:=NU I.hok e;obtain⟨c,i,m⟩:=El.some_of (v:=v) (o:=(atKey xs k).map (·.2)) (by rw[l];exact j.val k);obtain⟨p,w,x⟩:=E8.mp i;refine wpAny_getItem_heap (tupleKind_room_in1 q) (Mj I.hok r) f w ?_;rw[x];exact h c _ (I.tok _) m
def Tx{Q:D'}(j:A.units+1<cLine)(I:Inv X pins σ H s)(g:Dz H a y o)(i:RelV y u)(h:∀Z,Inv X pins σ H Z->Q (.bool o.isSome) Z) :
 wpAny (model X.prog X.w) A (compareOp .In u (.ref a)) Q E s:=by
 rcases g with⟨kvs,k,e,c,l⟩|⟨kvs,k,b,e,c,m,l⟩;subst c;obtain⟨z,hd,n,f,d⟩:=NT I.hok e;refine wpAny_in_of (NS i) hd d.mapOf ?_;rw[<-(f.val k).isSome_eq,<-l];exact h _ (I.tok _);subst c
 cases(show u=Value.ref b from i);obtain⟨z,hd,xs,f,d⟩:=NU I.hok e;refine wpAny_in_heap (tupleKind_room_in1 j) (Mj I.hok m) hd d ?_;have q:=(f.val k).isSome_eq;rw[Option.isSome_map] at q;rw[<-q,<-l];exact h _ (I.tok _)
def OX{h':Heap}{t':Nat}{ob:HO}(I:Inv X pins σ H s)(c:Ot (H a))(d:Heap.SameBut a s.heap h')(f:∃q,h'.get? a=some q)(h:AB X.prog X.w (upd H a ob) h' a ob) :
 Inv X pins σ (upd H a ob) {s with heap:=h',toks:=t'}:=
 I.write (x:=a) (e:=a) c (.inl rfl) (λb q g z=>(d.2 b g).trans z) f h
def HK{h':Heap}{kvs:List (AN×V)}{vs:List (AN×Value)}(z:kvs.length<=sizeLine)(hd:(a==sysModules)=false)(c:KV kvs vs)(b:h'.DictOf (ES P w) a vs) :
 AB P w H' h' a (.dK kvs):=⟨z,hd,vs,c,b⟩
def ZN{Q:Unit->Shared->Prop}(F:A.units+1<cLine)(I:Inv X pins σ H s)(g:HJ H a y v H')(w:RelV y u)(x:RelV v r)(h:∀Z,Inv X pins σ H' Z->Q () Z) :
 wpAny (model X.prog X.w) A (setItem (.ref a) u r) Q E s:=by
 rcases g with⟨kvs,k,e,j,l,m⟩|⟨kvs,k,b,e,j,B,l,m⟩;subst j m;obtain⟨z,hd,G,d,n⟩:=K9 I.hok e;have o:G.length<=sizeLine:=by rw[<-d.length];exact z
 have p:(A1 kvs k v).length<=sizeLine:=by have:=OW kvs k v;lia
 refine wpAny_setItem_pairs (hsz:=o) (NS w) n λC i t=>h _ ?_;have J:∃q,C.get? a=some q:=let ⟨q,_,_,f,_⟩:=i;⟨q,f⟩;exact OX I (by rw[e];exact True.intro) t J (HK p hd (d.put k x) i);subst j m
 cases(show u=Value.ref b from w);obtain⟨z,hd,xs,d,n⟩:=HI I.hok e
 have o:xs.length<=sizeLine:=by rw[<-Paired.length d];exact z
 have p:(A1 kvs k v).length<=sizeLine:=by have:=OW kvs k v;lia
 refine wpAny_setItem_heap (hsz:=o) (tupleKind_room_in1 F) (Mj I.hok B) n λC i t=>h _ ?_;obtain⟨q,K,L,f,M,N,O,_,P⟩:=i;refine OX I (by rw[e];exact True.intro) t ⟨q,f⟩ ⟨p,hd,_,(d.put k B x).keeps λc R D=>?_,q,K,L,f,M,N,O,P⟩;rw[AD (NN D e (λz=>nomatch z))];exact D
end
section
variable {X:Cx} {pins:B'} {σ:St} {H:Hp} {s:Shared} {a:Addr} {kvs:List (AN×V)} {k:AN} {u:Value} {A:Around} {E:D'}
end
def OY (i:Expr):Prop:=∀ov iv,subscripted i false ov iv=operate [ov,iv] (getItem ov iv)
variable {s:Shared}
def JF{prog:Program}{A:Around}{E:D'}{env:Env}{d slice:Expr}{L:Pos}{T id:String}{Q:D'}
 (j:typeLookup (.type T) "__getitem__" = pure (some (.builtin id))) (k:OY slice)
 (h:wpAny (model prog w) A (eval d env) (λo e=>wpAny (model prog w) A (eval slice env) (λi a=>a.TypeIs o T/\wpAny (model prog w) A (getItem o i) Q E a) E e) E s) :
 wpAny (model prog w) A (eval (.Subscript d slice L) env) Q E s:=by
 refine Subscript_ (FY h (λo e l=>FY l (λi a b=>?_) λζ ζ x=>x) λζ ζ x=>x);obtain⟨f,b⟩:=b;unfold subscriptTail;refine Ad ?_;rw[getitemInPython_of_ne f.not_modules];refine Ad (wpAny_specialOf f j ?_)
 have c:wpAny (model prog w) A (subscripted slice false o i) (λr g=>wpAny (model prog w) A (letTemporaryGo d o r >>= λζ=>pure r) Q E g) E a:=by
  rw[k o i];exact wpAny_operating (FY b (λr g m=>Ad (wpAny_letTemporaryGo (Aw m))) λζ ζ x=>x)
 first
  |exact Aw (Ad c)
  |exact Ad (Aw (Ad c))
  |exact Ad c
def ZO{X:Cx}{pins:B'}{σ:St}{o:Option V}(I:Inv X pins σ H s)(g:Dz H a y o):s.TypeIs (.ref a) "dict" :=by
 rcases g with⟨kvs,k,e,_,_⟩|⟨kvs,k,b,e,_,_,_⟩;obtain⟨_,_,d,_,c⟩:=NT I.hok e;exact c.typeIs;obtain⟨_,_,xs,_,c⟩:=NU I.hok e;exact c.typeIs
def La (D ty:TE):TE:=λσ H Q=>D σ H λx Y=>ty σ Y λy H2=>∃a v,x=.ref a/\Dz H2 a y (some v)/\Q v H2
section
variable {X:Cx} {o i e d:Expr} {L t j:Pos} {D ty J:TE}
def Wx(d:X.A.units+1<cLine)(e:PE X o D)(f:PE X i ty)(j:OY i):PE X (.Subscript o i L) (La D ty):=by
 intro c s σ H Q I h;refine JF PySem.F.slot_dict_getitem.lookup j (AV (e c s σ H _ I h) λu k⟨x,Y,l,m,n⟩=>AV (f c k σ Y _ l n) λz A⟨y,p,b,q,a,v,ex,g,r⟩=>?_);subst ex;obtain rfl:u=Value.ref a:=m;exact⟨ZO b g,ZM d b g q λB C t w=>⟨v,p,t,w,r⟩⟩
end
def Wy(h:Heap)(a:sysModules<h.objs.size):AB P w H (h.push {cls:=.type "dict",data:=.dict #[]}) h.objs.size (.dK []):=
 ⟨Di _,beq_eq_false_iff_ne.mpr (Ne.symm (CF a)),[],.nil,Heap.DictOf.new h⟩
def Wz(h:Heap)(a:sysModules<h.objs.size):AB P w H (h.push {cls:=.type "dict",data:=.dict #[]}) h.objs.size (.dT []):=
 ⟨Di _,beq_eq_false_iff_ne.mpr (Ne.symm (CF a)),[],.nil,_,#[],0,Cd _ rfl,⟨rfl,rfl,rfl⟩,rfl,rfl,List.nodup_nil⟩
def Mk:TE:=λζ H Q=>∀p,H p=none->Q (.ref p) (upd H p (.dK []))
def Ml:TE:=λζ H Q=>∀p,H p=none->Q (.ref p) (upd H p (.dT []))
section
variable {X:Cx} {L:Pos}
def ZP:PE X (.Dict [] [] L) Mk:=λb s σ H Q I h =>
 wpAny_Dict_empty ⟨.ref s.heap.objs.size,_,I.laid (a:=s.heap.objs.size) (o:=.dK []) (t':=s.toks) (λζ ζ q=>Bf _ q) (AG _) (Wy s.heap I.big),rfl,h _ (I.hok.fresh (AG _))⟩
def Tz:PE X (.Dict [] [] L) Ml:=λb s σ H Q I h =>
 wpAny_Dict_empty ⟨.ref s.heap.objs.size,_,I.laid (a:=s.heap.objs.size) (o:=.dT []) (t':=s.toks) (λζ ζ q=>Bf _ q) (AG _) (Wz s.heap I.big),rfl,h _ (I.hok.fresh (AG _))⟩
end
def Lb (kvs more:List (AN×V)):List (AN×V):=more.foldl (λacc kv=>A1 acc kv.1 kv.2) kvs
structure M2 (X:Cx) (o:Expr) (m:Str) (apos:Pos) (e f:Expr) (cpos:Pos):Prop where
 base:attributeBase o m X.env (eval o X.env)=eval o X.env
 few:((backTo cpos (starEach [e,f] X.env)).all (λx=>!x.1) && (backToKw cpos (keywordEach [] X.env)).all (λx=>x.1.isSome)
  && decide (([e,f]:List Expr).length+([]:List Keyword).length+(if([]:List Keyword).isEmpty then 0 else 1)<30))=true
 line:(apos.endLine==cpos.line)=true
 trees:backTo cpos (starEach [e,f] X.env)=[(false,eval e X.env),(false,eval f X.env)]
def WA (H:Hp) (a:Addr):Prop:=(∃kvs,Rd H a (.dK kvs))\/∃kvs,Rd H a (.dT kvs)
def Mm{X:Cx}{pins:B'}{σ:St}(I:Inv X pins σ H s)(d:WA H a) :
 s.TypeIs (.ref a) "dict" /\ (∀b,Value.ref a=.ref b->∃ob,s.heap.get? b=some ob/\ob.dict=none)/\(a==sysModules)=false:=by
 rcases d with⟨kvs,e⟩|⟨kvs,e⟩;obtain⟨_,hd,h,_,c⟩:=NT I.hok e;refine⟨c.typeIs,λb q=>?_,hd⟩;cases q;obtain⟨ob,_,_,f,g,_⟩:=c;exact⟨ob,f,g.2.1⟩;obtain⟨_,hd,xs,_,c⟩:=NU I.hok e;refine⟨c.typeIs,λb q=>?_,hd⟩;cases q;obtain⟨ob,_,_,f,g,_⟩:=c;exact⟨ob,f,g.2.1⟩
section
variable {X:Cx} {pins:B'} {σ:St} {H:Hp} {s:Shared} {a:Addr} {y d:V} {u r:Value} {o:Option V} {A:Around} {E:D'}
def Mn{Q:D'}(p:A.units+1<cLine)(I:Inv X pins σ H s)(g:Dz H a y o)(j:RelV y u)(m:RelV d r)(h:∀n Z,Inv X pins σ H Z->RelV (o.getD d) n->Q n Z) :
 wpAny (model X.prog X.w) A (call (.builtin "dict.get") [.ref a,u,r]) Q E s:=by
 rcases g with⟨kvs,k,e,f,l⟩|⟨kvs,k,b,e,f,q,l⟩;subst f;obtain⟨z,hd,t,i,c⟩:=NT I.hok e;refine call_meetsIn PySem.F.slot_dict_get c.typeIs PySem.F.entry_dict_get (PySem.F.args_dict_get_3 _ _ _) (meets_dict_get_default (ES X.prog X.w) a (NS j) hd r) ⟨_,c.mapOf,h _ _ (I.tok _) ?_⟩;rw[l];exact(i.val k).getD m;subst f
 cases(show u=Value.ref b from j);obtain⟨z,hd,xs,i,c⟩:=NU I.hok e;refine call_meetsIn PySem.F.slot_dict_get c.typeIs PySem.F.entry_dict_get (PySem.F.args_dict_get_3 _ _ _) (meetsH_dict_get_default (tupleKind (ES X.prog X.w)) a b hd r) ⟨tupleKind_room_in1 p,k,xs,Mj I.hok q,c,h _ _ (I.tok _) ?_⟩;rw[l];exact(i.val k).getD m
end
def Mo (D ty tx:TE):TE:=λσ H Q=>D σ H λx Y=>∃a,x=.ref a/\WA Y a/\ty σ Y λy H2=>tx σ H2 λz H3=>∃o,Dz H3 a y o/\Q (o.getD z) H3
section
variable {X:Cx} {o e f:Expr} {apos cpos:Pos} {D ty tx:TE}
def ZQ(i:X.A.units+1<cLine)(j:PE X o D)(k:PE X e ty)(l:PE X f tx)(m:M2 X o "get" apos e f cpos):PE X (.Call (.Attribute o "get" apos) [e,f] [] cpos) (Mo D ty tx):=by
 intro b s σ H Q I h;refine wpAny_Call_method m.base m.few m.line PySem.F.plainAttrs_dict PySem.F.slot_dict_get PySem.F.type_dict_get (AV (j b s σ H _ I h) λu n⟨x,Y,c,p,a,ex,d,q⟩=>?_);subst ex;obtain rfl:u=Value.ref a:=p;obtain⟨r,t,_⟩:=Mm c d;refine⟨r,t,?_⟩;rw[m.trees]
 refine Calls.callWith_builtin rfl (Calls.evalArgs_plain (Calls.spliced_cons (AV (k b n σ Y _ c q) λM v⟨y,w,A,B,C⟩ =>
  Calls.spliced_cons (AV (l b v σ w _ A C) λN O⟨z,E,F,G,P,g,J⟩=>Calls.spliced_nil ?_))))
 exact Mn i F g B G λR S K L=>⟨_,E,K,L,J⟩
end
section
variable {X:Cx} {pins:B'} {σ:St} {H:Hp} {s:Shared} {a:Addr} {kvs:List (AN×V)} {A:Around} {E:D'}
end
section
variable {X:Cx} {pins:B'} {σ:St} {H:Hp} {s:Shared} {a:Addr} {y:V} {u:Value} {A:Around} {E:D'}
end
end L2
namespace Att
open PySem PySem.W PySem.Calls PyProof.Rows
def ZR{P:Params}{h:Heap}:∀(ns:List Int)(vs:List Value),WellAll P h vs (ns.map WData.int)->IntsAre vs ns:=by
 intro ns
 induction ns with
 |nil =>
   intro vs w;rw[Om] at w;cases w;exact .nil
 |cons n ns c =>
   intro vs w;rw[Eh] at w
   cases w with
   |cons a b =>
     cases a;exact .cons _ _ (c _ b)
def ZS{l:OpenLaw}{n:Nat}(i:l.most=some n){P:Params}{h:Heap}{args:List WData}{f:List Value}
 (g:l.row.toRowW.claim.pre args=true) (u:WellAll P h f args) :
 ∃a vs ns,f=[Value.ref a]/\args=[WData.list (ns.map WData.int)]/\h.get? a=some {cls:=.type "list",data:=.seq vs.toArray}/\IntsAre vs ns/\ns.length<=n:=by
 have v:WShape.hasAll [] args [.list .int]=true:=(pre_splitW g).1;have e:l.pre.holds [] {args:=args}=true:=(pre_splitW g).2;obtain⟨d,r,rfl,j,k⟩:=hasAllW_cons v;obtain rfl:=hasAllW_nil k;obtain⟨y,rfl,m⟩:=hasW_list j;obtain⟨ns,rfl⟩:=items_int m
 have w:ns.length<=n:=by
  unfold OpenLaw.pre at e
  have b:(WTm.not (.lt (.lit (.int (n:Int))) (.len (.arg 0)))).holds [] {args:=[.list (ns.map .int)]}=true:=by
   have b:=(holds_andW e).1;rw[i] at b;exact b
  have c:=condW_of b (w_not (w_lt w_lit (w_len_list (w_arg rfl))));rw[Ak] at c;refine Nat.le_of_not_lt λq=>?_;have o:(n:Int)<((ns.length:Nat):Int):=(by lia)
  first
   |(rw[Ba o] at c;exact absurd c (by decide))
   |(simp at c;lia)
 cases u with
 |cons p s =>
   cases s
   cases p with
   |list t x=>exact⟨_,_,ns,rfl,rfl,t,ZR ns _ x,w⟩
def ZT(l:OpenLaw)(args:List WData):l.row.toRowW.claim.post args (.bool true) args=true:=
 postW_of (r:=l.row.toRowW) (X:=(true==true))
  (show WShape.has [] (.bool true) .bool=true by first|rfl|decide|simp[WShape.has,WShape.arms,WShape.armsAll])
  (show(WTm.eq .res (.lit (.bool true))).value [] {args:=args,res:=some (.bool true),after:=args}=some (.bool (true==true)) from w_eq_bool (w_res rfl) w_lit) rfl
def attach_call{l:OpenLaw}{n:Nat}{q:Program}{loose:List Str}{XP:(Str->Option Value)->Heap->Prop}{YP:World->Heap->Prop}{d:DefRec}
 (p:l.most=some n) (B:d.params.defaults=[])
 (call:∀(w:World)(h b:Shared)(e i:Str->Option Value)(c:Addr)(o:Obj)(j g k:Value)(a:Addr)(vs:List Value)(ns:List Int),
  Ground q loose [] XP w h e i b.heap->YP w b.heap ->
  b.heap.get? c=some o->o.data=.func (docDef d.name d.params d.body d.scope j g k)->b.heap.CodeRec g d.name->e d.name=some (.ref c) ->
  b.heap.get? a=some {cls:=.type "list",data:=.seq vs.toArray}->IntsAre vs ns->ns.length<=n->b.gens=#[] ->
  codeAny (model l.prog w) callerA (.call (.ref c) ⟨[.ref a],[]⟩) (λr Z=>r=.ok (.ret (.bool true))/\OldK b.heap Z.heap/\Z.os=b.os/\AllBare Z.gens) b) :
 WalkO q loose XP YP l.row.toRowW d [] (λf vs=>PySem.call f vs):=by
 intro w h b e i G Y c o j g k s kV t hd C m D u N O K F P L E M;obtain rfl:s=.none:=Dflts.none m B;obtain rfl:kV=.none:=Dflts.noKw m;obtain⟨a,vs,ns,rfl,rfl,H,J,I⟩:=ZS p F E;refine enter_call (codeAny_mono (call w h b e i c o j g k a vs ns G Y t (fd_plain hd) C D H J I u) λr Z v=>?_);obtain⟨rfl,x,y,z⟩:=v;exact⟨.inl ⟨.bool true,.bool true,[],rfl,λζ=>rfl,.bool true,ZT l _,λζ=>⟨List.Pairwise.nil,λζ A=>(nomatch A)⟩⟩,x,y,z⟩
section
variable {prog:Program} {w:World} {A:Around} {E:D'} {s:Shared} {K:Frag}
end
end Att
namespace L2
open PySem PySem.Spec PyProof.Rows
theorem Qz:∀{vs:List Value}{ns:List Int},IntsAre vs ns->At (ns.map V.int) vs
 |_,_,.nil=>.nil
 |_,_,.cons n t h=>.cons ⟨t,rfl⟩ (Qz h)
def Mp (H:Hp):Prop:=∀b,H b=none\/∃o xs,H b=some (.frz o (.lst xs))
variable {P:Program}{w:World}{a:Addr}{fd:FuncData}{x:Str}
def ZU {K:Ah} {g y:Str->Option Value} {CX:HC} {k:Nat} {A:Addr} {sp:Sp} {c:Shared} {vs:List Value} {ns:List Int}
 (E:K.In c.heap) (O:c.heap.Ns mainGlobals g) (f:c.heap.Ns builtinsNs y) (ab:∀x:Str,x ≠ "__name__" -> y x=bootBuiltins x) (ah:c.heap.NoLimit) (U:c.gens=#[])
 (p:c.heap.get? a=some {cls:=.type "list",data:=.seq vs.toArray}) (G:IntsAre vs ns) (I:ns.length<=sizeLine) (W:B2 k callerA)
 (F:∀D:Heap,K.In D->D.Ns mainGlobals g->EF P w K g D CX k A fd [x] sp) (al:∀(s:Shared)(u:Value),BindsTo s fd ⟨[u],[]⟩ [(x,u)])
 (ae:∀H:Hp,Mp H->Ae K H a (ns.map V.int)->sp [.ref a] H (λv ζ=>v=.bl true) λζ ζ ζ=>False)
 (af:∀H e Z,CX [] H c (λζ ζ ζ=>False) e Z->False) :
 codeAny (model P w) callerA (.call (.ref A) ⟨[.ref a],[]⟩) (λr Z=>r=.ok (.ret (.bool true))/\OldK c.heap Z.heap/\Z.os=c.os/\AllBare Z.gens) c:=by
 have J:=Qz G;have ai:=G.length
 have S:∀ H:Hp,Mp H->Ae K H a (ns.map V.int)->C7 P w H c.heap->(∀ b,H b≠none->b=a)->(H a≠none->K.lookup a=none) ->
  codeAny (model P w) callerA (.call (.ref A) ⟨[.ref a],[]⟩) (λr Z=>r=.ok (.ret (.bool true))/\OldK c.heap Z.heap/\Z.os=c.os/\AllBare Z.gens) c:=by
  intro H L X Q M Y;have T:∀{b:Addr}{o:Obj},c.heap.get? b=some o->H b=none->(FC c.heap H).get? b=some o:=λe n=>Zm e n
  have ag:∀{b:Addr}{o:Obj}{i:Array DictEntry}{j:Nat},c.heap.get? b=some o->o.data=.dict i j->H b=none:=λ{b o i j}e d=>by
   cases q:H b with
   |none=>rfl
   |some u =>
     have B:b=a:=M b (by rw[q];simp);subst B;rw[p] at e;cases e;have d':Data.seq vs.toArray _=Data.dict i j:=d;cases d'
  have t:∀{b:Addr}{m:Str->Option Value},c.heap.Ns b m->(FC c.heap H).Ns b m:=λ{b m}⟨o,i,j,e,d,r⟩=>⟨o,i,j,T e (ag e d),d,r⟩
  have R:K.In (FC c.heap H):=λb o e=>T (E b o e) (by
   cases q:H b with
   |none=>rfl
   |some u =>
     have B:b=a:=M b (by rw[q];simp);subst B
     rw[Y (by rw[q];simp)] at e;cases e)
  have hM:Mod K g (FC c.heap H):=⟨R,t O,⟨y,t f,ab⟩,let ⟨mc,h1,h2⟩:=ah;⟨mc,t h1,h2⟩⟩;have e0:Jx P w K g (FC c.heap H) callerA [] c H:=⟨rfl,hM,λb o e=>Jq e,Nat.le_of_eq (Zl _ _),trivial,λb f=>absurd (show b∈([]:List Addr) from f) (by simp),Q,.of_eq U⟩;refine codeAny_mono ((F _ R (t O)).run callerA [] c H ⟨[.ref a],[]⟩ [.ref a] [.ref a] _ _ W e0 (al c (.ref a)) (.cons rfl .nil) (ae H L X)) λr Z h=>?_
  cases r with
  |error e=>exact(af H e Z h).elim
  |ok fl =>
    cases fl with
    |next=>exact False.elim h
    |brk=>exact False.elim h
    |cont=>exact False.elim h
    |ret u =>
      obtain⟨v,H',aa,aj,un,ak,r',q⟩:=h;have q':v=.bl true:=q;subst q';obtain rfl:u=Value.bool true:=r';refine⟨rfl,OldK.of_keep λb o e=>?_,aa,aj⟩
      cases q:H b with
      |none=>exact un.keep b o e q (by intro z;exact absurd (show b∈([]:List Addr) from z) (by simp)) (by simp)
      |some u =>
        rcases L b with z|⟨ob,xs,z⟩;rw[q] at z;cases z;have z2:=un.frzs b ob _ z;obtain⟨N,_⟩:=Q b _ z;obtain⟨e2,_⟩:=ak b _ z2;rw[e] at N;cases N;exact e2
 cases C:K.lookup a with
 |some o =>
   have e:=E a o C;rw[p] at e;cases e;refine S (λζ=>none) (λζ=>.inl rfl) (.inr ⟨_,vs.toArray,_,C,rfl,rfl,rfl,by rw[Ce,ai];exact I,by simpa using J⟩) (λb u z=>by have l:(none:Option HO)=some u:=z;cases l) (λb z=>absurd rfl z) λz=>absurd rfl z
 |none =>
   refine S (λb=>if b=a then some (.frz {cls:=.type "list",data:=.seq vs.toArray} (.lst (ns.map V.int))) else none) (λb=>?_) (.inl (.inr ⟨{cls:=.type "list",data:=.seq vs.toArray},Al rfl⟩)) (λb u z=>?_) (λb z=>?_) λζ=>C
   by_cases f:b=a;exact .inr ⟨_,_,Al f⟩;exact .inl (An f);by_cases f:b=a;have l:=(Al f).symm.trans z;cases l;subst f;exact⟨p,by rw[Ak];exact I,vs,_,J,p⟩;have l:=(An f).symm.trans z;cases l;by_cases f:b=a;exact f;exact absurd (An f) z
variable {n:Nat}
def JG{l:PySem.W.OpenLaw}{k:Nat}{q:Program}{loose:List Str}{XP:(Str->Option Value)->Heap->Prop}{YP:World->Heap->Prop}{d:DefRec}{K:Params->Ah}{CX:World->HC}{sp:World->Sp}(m:l.most=some n)(D:n<=sizeLine)(E:d.params.defaults=[])(p:B2 k callerA)
 (r:∀(w:World)(h:Heap),YP w h->(K w.params).In h)
 (F:∀(w:World)(b:Str->Option Value)(c:Addr)(h:Heap),(K w.params).In h->h.Ns mainGlobals b->b d.name=some (.ref c) ->
  ∃fd:FuncData,(∀(s:Shared)(u:Value),BindsTo s fd ⟨[u],[]⟩ [(x,u)]) /\
   ∀g:Heap,(K w.params).In g->g.Ns mainGlobals b->EF l.prog w (K w.params) b g (CX w) k c fd [x] (sp w))
 (I:∀(w:World)(H:Hp)(a:Addr)(ns:List Int),ns.length<=n->Mp H->Ae (K w.params) H a (ns.map V.int)->sp w [.ref a] H (λv ζ=>v=.bl true) λζ ζ ζ=>False)
 (J:∀(w:World)(H:Hp)(s:Shared)(e:Value)(Z:Shared),CX w [] H s (λζ ζ ζ=>False) e Z->False) :
 PySem.W.WalkO q loose XP YP l.row.toRowW d [] (λf vs=>PySem.call f vs):=by
 refine Att.attach_call m E λw O t b P c o Q R T a vs ns G Y S hd U L M N j y=>?_;have i:=r w _ Y;obtain⟨fd,z,A⟩:=F w b c _ i G.T.g L;exact ZU i G.T.g G.T.b G.T.builtins G.T.nolimit y M N (Ek j D) p A z (λH B C=>I w H a ns j B C) λH e Z=>J w H t e Z
abbrev I7:HC:=λζ ζ ζ ζ ζ ζ=>False
abbrev E0:XK:=λζ ζ ζ=>False
variable {X:Cx}
def OZ:Tg I7 X E0:=λζ ζ ζ ζ ζ ζ ζ h=>h.elim
structure Bp (K:Ah) (x qual:Str) (st:Stmt) (f:Addr) (fd:FuncData):Prop where
 ex:∃(oc:Value)(od:Option Addr)(kV doc pm:Value)(an:Option Addr)(cdv ct:Value)(osl:Array (Option Value)),
  fd=PySem.W.fnOf x qual (KZ st) (IS st) (A0 st) .none kV doc pm an cdv ct/\K.lookup f=some ⟨oc,od,.func fd,osl⟩/\PySem.W.codeIn K cdv qual=true
 kp:PySem.W.keepIn K (.ref f)=true
section
variable {P:Program} {w:World} {K:Ah} {mg:Str->Option Value} {base:Heap}
variable {qual:Str}{st:Stmt}{f:Addr}
def Bp.ok{N ps:List Str}{k:Nat}{sp:Sp}(F:Bp K x qual st f fd)(S:Ag N ps (A0 st))(len:∀vs H Q E,sp vs H Q E->vs.length=ps.length)
 (i:∀(a:Value)(A:Around)(b:List Env)(s:Shared)(H:Hp)(vs:List V)(Q:VK)(E:XK),B2 k (A.deeper (envOfC qual (A0 st) s.heap.objs.size f a))->sp vs H Q E ->
  ∃t,Gu (AF I7 P w K mg base N qual (A0 st) f a A b s H E).nox (IS st) t/\t {nx:=λζ H'=>Q .non H',rt:=Q} (start N vs) H):EF P w K mg base I7 (k+1) f fd ps sp:=by
 obtain⟨j,l,kV,p,m,n,a,o,r,rfl,c,e⟩:=F.ex;refine OK c e S len λA b s H vs Q E d g=>?_;obtain⟨t,h,q⟩:=i a A b s H vs Q E d g;exact⟨t,h.nox,q⟩
def Bp.binds{ps:List Str}(F:Bp K x qual st f fd)
 (h:∀(kV c a:Value)(b:Option Addr)(d ct:Value)(us:List Value),us.length=ps.length->bindArgs (PySem.W.fnOf x qual (KZ st) (IS st) (A0 st) .none kV c a b d ct) ⟨us,[]⟩=pure (ps.zip us)):Binds K fd ps []:=by
 obtain⟨e,g,kV,c,a,b,d,ct,j,rfl,i,k⟩:=F.ex;exact .all (h kV c a b d ct)
def HL{g:Value}{h b:Option Addr}{i:Array (Option Value)}{kV e d a ct:Value}(l:K.lookup f=some ⟨g,h,.func (PySem.W.fnOf x qual (KZ st) (IS st) (A0 st) .none kV e d b a ct),i⟩)
 (c:PySem.W.codeIn K a qual=true) (k:PySem.W.keepIn K (.ref f)=true):Bp K x qual st f (PySem.W.fnOf x qual (KZ st) (IS st) (A0 st) .none kV e d b a ct):=⟨⟨g,h,kV,e,d,b,a,ct,i,rfl,l,c⟩,k⟩
end
variable {A:Around}
def Mq{k:Nat}(a:B2 k A):A.units+1<cLine:=Nat.lt_of_le_of_lt (Nat.add_le_add_left (by decide:1<=64) _) a.units
def BK(h:n<=1000):n<sizeLine:=Nat.lt_of_le_of_lt h (by decide)
section
variable {X:Cx}
def pv(i:Nat){L:Pos}(a:X.N[i]?=some x:=by rfl)(hv:Qq X.env.scope x:=by first|exact Or.inl rfl|exact Or.inr (Or.inl rfl)|exact Or.inr (Or.inr rfl))(hd:(x==("__debug__" : Str))=false:=by decide)
 (b:(x==("__classdict__" : Str))=false:=by decide):PE X (.Name x L) (C1 i):=LQ a hv hd b
end
variable {B:Prop}
def A7{A:Prop}(h:B):if false=true then A else B:=by
 rw[An Ct];exact h
def CB{A:Prop}(h:A):if true=true then A else B:=by
 rw[Al rfl];exact h
def Am{c A:Prop} [Decidable c](a:c->A)(b:¬c->B):if c then A else B:=by
 by_cases h:c;rw[Al h];exact a h;rw[An h];exact b h
def Ac (H H':Hp):Prop:=∀b o,H b=some o->H' b=some o
def Ac.refl(H:Hp):Ac H H:=λζ ζ h=>h
variable {H Y:Hp}
def Ac.trans{d:Hp}(a:Ac H Y)(b:Ac Y d):Ac H d:=λc o h=>b c o (a c o h)
variable {H':Hp}
def Ac.free(e:Ac H H'){l:Addr}(h:H' l=Option.none):H l=Option.none:=by
 cases q:H l with
 |none=>rfl
 |some o =>
   rw[e l o q] at h;cases h
variable {xs:List V}
def Ac.seq{K:Ah}(e:Ac H H')(h:Ae K H a xs):Ae K H' a xs:=by
 rcases h with(h|⟨o,h⟩)|h;exact .inl (.inl (e _ _ h));exact .inl (.inr ⟨o,e _ _ h⟩);exact .inr h
section
variable {κ:Type} [DecidableEq κ]
end
inductive Ty where
 |int|bool|str|non|lst|tup|dct
 deriving DecidableEq
def Ty.name:Ty->String
 |.int => "int"|.bool => "bool"|.str => "str"|.non => "NoneType"|.lst => "list"|.tup => "tuple"|.dct => "dict"
inductive JH (K:Ah) (H:Hp):V->Ty->Prop where
 |int (i:Int):JH K H (.int i) .int
 |bl (b:Bool):JH K H (.bl b) .bool
 |str (x:Str):JH K H (.str x) .str
 |non:JH K H .non .non
 |lst {a:Addr} {xs:List V} (h:Ae K H a xs):JH K H (.ref a) .lst
 |tup {a:Addr} {xs:List V} (h:Ar K H a xs):JH K H (.ref a) .tup
 |dk {a:Addr} {kvs:List (AN×V)} (h:H a=some (.dK kvs)):JH K H (.ref a) .dct
def TD:Ty->Ty->Bool
 |.int,.int=>true|.bool,.bool=>true|.bool,.int=>true|.str,.str=>true|.non,.non=>true|.lst,.lst=>true|.tup,.tup=>true|.dct,.dct=>true|_,_=>false
def TF (K:Ah):List V->Hp->VK->Prop:=λvs H Q=>∃x T T',vs=[x,.ty (Ty.name T)]/\JH K H x T'/\Q (.bl (TD T' T)) H
def G0:A6 X (.builtin "isinstance") (TF X.K):=by
 intro F s σ H g w Q I r h;obtain⟨x,T,z,rfl,ty,q⟩:=h;obtain⟨u,j,rfl,c,p⟩:=Jw r;have k:j=Value.type (Ty.name T):=p;subst k
 cases ty with
 |int i =>
   obtain⟨t,rfl⟩:=c
   cases T with
   |int=>exact IsiPair.int_int ⟨.bl true,H,I,rfl,q⟩
   |bool=>exact IsiPair.int_bool ⟨.bl false,H,I.tok _,rfl,q⟩
   |str=>exact IsiPair.int_str ⟨.bl false,H,I.tok _,rfl,q⟩
   |non=>exact IsiPair.int_NoneType ⟨.bl false,H,I.tok _,rfl,q⟩
   |lst=>exact IsiPair.int_list ⟨.bl false,H,I.tok _,rfl,q⟩
   |tup=>exact IsiPair.int_tuple ⟨.bl false,H,I.tok _,rfl,q⟩
   |dct=>exact IsiPair.int_dict ⟨.bl false,H,I.tok _,rfl,q⟩
 |bl b =>
   obtain rfl:u=Value.bool b:=c
   cases T with
   |int=>exact IsiPair.bool_int ⟨.bl true,H,I,rfl,q⟩
   |bool=>exact IsiPair.bool_bool ⟨.bl true,H,I,rfl,q⟩
   |str=>exact IsiPair.bool_str ⟨.bl false,H,I.tok _,rfl,q⟩
   |non=>exact IsiPair.bool_NoneType ⟨.bl false,H,I.tok _,rfl,q⟩
   |lst=>exact IsiPair.bool_list ⟨.bl false,H,I.tok _,rfl,q⟩
   |tup=>exact IsiPair.bool_tuple ⟨.bl false,H,I.tok _,rfl,q⟩
   |dct=>exact IsiPair.bool_dict ⟨.bl false,H,I.tok _,rfl,q⟩
 |str y =>
   obtain⟨t,rfl⟩:=c
   cases T with
   |int=>exact IsiPair.str_int ⟨.bl false,H,I.tok _,rfl,q⟩
   |bool=>exact IsiPair.str_bool ⟨.bl false,H,I.tok _,rfl,q⟩
   |str=>exact IsiPair.str_str ⟨.bl true,H,I,rfl,q⟩
   |non=>exact IsiPair.str_NoneType ⟨.bl false,H,I.tok _,rfl,q⟩
   |lst=>exact IsiPair.str_list ⟨.bl false,H,I.tok _,rfl,q⟩
   |tup=>exact IsiPair.str_tuple ⟨.bl false,H,I.tok _,rfl,q⟩
   |dct=>exact IsiPair.str_dict ⟨.bl false,H,I.tok _,rfl,q⟩
 |non =>
   obtain rfl:u=Value.none:=c
   cases T with
   |int=>exact IsiPair.NoneType_int ⟨.bl false,H,I.tok _,rfl,q⟩
   |bool=>exact IsiPair.NoneType_bool ⟨.bl false,H,I.tok _,rfl,q⟩
   |str=>exact IsiPair.NoneType_str ⟨.bl false,H,I.tok _,rfl,q⟩
   |non=>exact IsiPair.NoneType_NoneType ⟨.bl true,H,I,rfl,q⟩
   |lst=>exact IsiPair.NoneType_list ⟨.bl false,H,I.tok _,rfl,q⟩
   |tup=>exact IsiPair.NoneType_tuple ⟨.bl false,H,I.tok _,rfl,q⟩
   |dct=>exact IsiPair.NoneType_dict ⟨.bl false,H,I.tok _,rfl,q⟩
 |lst d =>
   obtain rfl:u=Value.ref _:=c;obtain⟨v,l,⟨o,n,e,a,hd,m⟩,f⟩:=I.list d
   cases T with
   |int=>exact IsiPair.list_int e a ⟨.bl false,H,I.tok _,rfl,q⟩
   |bool=>exact IsiPair.list_bool e a ⟨.bl false,H,I.tok _,rfl,q⟩
   |str=>exact IsiPair.list_str e a ⟨.bl false,H,I.tok _,rfl,q⟩
   |non=>exact IsiPair.list_NoneType e a ⟨.bl false,H,I.tok _,rfl,q⟩
   |lst=>exact IsiPair.list_list e a ⟨.bl true,H,I,rfl,q⟩
   |tup=>exact IsiPair.list_tuple e a ⟨.bl false,H,I.tok _,rfl,q⟩
   |dct=>exact IsiPair.list_dict e a ⟨.bl false,H,I.tok _,rfl,q⟩
 |tup d =>
   obtain rfl:u=Value.ref _:=c;obtain⟨v,l,⟨o,e,a,n,m⟩,f⟩:=I.tuple d
   cases T with
   |int=>exact IsiPair.tuple_int e a ⟨.bl false,H,I.tok _,rfl,q⟩
   |bool=>exact IsiPair.tuple_bool e a ⟨.bl false,H,I.tok _,rfl,q⟩
   |str=>exact IsiPair.tuple_str e a ⟨.bl false,H,I.tok _,rfl,q⟩
   |non=>exact IsiPair.tuple_NoneType e a ⟨.bl false,H,I.tok _,rfl,q⟩
   |lst=>exact IsiPair.tuple_list e a ⟨.bl false,H,I.tok _,rfl,q⟩
   |tup=>exact IsiPair.tuple_tuple e a ⟨.bl true,H,I,rfl,q⟩
   |dct=>exact IsiPair.tuple_dict e a ⟨.bl false,H,I.tok _,rfl,q⟩
 |dk d =>
   obtain rfl:u=Value.ref _:=c;obtain⟨f,A,g,E,o,B,C,e,ex,D⟩:=I.hok _ _ d;have a:=ex.1
   cases T with
   |int=>exact IsiPair.dict_int e a ⟨.bl false,H,I.tok _,rfl,q⟩
   |bool=>exact IsiPair.dict_bool e a ⟨.bl false,H,I.tok _,rfl,q⟩
   |str=>exact IsiPair.dict_str e a ⟨.bl false,H,I.tok _,rfl,q⟩
   |non=>exact IsiPair.dict_NoneType e a ⟨.bl false,H,I.tok _,rfl,q⟩
   |lst=>exact IsiPair.dict_list e a ⟨.bl false,H,I.tok _,rfl,q⟩
   |tup=>exact IsiPair.dict_tuple e a ⟨.bl false,H,I.tok _,rfl,q⟩
   |dct=>exact IsiPair.dict_dict e a ⟨.bl true,H,I,rfl,q⟩
def WB{bs:List Bool}{a:List Value}(r:At (bs.map V.bl) a):TruthOf P w A (λi v=>a.toArray[i]?=some v) (λi=>bs.getD i false):=by
 intro i v s Q E d f;have c:a[i]?=some v:=(by simpa using d);have g:=r.length;rw[Ak] at g;have k:i<a.length:=(AY.mp c).1
 have h:(bs.map V.bl)[i]?=some (V.bl (bs.getD i false)):=by
  rw[A8,B1];have:bs[i]?=some bs[i]:=AC (by lia);rw[this];rfl
 obtain⟨u,b,j⟩:=r.get h;rw[c] at b;cases b;have e:v=Value.bool (bs.getD i false):=j;subst e;exact FX f
def ZV{bs:List Bool}:(List.range bs.length).all (λi=>bs.getD i false)=bs.all id:=by
 rw[Bool.eq_iff_iff,List.all_eq_true,List.all_eq_true];constructor;intro h b d;obtain⟨i,a,e⟩:=Qf.mp d;have:=h i (List.mem_range.mpr a);rw[B1,AC a] at this;rw[<-e];exact this;intro h i a;have c:=List.mem_range.mp a;rw[B1,AC c];exact h _ (EC c)
def TH (K:Ah):List V->Hp->VK->Prop:=λvs H Q=>∃(a:Addr)(bs:List Bool),vs=[.ref a]/\Ae K H a (bs.map V.bl)/\Q (.bl (bs.all id)) H
def ZW(g:X.calm=true):A6 X (.builtin "all") (TH X.K):=by
 intro B s σ H t w Q I r h;obtain⟨a,bs,rfl,j,q⟩:=h;obtain⟨u,rfl,k⟩:=Fa r;obtain rfl:u=Value.ref a:=k;obtain⟨c,d,p,x⟩:=I.list j;have f:=d.length;rw[Ak] at f;have n:a<s.heap.objs.size:=by obtain⟨_,e,_⟩:=p.isList;exact Br e
 refine call_all_walk (wpAny_pyIter_list p.isList ?_);refine⟨s.heap.objs.size,[s.heap.objs.size,a],[s.heap.objs.size],c.toArray.size,(λi v=>c.toArray[i]?=some v),(λi h=>h.IsListIter s.heap.objs.size a i/\h.IsList a c.toArray),(λi=>bs.getD i false),rfl,Walks.list (A:=X.A.in1) (I.ok.hd g) s.heap.objs.size a (CF n) c.toArray,⟨⟨_,Cd _ rfl,rfl,rfl⟩,p.isList.push _⟩,WB d,λy tk l=>?_⟩;refine⟨.bl (bs.all id),H,I.kept λb o e=>l b o (λz=>?_) (Bf _ e),?_,q⟩;have m:b=s.heap.objs.size:=(by simpa using z);exact absurd (Br e) (by rw[m];exact Hs _);have e:c.toArray.size=bs.length:=(by rw[Ce,f]);show Value.bool _=Value.bool _;rw[e,ZV]
variable {pins:B'}{σ:St}{s:Shared}
def Inv.track{T:Addr}{o:HO}(I:Inv X pins σ H s)(f:Dj X pins H T)(p:∃ob,s.heap.get? T=some ob)(l:AB X.prog X.w (upd H T o) s.heap T o):Inv X pins σ (upd H T o) s:=by
 obtain⟨d,g,r,h,i,j⟩:=f;refine I.step (g':=s.gens) (t':=s.toks) (d':=s.drawn) (h':=s.heap) (ch:=[T]) (λb a=>?_) (λb ob ζ ζ ζ e ζ=>e) (λb ob ζ ζ ζ e ζ=>⟨ob.slots,e⟩) (λb ob a e n=>?_) (λb ob ζ e=>⟨ob,e⟩) (λb xs e=>?_) (λb ob u e=>?_) (λb t e=>?_) (λm k=>k) (λb u e=>?_) I.bare;have e:b=T:=(by simpa using a);subst e;exact⟨h,g,i,j⟩;rw[AD (by simpa using a)];exact n;rw[AD (AX e d)];exact e;rw[AD (AX e d)];exact e;exact⟨#[],by rw[AD (AX e d),e];simp⟩;by_cases a:b=T;subst a;rw[Aa] at e;cases e;exact l;rw[AD a] at e;exact(I.hok b u e).stay (λc v ζ q=>q) (λc q=>by rw[AD (AX q d)];exact q) λc xs q=>by rw[AD (AX q d)];exact q
def Gi (env:Env):List (Str×NameKind)->List (Str×Addr)->List (Str×Addr)
 |[],acc=>acc
 |(n,k)::r,acc=>if k==.free then Gi env r ((n,(env.cells.lookup n).getD 0)::acc) else Gi env r acc
theorem TJ{env:Env}(f:Str×NameKind->List (Str×Addr)->Sem (ForInStep (List (Str×Addr))))
 (d:∀n k g,f (n,k) g=if(k==NameKind.free)=true then(cellOf env n >>= λa=>pure (.yield ((n,a)::g))) else pure (.yield g)) :
 ∀(names:List (Str×NameKind))(acc:List (Str×Addr)),(∀x∈names,x.2=.free->∃c,env.cells.lookup x.1=some c)->forIn names acc f=pure (Gi env names acc)
 |[],acc,_=>by rw[List.forIn_nil];rfl
 |(n,k)::r,acc,h=>by
   rw[List.forIn_cons,d];unfold Gi;by_cases b:(k==NameKind.free)=true;rw[Al b,Al b];obtain⟨c,j⟩:=h (n,k) Bn (beq_iff_eq.mp b);have e:cellOf env n=pure c:=by unfold cellOf;rw[j]
   rw[e,j];exact TJ f d r _ λx i=>h x (B6 _ i);rw[An b,An b];exact TJ f d r _ λx i=>h x (B6 _ i)
variable {scope:Scope}{env:Env}
def WC(h:∀x∈scope.names,x.2=.free->∃c,env.cells.lookup x.1=some c):closureFor scope env=pure (Gi env scope.names []):=by
 simp only[closureFor];rw[TJ (env:=env) _ (λn k b=>by cases a:k==NameKind.free<;>simp[a]) scope.names [] h];rfl
theorem QA{env:Env}:∀{names:List (Str×NameKind)}{acc:List (Str×Addr)}{x:Str}{c:Addr},(x,c)∈Gi env names acc->(x,c)∈acc\/((x,NameKind.free)∈names/\c=(env.cells.lookup x).getD 0)
 |[],_,_,_,h=>.inl h
 |(n,k)::r,acc,x,c,h=>by
   unfold Gi at h;by_cases a:(k==NameKind.free)=true;rw[Al a] at h;rcases QA h with h|⟨h,e⟩;rcases B5.mp h with h|h;cases h;rw[beq_iff_eq.mp a];exact .inr ⟨Bn,rfl⟩;exact .inl h;exact .inr ⟨B6 _ h,e⟩;rw[An a] at h;rcases QA h with h|⟨h,e⟩;exact .inl h;exact .inr ⟨B6 _ h,e⟩
theorem TL{env:Env}:∀{names:List (Str×NameKind)}{acc:List (Str×Addr)}{p:Str×Addr},p∈acc->p∈Gi env names acc
 |[],_,_,h=>h
 |(n,k)::r,acc,p,h=>by
   unfold Gi;by_cases a:(k==NameKind.free)=true;rw[Al a];exact TL (B6 _ h);rw[An a];exact TL h
theorem O0{env:Env}:∀{names:List (Str×NameKind)}{acc:List (Str×Addr)}{x:Str},(x,NameKind.free)∈names->∃c,(x,c)∈Gi env names acc
 |(n,k)::r,acc,x,h=>by
   unfold Gi;rcases B5.mp h with h|h;cases h;rw[Al (show(NameKind.free==NameKind.free)=true by rfl)];exact⟨_,TL Bn⟩;by_cases a:(k==NameKind.free)=true;rw[Al a];exact O0 h;rw[An a];exact O0 h
theorem NV{α:Type}:∀{l:List (Str×α)}{x:Str}{c:α},(x,c)∈l->∃a,l.lookup x=some a
 |(n,d)::r,x,c,h=>by
   rw[NG]
   cases b:x==n with
   |true=>exact⟨d,rfl⟩
   |false =>
     rcases B5.mp h with h|h;cases h;simp at b;exact NV h
theorem Lc:∀(names:List (Str×NameKind))(n:Nat)(acc:List (Str×Addr)),cellsFrom n names acc=cellsFrom n names []++acc
 |[],_,_=>rfl
 |(x,k)::r,n,acc=>by
   unfold cellsFrom;by_cases a:(k==NameKind.cell)=true;rw[Al a,Al a,Lc r (n+1) ((x,n)::acc),Lc r (n+1) [(x,n)],Gf];rfl;rw[An a,An a];exact Lc r n acc
theorem QB:∀{names:List (Str×NameKind)}{n:Nat}{acc:List (Str×Addr)}{x:Str}{c:Addr},(x,c)∈cellsFrom n names acc->(x,c)∈acc\/(x,NameKind.cell)∈names
 |[],_,_,_,_,h=>.inl h
 |(y,k)::r,n,acc,x,c,h=>by
   unfold cellsFrom at h;by_cases a:(k==NameKind.cell)=true;rw[Al a] at h;rcases QB h with h|h;rcases B5.mp h with h|h;cases h;rw[beq_iff_eq.mp a];exact .inr Bn;exact .inl h;exact .inr (B6 _ h);rw[An a] at h;rcases QB h with h|h;exact .inl h;exact .inr (B6 _ h)
section
variable {M:Model} {A:Around} {E:D'} {s:Shared}
def ZX{a:List (Str×Addr)}{Q:Env->Shared->Prop}
 (b:Q (newEnv scope s.heap.objs.size env.globals (cellsFrom (s.heap.objs.size+1) scope.names a) env.qual none .none (some env) builtinsNs) {s with heap:=pushCells (s.heap.push {cls:=.type "dict",data:=.dict #[]}) scope.names}) :
 wpAny M A (newFunctionEnv scope env.globals a [] env.qual none .none (some env)) Q E s:=by
 simp only[newFunctionEnv,Option.isSome_some,if_true];refine Ad (wpAny_alloc ?_);refine Ad (wpAny_layCells _ (λname d e=>by cases c:d==NameKind.cell<;>simp[c]) _ _ _ _ ?_)
 rw[show({s with heap:=s.heap.push {cls:=.type "dict",data:=.dict #[]}}:Shared).heap.objs.size=s.heap.objs.size+1 from Heap.size_push ..]
 exact Ad (Aw (Aw b))
end
abbrev EW (X:Cx) (N:List Str) (scope:Scope) (cs:List (Str×Addr)) (C:Addr) (s:Shared) (H:Hp) (ex:List Addr):Cx where
 prog:=X.prog
 w:=X.w
 K:=X.K
 mg:=X.mg
 base:=X.base
 A:=X.A
 N:=N
 s₀:=s
 H₀:=H
 env:=compEnvC scope cs C X.env
 outer:=X.stack
 stack:=X.stack
 ex:=ex
 fn:=λx=>decide (scope.names.lookup x≠some .free)
 calm:=X.calm
 pn:=[]
 xe:=λζ ζ=>False
structure Av (psc:Scope) (PN:List Str) (scope:Scope) (N:List Str) (k:Nat) (caps:List Nat):Prop where
 kind:scope.kind=.function
 loc:∀x∈scope.names,x.2=.local->scope.names.lookup x.1=some .local
 ndn:(scope.names.map (·.1)).Nodup
 nd:N.Nodup
 len:N.length=k+caps.length
 free:∀x∈scope.names,x.2=.free->psc.names.lookup x.1=some .cell\/psc.names.lookup x.1=some .free
 cap:∀p∈(N.drop k).zip caps,PN[p.2]?=some p.1/\scope.names.lookup p.1=some .free
def FR (k:Nat) (caps:List Nat) (σ:St):St:=List.replicate k none++caps.map λj=>(σ[j]?).getD none
variable {caps:List Nat}{i:Nat}{v:V}
def WD{k:Nat}(h:(FR k caps σ)[i]?=some (some v)):∃j,k<=i/\caps[i-k]?=some j/\σ[j]?=some (some v):=by
 unfold FR at h;by_cases b:i<k;rw[Ei (by simpa using b),List.getElem?_replicate,Al b] at h;cases h;rw[ED (by simpa using b),List.length_replicate,A8] at h
 cases e:caps[i-k]? with
 |none=>rw[e] at h;cases h
 |some j =>
   rw[e] at h;have a:(σ[j]?).getD none=some v:=Bz h;refine⟨j,by lia,rfl,?_⟩
   cases q:σ[j]? with
   |none=>rw[q] at a;cases a
   |some o=>rw[q] at a;exact Bq some a
def WE{a:NameKind}(h:(relabel scope env).names.lookup x=some a):∃k,(x,k)∈scope.names/\(a=k\/(k=.free/\a=.cell)):=by
 have e:=Gq h;have f:(x,a)∈scope.names.map (λ(n,k)=>if(k==NameKind.free && env.scope.kind==.function && env.kindOf n==some .cell) then(n,NameKind.cell) else(n,k)):=e;obtain⟨⟨n,k⟩,d,b⟩:=AZ.mp f;dsimp only at b
 by_cases c:(k==NameKind.free && env.scope.kind==.function && env.kindOf n==some .cell)=true;rw[Al c] at b;cases b;simp only[Bool.and_eq_true,beq_iff_eq] at c;exact⟨k,d,.inr ⟨c.1.1,rfl⟩⟩;rw[An c] at b;cases b;exact⟨a,d,.inl rfl⟩
theorem WF{f:Str×NameKind->Str×NameKind}(b:∀n k,f (n,k)=(n,k)\/(k=.free/\f (n,k)=(n,NameKind.cell))):∀{names:List (Str×NameKind)}{x:Str},names.lookup x=some .free->(names.map f).lookup x=some .cell\/(names.map f).lookup x=some .free
 |[],_,h=>by simp at h
 |(n,k)::r,x,h=>by
   have d:=@WF f b r x;rw[NG] at h;rw[Eh]
   cases a:x==n with
   |true =>
     rw[a] at h;cases h;rcases b n .free with e|⟨_,e⟩;right;rw[e,NG,a];left;rw[e,NG,a]
   |false =>
     rw[a] at h;have c:=d h;rcases b n k with e|⟨_,e⟩;rw[e,NG,a];exact c;rw[e,NG,a];exact c
def WG(h:scope.names.lookup x=some .free):(relabel scope env).names.lookup x=some .cell\/(relabel scope env).names.lookup x=some .free:=by
 refine WF (λn k=>?_) h;by_cases a:(k==NameKind.free && env.scope.kind==.function && env.kindOf n==some .cell)=true;right;refine⟨?_,Al a⟩;simp only[Bool.and_eq_true,beq_iff_eq] at a;exact a.1.1;left;exact An a
def QC{names:List (Str×NameKind)}(h:(names.map (·.1)).Nodup){k d:NameKind}(a:(x,k)∈names)(b:(x,d)∈names):k=d:=by
 induction names with
 |nil=>simp at a
 |cons p r g =>
   rw[Eh] at h;obtain⟨e,i⟩:=Gd.mp h;rcases B5.mp a with f|a<;>rcases B5.mp b with c|b;rw[<-f] at c;exact(Prod.mk.inj c).2.symm;exact absurd (AZ.mpr ⟨_,b,by rw[<-f]⟩) e;exact absurd (AZ.mpr ⟨_,a,by rw[<-c]⟩) e;exact g i a b
variable {h1:Heap}{C:Addr}
def Un.but{fs ex:List Addr}{h f:Heap}(u:Un fs ex H H' h h1)(c:Heap.SameBut C h1 f)(g:h.objs.size<=C):Un fs ex H H' h f:=by
 have ne:∀b o,h.get? b=some o->b≠C:=λb o e=>CF (FW (Br e) g);refine⟨λb o e n d a=>(c.2 b (ne b o e)).trans (u.keep b o e n d a),λb o e n d a=>?_,u.free,λb o e a=>?_,u.tups,u.frzs,u.tbls⟩;obtain⟨i,q⟩:=u.slot b o e n d a;exact⟨i,(c.2 b (ne b o e)).trans q⟩;obtain⟨j,q⟩:=u.there b o e a;exact⟨j,(c.2 b (ne b o e)).trans q⟩
def C7.but{d:Heap}(x:C7 P w H h1)(g:Heap.SameBut C h1 d)(f:H C=none):C7 P w H d:=λb u e=>by
 refine(x b u e).stay (λc v a q=>(g.2 c ?_).trans q) (λζ q=>q) λζ ζ q=>q;rintro rfl;rcases a with rfl|a;rw[f] at e;cases e;rw[f] at a;cases a
section
variable {X:Cx} {scope:Scope} {N:List Str} {k:Nat} {caps:List Nat} {psc:Scope} {PN:List Str} {pins:B'} {σ:St} {H:Hp} {s:Shared}
abbrev D7 (X:Cx) (scope:Scope) (C:Addr):List (Str×Addr):=cellsFrom (C+1) scope.names (Gi X.env scope.names [])
def WH(I:Inv X pins σ H s)(S:Av X.env.scope X.N scope N k caps){c:Addr}(h:(x,c)∈D7 X scope C) :
 (x,c)∈cellsFrom (C+1) scope.names []\/X.env.cells.lookup x=some c:=by
 unfold D7 at h;rw[Lc] at h;rcases BI.mp h with h|h;exact .inl h;rcases QA h with h|⟨h,e⟩;simp at h;obtain⟨b,a⟩:=I.ok.has x (S.free _ h rfl);rw[a] at e;exact .inr (by rw[a];exact Bq some e.symm)
def ZY{t:List Addr}(I:Inv X pins σ H s)(S:Av X.env.scope X.N scope N k caps)(B:∀b∈t,Dj X pins H b)(ae:∀b∈t,∃o,s.heap.get? b=some o){D C:Nat}{t':Nat}(g:D=s.heap.objs.size)(J:C=D+1)
 (E:h1=pushCells ((s.heap.push {cls:=.type "list",data:=.seq #[]}).push {cls:=.type "dict",data:=.dict #[]}) scope.names) :
 Inv (EW X N scope (D7 X scope C) C s H t) [] (FR k caps σ) (upd H D (.lst [])) {s with heap:=h1,toks:=t'}:=by
 have Z:(s.heap.push {cls:=.type "list",data:=.seq #[]}).objs.size=C:=(by rw[Heap.size_push,J,g]);have aa:((s.heap.push {cls:=.type "list",data:=.seq #[]}).push {cls:=.type "dict",data:=.dict #[]}).objs.size=C+1:=(by rw[Heap.size_push,Z])
 have G:∀b o,s.heap.get? b=some o->h1.get? b=some o:=λb o e=>by
  rw[E];exact pushCells_keeps _ _ b o (Bf _ (Bf _ e))
 have ak:h1.get? D=some {cls:=.type "list",data:=.seq #[]}:=by
  rw[E,g];exact pushCells_keeps _ _ _ _ (Bf _ (Cd _ rfl))
 have af:h1.Ns C (λζ=>none):=by
  rw[E,<-Z];exact(Heap.Ns.new _ (.type "dict")).keeps (pushCells_keeps _ _)
 have ok:=cellsFrom_ok scope.names ((s.heap.push {cls:=.type "list",data:=.seq #[]}).push {cls:=.type "dict",data:=.dict #[]}) (C+1) [] ⟨λζ ζ d=>(nomatch d),List.Pairwise.nil⟩ (by rw[aa];exact AG _);rw[aa] at ok;have own:∀x c,(x,c)∈cellsFrom (C+1) scope.names []->h1.IsCell c none/\C+1<=c:=λx c h=>by rw[E];exact ok.empty x c h
 have P:∀x c,X.env.cells.lookup x=some c->c<D:=λx c e=>by
  obtain⟨v,q⟩:=I.cell x c e;rw[g];exact q.lt
 have Y:∀b∈t,b<D:=λb f=>by
  obtain⟨o,e⟩:=ae b f;rw[g];exact Br e
 have ao:H C=none:=I.hok.fresh (by rw[J,g];exact Nat.le_succ _);have split:=λx c(h:(D7 X scope C).lookup x=some c)=>WH (C:=C) I S (Gq h);have T:∀b,b≠D->H b=none->(upd H D (.lst [])) b=none:=λb f e=>by rw[AD f];exact e
 have al:∀x,scope.names.lookup x=some .free->∃c,X.env.cells.lookup x=some c/\(D7 X scope C).lookup x=some c:=λx w=>by
  have d:=Gq w;obtain⟨F,K⟩:=O0 (env:=X.env) (acc:=[]) d;obtain⟨c,U⟩:=NV (l:=D7 X scope C) (x:=x) (c:=F) (by unfold D7;rw[Lc];exact Du _ K);refine⟨c,?_,U⟩;rcases split x c U with q|q;rcases QB q with z|z;simp at z;have:=QC S.ndn d z;cases this;exact q
 have ag:(EW X N scope (D7 X scope C) C s H t).Ok:=by
  refine⟨I.ok.mod,S.kind,I.ok.glob,I.ok.blt,?above,?inj,?has,?cab,I.ok.hd,I.ok.frames,.inl rfl,?exf,λb o e=>I.bs b o e,Ek I.ok.bsz I.sz,?noex,?exfs,I.stack,I.stkFree⟩
  case above =>
   show s.heap.objs.size<=C;rw[J,g];exact Nat.le_succ _
  case inj =>
   intro x y c L M;rcases split x c L with n|n<;>rcases split y c M with r|r;exact name_of_addr ok.apart n r;have h1:@LE.le Nat _ (C+1) c:=(own x c n).2;have a:@LT.lt Nat _ c D:=P y c r;exfalso;lia;have h1:@LE.le Nat _ (C+1) c:=(own y c r).2;have a:@LT.lt Nat _ c D:=P x c n;exfalso;lia;exact I.ok.inj x y c n r
  case has =>
   intro x w;have Q:(relabel scope X.env).names.lookup x=some .cell\/(relabel scope X.env).names.lookup x=some .free:=w
   have p:∃m,(x,m)∈scope.names/\(m=.cell\/m=.free):=by
    rcases Q with q|q;obtain⟨m,h1,a⟩:=WE q;rcases a with a|⟨a,_⟩;exact⟨m,h1,.inl a.symm⟩;exact⟨m,h1,.inr a⟩;obtain⟨m,h1,a⟩:=WE q;rcases a with a|⟨_,a⟩;exact⟨m,h1,.inr a.symm⟩;cases a
   obtain⟨m,d,p|p⟩:=p;subst p
   have q:=PySem.W.cellsFrom_some scope.names (C+1) (Gi X.env scope.names []) (x:=x) (.inl (by
    obtain⟨k2,A⟩:=NV d
    rw[A,QC S.ndn (Gq A) d]))
   exact Option.isSome_iff_exists.mp q;subst p;obtain⟨F,K⟩:=O0 (env:=X.env) (acc:=[]) d;exact NV (c:=F) (by show(x,F)∈D7 X scope C;unfold D7;rw[Lc];exact Du _ K)
  case cab =>
   intro x c w e;have Q:decide (scope.names.lookup x≠some .free)=true:=w;have ah:=Bm Q;show s.heap.objs.size<=c;have e':(D7 X scope C).lookup x=some c:=e;have d:=Gq e';unfold D7 at d;rw[Lc] at d;rcases BI.mp d with z|z;have h1:@LE.le Nat _ (C+1) c:=(own x c z).2;have a:@LE.le Nat _ s.heap.objs.size c:=(by lia);exact a;rcases QA z with z|⟨z,_⟩;simp at z;obtain⟨k2,A⟩:=NV z;exact absurd (by rw[A,QC S.ndn (Gq A) z]) ah
  case exf =>
   intro b f;refine⟨?_,λx c e z=>?_⟩;have h1:@LT.lt Nat _ b D:=Y b f;exact CF (show @LT.lt Nat _ b C by lia);rcases split x c e with q|q;have h1:@LE.le Nat _ (C+1) c:=(own x c q).2;have a:@LT.lt Nat _ b D:=Y b f;have V:@Eq Nat c b:=z;lia;exact(B b f).2.2.2.2.1 x c q z
  case noex =>
   intro b o e f;rcases(B b f).2.2.2.1 with q|q;exact I.ok.noex b o e q;exact absurd (FW (Br e) (Ek I.ok.bsz q)) (Hs _)
  case exfs =>
   intro b f z;have V:b∈E9 X.stack:=z;rcases B5.mp (I.stkSub b V) with q|q;exact(B b f).2.1 q;exact(B b f).2.2.1 q
 refine⟨ag,rfl,I.bare,Un.laid G (by rw[g];exact AG _) (I.hok.fresh (by rw[g];exact AG _)),⟨_,af,?loc⟩,?cell,T _ (show @Ne Nat C D by lia) ao,?freeC,λaq O=>absurd O (by simp),?hok,?len⟩
 case loc =>
  intro i x v L M e3;obtain⟨j,hi,hj,hv⟩:=WD M
  have hz:(x,j)∈(N.drop k).zip caps:=by
   refine List.mem_iff_getElem?.mpr ⟨i-k,?_⟩;rw[List.getElem?_zip_eq_some];refine⟨?_,hj⟩;rw[List.getElem?_drop,show k+(i-k)=i by lia];exact L
  obtain⟨O,R⟩:=S.cap (x,j) hz;have p:=S.free (x,.free) (Gq R) rfl;obtain⟨ar,hn,hl⟩:=I.loc;obtain⟨u,ab,l⟩:=hl j x v O hv (by rcases p with q|q;exact .inr (.inl q);exact .inr (.inr q));refine⟨u,ab,?_⟩;obtain⟨c,ai,aj⟩:=al x R
  have an:s.heap.IsCell c (some u):=by
   rcases l with⟨q,_⟩|⟨_,c',n,r⟩;have W:X.env.scope.names.lookup x=some .local:=q;rcases p with z|z;rw[W] at z;cases z;rw[W] at z;cases z;rw[ai] at n;cases n;exact r
  exact .inr ⟨WG R,c,aj,an.keeps G⟩
 case cell =>
  intro x c e;rcases split x c e with q|q;exact⟨_,(own x c q).1⟩;obtain⟨v,z⟩:=I.cell x c q;exact⟨v,z.keeps G⟩
 case freeC =>
  intro x c e;rcases split x c e with q|q;have h1:@LE.le Nat _ (C+1) c:=(own x c q).2;have a:@LE.le Nat _ s.heap.objs.size c:=(by lia);exact T c (show @Ne Nat c D by lia) (I.hok.fresh a);exact T c (CF (P x c q)) (I.freeC x c q)
 case hok =>
  exact I.hok.laid G (by rw[g];exact AG _) ⟨Di _,[],0,.nil,ak⟩
 case len =>
  show(FR k caps σ).length=N.length;unfold FR;rw[AS,List.length_replicate,Ak,S.len]
def ZZ{a:List Addr}(I:Inv X pins σ H s)(S:Av X.env.scope X.N scope N k caps){p:B'}{σ':St}{Z:Shared}(P:∀x c,X.env.cells.lookup x=some c->c∉a)(T:s.heap.objs.size<=C)
 (J:Inv (EW X N scope (D7 X scope C) C s H a) p σ' H' Z):Inv (EW X N scope (D7 X scope C) C s H a) p (FR k caps σ) H' Z:=by
 obtain⟨m,t,_⟩:=id J.loc;refine⟨J.ok,J.os,J.bare,J.base,⟨m,t,λi x v w y U=>?_⟩,J.cell,J.free,J.freeC,J.pin,J.hok,?_⟩;obtain⟨j,V,A,B⟩:=WD y
 have D:(x,j)∈(N.drop k).zip caps:=by
  refine List.mem_iff_getElem?.mpr ⟨i-k,?_⟩;rw[List.getElem?_zip_eq_some];refine⟨?_,A⟩;rw[List.getElem?_drop,show k+(i-k)=i by lia];exact w
 obtain⟨E,b⟩:=S.cap (x,j) D;have e:=S.free (x,.free) (Gq b) rfl;obtain⟨W,aa,F⟩:=I.loc;obtain⟨u,r,l⟩:=F j x v E B (by rcases e with q|q;exact .inr (.inl q);exact .inr (.inr q));refine⟨u,r,?_⟩
 have R:∃c,X.env.cells.lookup x=some c/\s.heap.IsCell c (some u):=by
  rcases l with⟨q,_⟩|⟨_,f,G,K⟩;have g:X.env.scope.names.lookup x=some .local:=q;rcases e with z|z;rw[g] at z;cases z;rw[g] at z;cases z;exact⟨f,G,K⟩
 obtain⟨c,d,o,L,hd⟩:=R
 have Q:(D7 X scope C).lookup x=some c:=by
  have h:=Gq b;obtain⟨M,O⟩:=O0 (env:=X.env) (acc:=[]) h;obtain⟨f,n⟩:=NV (l:=D7 X scope C) (x:=x) (c:=M) (by unfold D7;rw[Lc];exact Du _ O);rcases WH (C:=C) I S (Gq n) with q|q;rcases QB q with z|z;simp at z;have:=QC S.ndn h z;cases this;rw[d] at q;cases q;exact n
 obtain⟨Y,q⟩:=J.base.any L (I.freeC x c d) (P x c d);exact .inr ⟨WG b,c,Q,_,q,hd⟩;show(FR k caps σ).length=N.length;unfold FR;rw[AS,List.length_replicate,Ak,S.len]
end
def PF (X:Cx) (f:List Expr) (t:TT):Prop:=
 ∀(pins:B')(s:Shared)(σ:St)(H:Hp)(Q:Bool->Hp->Prop),Inv X pins σ H s->t σ H Q ->
  wpAny (model X.prog X.w) X.A (forIn f true λc r=>if r=true then do let ok <-isTrue c X.env (eval c X.env);pure (ForInStep.yield ok) else pure (ForInStep.yield r)) (TP X pins σ Q) X.xe s
def HM:TT:=λζ H Q=>Q true H
def Ja:PF X [] HM:=λζ ζ ζ H ζ I h=>wpAny_tests_nil ⟨H,I,h⟩
def O1{c:Expr}{t:TT}(h:PT X c t):PF X [c] t:=λpins s σ H Q I a=>wpAny_tests_one (h pins s σ H Q I a)
variable {l j:Expr}{f:List Expr}{L:Pos}
def Z0{prog:Program}{R:Result->Shared->Prop}{target:Expr}{it acc:Value}(I:Nat->Shared->Prop)
 (turn:∀n s,I n s->wpAny (model prog w) A (pyNext it) (λr b=>match r with
  |none=>R (.ok .next) b
  |some v=>wpAny (model prog w) A (letOwnedTupleGo target it v) (λζ b=>wpAny (model prog w) A (assign target env v) (λζ g =>
   wpAny (model prog w) A (forIn f true λc r=>if r=true then do let ok <-isTrue c env (eval c env);pure (ForInStep.yield ok) else pure (ForInStep.yield r)) (λok e =>
    if ok=true then wpAny (model prog w) A (eval l env) (λx i =>
     wpAny (model prog w) A (call (.builtin "list.append") [acc,x]) (λζ k=>∃m,m<n/\I m k) (λζ ζ=>False) i) (λζ ζ=>False) e
    else ∃m,m<n/\I m e) (λζ ζ=>False) g) (λζ ζ=>False) b) (λζ ζ=>False) b) (λζ ζ=>False) s)
 (n:Nat) (h:I n s) :
 codeAny (model prog w) A (.compLoop (.ListComp l [⟨target,j,f,0⟩] scope L) 0 it acc env) R s:=by
 refine codeAny_loop rfl I (λn s p=>?_) n h
 show wpAny _ A ((compTurn (.ListComp l [⟨target,j,f,0⟩] scope L) 0 it acc env).onRaise (λx=>do noteFrame x env;theTreesLotGoes x)) _ _ s
 refine wpAny_noted ?_;rw[compTurn_list];refine Ad (wpAny_standAt (Ad (FY (turn n s p) (λr b d=>?_) λζ ζ a=>a.elim)))
 cases r with
 |none=>exact Aw d
 |some v =>
   refine Ad (FY d (λζ b d=>?_) λζ ζ a=>a.elim);refine Ad (FY d (λζ g q=>Ad (FY q (λok e o=>?_) λζ ζ a=>a.elim)) λζ ζ a=>a.elim)
   cases ok with
   |false=>exact Aw ⟨rfl,o⟩
   |true =>
     exact Ad (Ad (FY o (λx i t=>Ad (FY t (λζ k u=>Aw (Aw ⟨rfl,u⟩)) λζ ζ a=>a.elim)) λζ ζ a=>a.elim))
def JI (J:It) (k:Nat) (caps:List Nat) (g:TG) (tc:TT) (te:TE) (σ:St) (Y:Hp) (Q:Addr->Hp->Prop):Prop:=∀D,Y D=none->∃W:Nat->Nat->List V->Hp->Prop,(∃m,W 0 m [] (upd Y D (.lst [])))/\∀i m ys H2,W i m ys H2 ->
 (J.stop i H2/\Q D H2)\/(J.go i H2/\∀x H3,J.yld i H2 x H3->g x (FR k caps σ) H3 λσ4 H4=>tc σ4 H4 λb H5 =>
  if b=true then te σ4 H5 λy H6=>H6 D=some (.lst ys)/\ys.length<sizeLine/\∃m',m'<m/\W (i+1) m' (ys++[y]) (upd H6 D (.lst (ys++[y]))) else ∃m',m'<m/\W (i+1) m' ys H5)
def Ld (k:Nat) (caps:List Nat) (wi:TI) (g:TG) (tc:TT) (te:TE):TE:=λσ H Q=>wi σ H λJ Y=>JI J k caps g tc te σ Y λD H2=>Q (.ref D) H2
variable {g:TG}{tc:TT}{te:TE}
def NW{J:It}{k:Nat}{Q:Addr->Hp->Prop}(n:Nat)(Pv:Addr->Nat->List V->Hp->Prop)(l:∀D,Y D=none->Pv D 0 [] (upd Y D (.lst [])))
 (go:∀D i ys a,Pv D i ys a->i<n->J.go i a) (stop:∀D ys a,Pv D n ys a->J.stop n a)
 (o:∀D i ys a x d(R:VK)(j:Hp->Prop),Y D=none->i<n->Pv D i ys a->J.yld i a x d->(∀y e,e D=some (.lst ys)->ys.length<sizeLine->Pv D (i+1) (ys++[y]) (upd e D (.lst (ys++[y])))->R y e)->(∀c,Pv D (i+1) ys c->j c)->g x (FR k caps σ) d λσ4 q=>tc σ4 q λb c=>if b=true then te σ4 c R else j c)
 (hd:∀D ys a,Y D=none->Pv D n ys a->Q D a):JI J k caps g tc te σ Y Q:=by
 intro D h;refine⟨λi m ys a=>m=n-i/\i<=n/\Pv D i ys a,⟨n,rfl,Di _,l D h⟩,?_⟩;rintro i m ys a ⟨rfl,w,p⟩;by_cases f:i<n;exact .inr ⟨go D i ys a p f,λx d y=>o D i ys a x d _ _ h f p y (λv e r s t=>⟨r,s,n-(i+1),by lia,rfl,f,t⟩) λc u=>⟨n-(i+1),by lia,rfl,f,u⟩⟩
 . obtain rfl:i=n:=by lia
   exact .inl ⟨stop D ys a p,hd D ys a h p⟩
variable {tg:Expr}{N:List Str}
def WI{k:Nat}{E:D'}{Q:VK}
 {it:Addr} {d:List Addr} {G:Nat->Heap->Prop} {J:It} {O:Value->Addr->Result->Shared->Prop} (hc:X.calm=true) (S:Av X.env.scope X.N scope N k caps) (I:Inv X pins σ H s)
 (T:Gw X.prog X.w X.K tg J d it G) (st:G 0 s.heap) (p:∀b∈d,Dj X pins H b)
 (hg:∀K C s H ex,PG (EW X N scope K C s H ex) tg g) (ht:∀K C s H ex,PF (EW X N scope K C s H ex) f tc) (he:∀K C s H ex,PE (EW X N scope K C s H ex) l te)
 (q:JI J k caps g tc te σ H λD H2=>Q (.ref D) H2)
 (an:∀D C H' Z m,C≠X.env.locals->(∀x c,X.env.cells.lookup x=some c->c≠C)->Z.heap.Ns C m->(∀h',Heap.SameBut C Z.heap h'->Inv X pins σ H' {Z with heap:=h'})->H' C=none->s.heap.objs.size<=C->Q (.ref D) H'->O (.ref D) C (.ok .next) Z) :
 wpAny (model X.prog X.w) X.A (newList []) (λacc s₃=>wpAny (model X.prog X.w) X.A (newFunctionEnv scope X.env.globals (Gi X.env scope.names []) [] X.env.qual none .none (some X.env)) (λai s₄ =>
  codeAny (model X.prog X.w) X.A (.compStart (.ListComp l [⟨tg,j,f,0⟩] scope L) 0 (.ref it) acc {ai with scope:=relabel scope X.env}) (O acc ai.locals) s₄) E s₃) E s:=by
 refine wpAny_newObj_type (ZX ?_);generalize h:s.heap.objs.size=D;have a0:(s.heap.push {cls:=.type "list",dict:=none,data:=.seq ([]:List Value).toArray}).objs.size=D+1:=(by rw[Heap.size_push,h]);dsimp only;rw[a0];have aa:∀b∈d,∃o,s.heap.get? b=some o:=λb a=>let ⟨o,e,_⟩:=T.obj 0 _ st b a;⟨o,e⟩;have ao:H D=none:=I.hok.fresh (by rw[h];exact AG _);have J0:=ZY (t':=s.toks) I S p aa (D:=D) (C:=D+1) h.symm rfl rfl;have aq:∀x c,X.env.cells.lookup x=some c->c∉d:=λx c e a=>(p c a).2.2.2.2.1 x c e rfl
 have ab:∀{F:B'}{H':Hp},(∀b∈d,H' b=none)->F=[]->∀b∈d,Dj (EW X N scope (D7 X scope (D+1)) (D+1) s H d) F H' b:=λ{F H'}R U b a=>by
  obtain⟨o,e⟩:=aa b a;have ar:@LT.lt Nat _ b D:=by rw[<-h];exact Br e
  subst U;refine⟨R b a,?_,λz=>?_,.inl a,λx c e=>(J0.ok.exf b a).2 x c e,λa1 U=>absurd U (by simp)⟩;show @Ne Nat b (D+1);lia;have Y:b∈E9 X.stack:=z;rcases B5.mp (I.stkSub b Y) with w|w;exact(p b a).2.1 w;exact(p b a).2.2.1 w
 obtain⟨W,⟨m0,w0⟩,turn⟩:=q D ao;have af:G 0 (pushCells ((s.heap.push {cls:=.type "list",data:=.seq #[]}).push {cls:=.type "dict",data:=.dict #[]}) scope.names):=T.keep 0 _ _ st λb a o e=>pushCells_keeps _ _ b o (Bf _ (Bf _ e))
 have au:∀b∈d,(upd H D (.lst [])) b=none:=λb a=>by
  obtain⟨o,e⟩:=aa b a;have ar:@LT.lt Nat _ b D:=by rw[<-h];exact Br e
  rw[AD (show @Ne Nat b D by lia)];exact(p b a).1
 have av:∀{H':Hp}{Z:Shared}{σ':St}{F:B'},Inv (EW X N scope (D7 X scope (D+1)) (D+1) s H d) F σ' H' Z->Q (.ref D) H'->O (.ref D) (D+1) (.ok .next) Z:=λ{H' Z σ' F}J q=>by
  obtain⟨m,R,_⟩:=id J.loc;refine an D (D+1) H' Z m (λz=>?_) (λx c e z=>?_) R (λh' hs=>?_) J.free (by rw[h];exact Nat.le_succ _) q;have h1:@LT.lt Nat _ X.env.locals D:=by rw[<-h];exact I.lt
  have Y:@Eq Nat (D+1) X.env.locals:=z;lia;obtain⟨v,y⟩:=I.cell x c e;have h1:@LT.lt Nat _ c D:=by rw[<-h];exact y.lt
  have Y:@Eq Nat c (D+1):=z;lia;refine I.call' (ch:=d) J.os (J.base.but hs (by rw[h];exact Nat.le_succ _)) (J.hok.but hs J.free) J.bare λb a=>?_;exact⟨(p b a).2.2.2.1,(p b a).2.1,(p b a).2.2.2.2.1,(p b a).2.2.2.2.2⟩
 have aj:codeAny (model X.prog X.w) X.A (.compLoop (.ListComp l [⟨tg,j,f,0⟩] scope L) 0 (.ref it) (.ref D) (compEnvC scope (D7 X scope (D+1)) (D+1) X.env)) (O (.ref D) (D+1))
  {s with heap:=pushCells ((s.heap.push {cls:=.type "list",data:=.seq #[]}).push {cls:=.type "dict",data:=.dict #[]}) scope.names}:=by
  refine Z0 (λn Z=>∃i r H',Inv (EW X N scope (D7 X scope (D+1)) (D+1) s H d) [] (FR k caps σ) H' Z/\G i Z.heap/\(∀b∈d,H' b=none)/\W i n r H') ?_ m0 ⟨0,[],_,J0,af,au,w0⟩;rintro n s3 ⟨i,r,H3,I3,ag,ah,w3⟩;rcases turn i n r H3 w3 with⟨stop,qn⟩|⟨go,step⟩
  . refine AV (T.done (EW X N scope (D7 X scope (D+1)) (D+1) s H d) rfl rfl rfl hc i [] s3 _ H3 _ I3 (ab ah rfl) ag stop) λak s4⟨hr,I4⟩=>?_
    subst hr;exact av I4 qn
  refine AV (T.item (EW X N scope (D7 X scope (D+1)) (D+1) s H d) rfl rfl rfl hc i [] s3 _ H3 _ I3 (ab ah rfl) ag go) λak s4⟨al,hr,h4⟩=>?_;subst hr;refine AV h4 λ_ s5⟨x,H5,I5,r5,y5,ae,aw⟩=>?_;have ax:=I5.pinned (ab aw rfl) (T.obj _ _ ae)
  have again:∀{σ7:St}{u:Hp}{A:Shared}{t:Nat}{zs:List V},Inv (EW X N scope (D7 X scope (D+1)) (D+1) s H d) ([]++OH d s5.heap) σ7 u A->t<n->W (i+1) t zs u ->
   ∃m,m<n/\∃i r H',Inv (EW X N scope (D7 X scope (D+1)) (D+1) s H d) [] (FR k caps σ) H' A/\G i A.heap/\(∀b∈d,H' b=none)/\W i m r H':=λ{σ7 u A t zs}B M w7=>by
   refine⟨t,M,i+1,zs,u,ZZ I S aq (by rw[h];exact Nat.le_succ _) B.unpinned,T.keep _ _ _ ae λb a o e=>(B.pin (b,o) (Du _ (Du _ (Qs a e)))).1,λb a=>?_,w7⟩;obtain⟨o,e,a2⟩:=T.obj _ _ ae b a;exact(B.pin (b,o) (Du _ (Du _ (Qs a e)))).2.1
  refine AV (hg _ _ _ _ _ _ s5 _ H5 x al _ ax r5 (step x H5 y5)) λ_ s6⟨σ6,H6,I6,q6⟩=>?_;refine AV (ht _ _ _ _ _ _ s6 σ6 H6 _ I6 q6) λb A⟨u,B,P⟩=>?_
  cases b with
  |false =>
    rw[An Ct] at P ⊢;obtain⟨t,M,w7⟩:=P;exact again B M w7
  |true =>
    rw[Al rfl] at P ⊢;refine AV (he _ _ _ _ _ _ A σ6 u _ B P) λy s8⟨yv,H8,I8,r8,ay,az,t,M,w8⟩=>?_;refine AV (Wq (X:=EW X N scope (D7 X scope (D+1)) (D+1) s H d) _ s8 σ6 H8 (.ref D) [yv] (.ref D) [y] (λζ H9=>W (i+1) t (r++[yv]) H9) I8 rfl (.cons r8 .nil) ⟨r,ay,az,w8⟩) λ_ s9⟨_,H9,I9,_,w9⟩=>?_;exact again I9 M w9
 exact codeAny_compStart_list aj (T.self _ 0 _ _ _ af aj)
def Hg{k:Nat}{b:TI}(c:X.calm=true)(S:Av X.env.scope X.N scope N k caps)(d:PI X tg j b)
 (i:∀a C s H ex,PG (EW X N scope a C s H ex) tg g) (n:∀a C s H ex,PF (EW X N scope a C s H ex) f tc) (o:∀a C s H ex,PE (EW X N scope a C s H ex) l te)
 (p:∀x,foldedSetIterable j X.env x=pure x:=by intro _;rfl):PE X (.ListComp l [⟨tg,j,f,0⟩] scope L) (Ld k caps b g tc te):=by
 intro pins s σ H Q I h;have E:closureFor scope X.env=pure (Gi X.env scope.names []):=WC λx r F=>I.ok.has x.1 (S.free x r F);rw[eval_ListComp];refine wpAny_comprehension_free (use:=none) rfl p E S.kind S.loc (AV (d pins s σ H _ I h) λv M h1=>AV h1 λV O t=>?_);obtain⟨it,P,R,J,U,e,u,T,G,w,q⟩:=t;subst e;refine WI (Q:=Q) c S u T G w i n o q ?_;intro D C H' Z m _ _ y z _ _ A;exact⟨m,y,λB K=>⟨.ref D,H',z B K,rfl,A⟩⟩
def TM{E:Pos}{k:Nat}{t:Pos}{u:TI}(F:X.N.Nodup)(aa:X.N[i]?=some x)(n:Loc X.env.scope x)
 (G:X.calm=true) (S:Av X.env.scope X.N scope N k caps) (J:PI X tg j u)
 (K:∀c C s H ex,PG (EW X N scope c C s H ex) tg g) (M:∀c C s H ex,PF (EW X N scope c C s H ex) f tc) (O:∀c C s H ex,PE (EW X N scope c C s H ex) l te)
 (ab:swapsWith (.ListComp l [⟨tg,j,f,0⟩] scope L) (some (.Name x t)) E.line X.env=pure true:=by rfl)
 (P:∀x,foldedSetIterable j X.env x=pure x:=by intro _;rfl) (ae:X.fn x=true\/X.env.scope.names.lookup x=some .local:=by first|exact .inl rfl|exact .inr rfl|assumption) :
 PS X (.Assign [.Name x t] (.ListComp l [⟨tg,j,f,0⟩] scope L) E) (Ju (Ld k caps u g tc te) (IW i)):=by
 intro pins s σ H D I h;have af:closureFor scope X.env=pure (Gi X.env scope.names []):=WC λx n ag=>I.ok.has x.1 (S.free x n ag);rw[exec_Assign_Name_used _ _ _ _ ab];refine Ad (wpAny_standAt (Ad ?_))
 show wpAny _ _ (do let _ <-comprehension (.ListComp l [⟨tg,j,f,0⟩] scope L) scope X.env _ (newList []) false (eval j X.env) (some (assign (.Name x t) X.env))) _ _ s
 refine Ad (FY (wpAny_comprehension_free (use:=some (assign (.Name x t) X.env)) (Q:=λζ Z=>SP X pins D .next Z) rfl P af S.kind S.loc
  (AV (J pins s σ H _ I h) λv s1 h1=>AV h1 λau s2 R=>?_)) (λζ Z o=>Aw (Aw o)) λζ ζ e=>e)
 obtain⟨it,fp,tn,aq,H2,e,r,T,ah,U,q⟩:=R;subst e;refine WI (Q:=λx Y=>IW i x σ Y D.nx) G S r T ah U K M O q ?_;intro w C H' Z m y A W hI ai B o;have I3:=hI Z.heap (.refl ..);have aj:Inv X pins σ H' Z:=I3;refine wpAny_assign_Name (V2 aj F aa n (show RelV (V.ref w) (.ref w) from rfl) (λak I4⟨a,al,d⟩=>?_) ae)
 have an:C≠a:=by
  rcases d with d|d;rw[d];exact y;exact Ne.symm (A x a d)
 refine⟨m,W.sameBut al an,λh' ao=>?_⟩;refine⟨_,H',?_,o⟩
 exact I4.turned (t':=ak.toks) (λb ar hb e=>(ao.2 b hb).trans e) ai y (.inr (Ek r.sz B)) A λp hp z=>by
  have:=Br (r.pin p hp).1;rw[z] at this;exact absurd (FW this B) (Hs _)
def BB (P:Program) (w:World) (K:Ah) (mg:Str->Option Value) (base:Heap) (x:Str) (k:Nat) (ps:List Str) (sp:Sp):Prop:=
 ∃f fd,EF P w K mg base I7 k f fd ps sp/\mg x=some (.ref f)/\PySem.W.keepIn K (.ref f)=true/\Binds K fd ps []
section
variable {X:Cx} {x:Str} {k:Nat} {ps:List Str} {sp:Sp} {e:Expr} {es:List Expr} {t:TA} {p L:Pos}
def A5(C:BB X.prog X.w X.K X.mg X.base x k ps sp)(a:PA X (e::es) t)(b:B2 k X.A:=by exact B2.mono (by assumption) (by decide))(c:Gl X x:=by rfl)(j:(x==("__debug__" : Str))=false:=by decide)
 (d:starEach (e::es) X.env=(false,eval e X.env)::starEach es X.env:=by rfl) (l:(backTo L (starEach es X.env)).any (·.1)=false:=by rfl):PE X (.Call (.Name x p) (e::es) [] L) (HD sp [] E0 t):=by
 obtain⟨f,fd,F,g,h,i⟩:=C;exact Jy F b c g h i .nil OZ a j d l
end
def G1(n:String)(a:Gl X x)(b:X.mg x=none)(hv:bootBuiltins x=some (.type n))(c:x ≠ "__name__" :=by decide)(hd:(x==("__debug__" : Str))=false:=by decide):PE X (.Name x L) (tC (.ty n)):=Js (v:=.ty n) a b hv rfl c hd
def Hh{t u:TS}{D:Ends}{σ:L2.St}(P:L2.St->Hp->Prop)(a:∀σ' H',P σ' H'->u D σ' H')(b:∀N:L2.St->Hp->Prop,(∀σ' H',P σ' H'->N σ' H')->t {D with nx:=N} σ H):LS t u D σ H:=b (u D) a
def Ac.upd{H H':Hp}{D:Addr}{o:HO}(h:Ac H H')(a:H D=none):Ac H (upd H' D o):=λb u e=>by
 rw[AD (AX e a)];exact h b u e
def Ac.seqT{K:Ah}(e:Ac H H')(h:Ar K H a xs):Ar K H' a xs:=by
 rcases h with(h|⟨o,h⟩)|h;exact .inl (.inl (e _ _ h));exact .inl (.inr ⟨o,e _ _ h⟩);exact .inr h
def TN{K:Ah}{k:Nat}{Q:Addr->Hp->Prop}(f:V->V)(s:xs.length<=sizeLine)(l:Ae K Y a xs)
 (r:∀(i:Nat)(x:V)(b:Hp)(D:Addr)(R:VK),xs[i]?=some x->Ac Y b->Y D=none->(∀h,Ac b h->R (f x) h)->g x (FR k caps σ) b λσ4 m=>te σ4 m R)
 (hd:∀(b:Hp)(D:Addr),Ac Y b->Y D=none->b D=some (.lst (xs.map f))->Q D b):JI (NP K a) k caps g HM te σ Y Q:=by
 refine NW xs.length (λD i c b=>c=(xs.take i).map f/\Ac Y b/\b D=some (.lst c)) (λD d=>⟨rfl,(Ac.refl _).upd d,Aa⟩) (λD i c b p n=>⟨xs,xs[i],p.2.1.seq l,by simp[n]⟩) (λD c b p=>⟨xs,p.2.1.seq l,AG _⟩) (λD i c b x h R t d n p y k u=>?_) λD c b d p=>?_;obtain⟨rfl,y⟩:=y;obtain⟨rfl,e,j⟩:=p;have o:=y xs (e.seq l);refine r i x h D _ o e d λm q=>k _ _ (q _ _ j) (by rw[Ak,FP];lia) ⟨?_,(e.trans q).upd d,Aa⟩;rw[D0,o,Bk];rfl;obtain⟨rfl,e,j⟩:=p;rw[Et] at j;exact hd b D e d j
def FF (ns:List Int) (k:Int):Int:=(ns[k.toNat]?).getD 0
def TQ{u:TS}{D:Ends}(h:u D (σ.set i (some v)) H):LS (Ju (tC v) (IW i)) u D σ H:=h
def TR{k:Int}(a:0<=k)(h1:k<n):Hd n k=some k.toNat:=by
 unfold Hd;rw[Al a,Al h1]
def Z1(xs:List V)(n:Nat):Em xs none (some (n:Int))=xs.take n:=by
 unfold Em;rw[HT.sIx_none,HT.sIx_nat,List.drop_zero,Nat.sub_zero];by_cases h:n<=xs.length;rw[Nat.min_eq_left h];rw[Nat.min_eq_right (by lia),List.take_of_length_le (AG _),List.take_of_length_le (by lia)]
def TU(xs:List V)(n:Nat):Em xs (some (n:Int)) none=xs.drop n:=by
 unfold Em;rw[HT.sIx_none,HT.sIx_nat];by_cases h:n<=xs.length;rw[Nat.min_eq_left h,List.take_of_length_le (by rw[Gp];exact AG _)];rw[Nat.min_eq_right (by lia),List.drop_of_length_le (AG _),List.drop_of_length_le (by lia)]
 simp
def Z2(xs:List V)(a b:Nat)(e:a<=b):Em xs (some (a:Int)) (some (b:Int))=(xs.drop a).take (b-a):=by
 unfold Em;rw[HT.sIx_nat,HT.sIx_nat];by_cases c:a<=xs.length;rw[Nat.min_eq_left c];by_cases d:b<=xs.length;rw[Nat.min_eq_left d];rw[Nat.min_eq_right (show xs.length<=b by lia),List.take_of_length_le (by rw[Gp];exact AG _),List.take_of_length_le (by rw[Gp];lia)];rw[Nat.min_eq_right (show xs.length<=a by lia),List.drop_of_length_le (AG _),List.drop_of_length_le (show xs.length<=a by lia)]
 simp
def Bb{p:Addr}{o:HO}(h:H p=none):Ac H (upd H p o):=(Ac.refl H).upd h
def AR{σ:L2.St}{N:L2.St->Hp->Prop}(h:N (σ.set i (some v)) H):IW i v σ H N:=h
section
variable {X:Cx}
def Ex:K8 X "list.append" Wp:=Wq
def O3:K8 X "list.extend" Wr:=ZK
def Z3:K8 X "list.clear" HG:=ZL
end
section
variable {X:Cx}
def JJ (neg:Bool):R2:=λx y H Q=>∃a o,y=.ref a/\Dz H a x o/\Q (.bl (o.isSome != neg)) H
def WJ(b:X.A.units+1<cLine):Dv X (compareOp .In) (JJ false):=by
 intro pins s σ H x y v u Q I c d h;obtain⟨a,o,rfl,g,q⟩:=h;cases d;refine Tx b I g c λZ e=>⟨.bl _,H,e,?_,q⟩;cases o<;>rfl
def Z4:V->V->V->Hp->(Hp->Prop)->Prop:=λo i v H Q=>∃a H',o=.ref a/\HJ H a i v H'/\Q H'
def Z5(b:X.A.units+1<cLine):Jt X Z4:=by
 intro pins s σ H o i v j k u Q I c d e h;obtain⟨a,H',rfl,g,q⟩:=h;cases c;exact ZN b I g d e λZ f=>⟨H',f,q⟩
def WK{a:Expr}{b:TE}(c:PE X a b)(d:∀whole,isTrue a X.env whole=(do let v <-whole;standAt a.pos;holding [v] (truthy v)):=by intro _;rfl) :
 PT X a (λσ H Q=>b σ H λx Y=>∃p xs,x=.ref p/\Ae X.K Y p xs/\Q (!xs.isEmpty) Y):=by
 intro pins s σ H Q I e;refine isTrue_plain (AV (c pins s σ H _ I e) λv f⟨x,Y,g,h,i⟩=>?_) (d _);obtain⟨p,xs,rfl,j,q⟩:=i;exact Mc pins f σ Y _ v Q g h ⟨_,Or.inl ⟨xs,j,rfl⟩,q⟩
end
section
variable {prog:Program} {w:World} {A:Around} {R:Result->Shared->Prop} {It:Addr} {fp u:List Addr} {G:Array GenState->Array GenState->Prop} {n:Nat} {Pn:Nat->Value->Prop} {Sn:Nat->Shared->Prop}
end
section
variable {prog:Program} {w:World} {A:Around} {E:D'} {s:Shared}
end
section
variable {X:Cx}
end
open PySem.SeqAt
inductive Dt where
 |non|bl (b:Bool)|int (i:Int)|str (x:Str)|tup (l:List Dt)|lst (l:List Dt)
mutual
inductive Ap (K:Ah) (H:Hp):V->Dt->Prop where
 | non:Ap K H .non .non
 | bl (b:Bool):Ap K H (.bl b) (.bl b)
 | int (i:Int):Ap K H (.int i) (.int i)
 | str (x:Str):Ap K H (.str x) (.str x)
 | tup {a:Addr} {vs:List V} {ds:List Dt} (h:Ar K H a vs) (t:Aj K H vs ds):Ap K H (.ref a) (.tup ds)
 | lst {a:Addr} {vs:List V} {ds:List Dt} (h:Ae K H a vs) (t:Aj K H vs ds):Ap K H (.ref a) (.lst ds)
inductive Aj (K:Ah) (H:Hp):List V->List Dt->Prop where
 | nil:Aj K H [] []
 | cons {v:V} {d:Dt} {vs:List V} {ds:List Dt} (h:Ap K H v d) (t:Aj K H vs ds):Aj K H (v :: vs) (d :: ds)
end
mutual
theorem Ap.same {K:Ah}{H H':Hp} (e:Ac H H') {v:V} {d:Dt} (h:Ap K H v d):Ap K H' v d:=by
 cases h with
 | non=>exact .non
 | bl b=>exact .bl b
 | int i=>exact .int i
 | str x=>exact .str x
 | tup h t=>exact .tup (e.seqT h) (Aj.same e t)
 | lst h t=>exact .lst (e.seq h) (Aj.same e t)
theorem Aj.same {K:Ah}{H H':Hp} (e:Ac H H') {vs:List V} {a:List Dt} (h:Aj K H vs a):Aj K H' vs a:=by
 cases h with
 | nil=>exact .nil
 | cons h t=>exact .cons (Ap.same e h) (Aj.same e t)
end
theorem Aj.length{K:Ah}{H:Hp}:∀{vs:List V}{a:List Dt},Aj K H vs a->vs.length=a.length
 |_,_,.nil=>rfl
 |_,_,.cons _ t=>Bq (·+1) t.length
theorem Aj.get{K:Ah}{H:Hp}:∀{vs:List V}{a:List Dt}{i:Nat}{v:V},Aj K H vs a->vs[i]?=some v->∃d,a[i]?=some d/\Ap K H v d
 |_,_,_,_,.nil,e=>by simp at e
 |_,_,0,_,.cons h _,e=>by simp at e;subst e;exact⟨_,rfl,h⟩
 |_,_,i+1,v,.cons _ t,e=>by
   obtain⟨d,h1,b⟩:=Aj.get (i:=i) (v:=v) t (by simpa using e);exact⟨d,by simpa using h1,b⟩
theorem Aj.get'{K:Ah}{H:Hp}:∀{vs:List V}{a:List Dt}{i:Nat}{d:Dt},Aj K H vs a->a[i]?=some d->∃v,vs[i]?=some v/\Ap K H v d
 |_,_,_,_,.nil,e=>by simp at e
 |_,_,0,_,.cons h _,e=>by simp at e;subst e;exact⟨_,rfl,h⟩
 |_,_,i+1,v,.cons _ t,e=>by
   obtain⟨d,h1,b⟩:=Aj.get' (i:=i) (d:=v) t (by simpa using e);exact⟨d,by simpa using h1,b⟩
theorem Aj.strs{K:Ah}{H:Hp}:∀(xs:List Str),Aj K H (xs.map V.str) (xs.map Dt.str)
 |[]=>.nil
 |x::xs=>.cons (.str x) (Aj.strs xs)
section
variable {X:Cx} {pins:B'} {σ:St} {H:Hp} {s:Shared}
def Inv.not_both(I:Inv X pins σ H s){ys:List V}(h:Ae X.K H a xs)(h':Ar X.K H a ys):False:=by
 obtain⟨_,_,⟨o,n,e,c,_⟩,_⟩:=I.list h;obtain⟨_,_,⟨f,b,d,_⟩,_⟩:=I.tuple h';rw[e] at b;cases b;rw[c] at d;exact absurd d (by decide)
mutual
theorem Ap.inj (I:Inv X pins σ H s) {v:V} {d e:Dt} (h:Ap X.K H v d) (h':Ap X.K H v e):d=e:=by
 cases h with
 | non=>cases h';rfl
 | bl _=>cases h';rfl
 | int _=>cases h';rfl
 | str _=>cases h';rfl
 | tup h t=>cases h' with
   | tup h' a =>
     have e:=I.tuple_inj h h';subst e;rw[Aj.inj I t a]
   | lst h' _=>exact(I.not_both h' h).elim
 | lst h t=>cases h' with
   | lst h' a =>
     have e:=I.list_inj h h';subst e;rw[Aj.inj I t a]
   | tup h' _=>exact(I.not_both h h').elim
theorem Aj.inj (I:Inv X pins σ H s) {vs:List V} {a es:List Dt} (h:Aj X.K H vs a) (h':Aj X.K H vs es):a=es:=by
 cases h with
 | nil=>cases h';rfl
 | cons h t=>cases h' with
   | cons h' b=>rw[Ap.inj I h h',Aj.inj I t b]
end
end
def Dt.kd:Dt->Nat
 |.non=>0|.bl _=>1|.int _=>2|.str _=>3|.tup _=>4|.lst _=>5
def Hi (a b:Nat):Bool:=a != b && !(a==1 && b==2) && !(a==2 && b==1)
mutual
inductive Dl:Nat->Dt->Dt->Prop where
 | non {n:Nat}:Dl n .non .non
 | bl {n:Nat} (a b:Bool):Dl n (.bl a) (.bl b)
 | int {n:Nat} (a b:Int):Dl n (.int a) (.int b)
 | str {n:Nat} (a b:Str):Dl n (.str a) (.str b)
 | tup {n:Nat} {ds es:List Dt} (t:Bx n ds es):Dl (n+1) (.tup ds) (.tup es)
 | lst {n:Nat} {ds es:List Dt} (t:Bx n ds es):Dl (n+1) (.lst ds) (.lst es)
 | apart {n:Nat} {d e:Dt} (h:Hi d.kd e.kd=true):Dl (n+1) d e
inductive Bx:Nat->List Dt->List Dt->Prop where
 | nil {n:Nat} (es:List Dt):Bx n [] es
 | nil' {n:Nat} (ds:List Dt):Bx n ds []
 | cons {n:Nat} {d e:Dt} {ds es:List Dt} (h:Dl n d e) (t:Bx n ds es):Bx n (d :: ds) (e :: es)
end
theorem Bx.of{n:Nat}:∀{a es:List Dt},(∀d∈a,∀e∈es,Dl n d e)->Bx n a es
 |[],es,_=>.nil es
 |d::a,[],_=>.nil' _
 |d::a,e::es,h=>.cons (h d (by simp) e (by simp)) (Bx.of λx b y c=>h x (by simp[b]) y (by simp[c]))
open Classical in
noncomputable def dec (p:Prop):Bool:=decide p
variable {p:Prop}
def Ey(h:p):dec p=true:=@Ba p (Classical.propDecidable p) h
def FS(h:¬p):dec p=false:=@D1 p (Classical.propDecidable p) h
def DA:dec p=true↔p:=⟨λh=>@Bm p (Classical.propDecidable p) h,Ey⟩
def NY{q:Prop}(h:p↔q):dec p=dec q:=by rw[propext h]
def TV{α:Type} [BEq α] [LawfulBEq α]{a b:α}(h:p↔a=b):(a==b)=dec p:=by
 by_cases e:a=b;subst e;rw[Ey (h.mpr rfl)];exact beq_self_eq_true _;rw[FS λq=>e (h.mp q)];exact beq_false_of_ne e
variable {ds es:List Dt}
def Z6(b:ds.length=es.length)(h:∀i,i<ds.length->ds[i]?=es[i]?):ds=es:=List.ext_getElem? λi=>by
 by_cases a:i<ds.length;exact h i a;rw[Gg (by lia),Gg (by lia)]
section
variable {X:Cx} {pins:B'} {σ:St} {H:Hp} {s:Shared}
def Hj(A:Around):A.in1.units=A.units+1:=rfl
def WL(I:Inv X pins σ H s){vs us:List V}{a b:List Value}(c:At vs a)(f:At us b)(J:Aj X.K H vs ds)(m:Aj X.K H us es)
 (n:∀(i:Nat)(d e:Dt)(v u:V)(x y:Value),ds[i]?=some d->es[i]?=some e->RelV v x->RelV u y->Ap X.K H v d->Ap X.K H u e->EqAt A s x y (dec (d=e))) :
 ∀j(h1:j<a.toArray.size)(g:j<b.toArray.size),EqAt A s a.toArray[j] b.toArray[j] (dec (ds[j]?=es[j]?)):=by
 intro j h1 g;have B:=c.length;have C:=f.length;have w:j<a.length:=(by simpa using h1);have z:j<b.length:=(by simpa using g);obtain⟨x,h,o⟩:=c.get (i:=j) (x:=vs[j]'(by lia)) (AC (by lia));obtain⟨y,k,r⟩:=f.get (i:=j) (x:=us[j]'(by lia)) (AC (by lia));obtain⟨d,hd,D⟩:=J.get (i:=j) (v:=vs[j]'(by lia)) (AC (by lia));obtain⟨e,l,te⟩:=m.get (i:=j) (v:=us[j]'(by lia)) (AC (by lia))
 have ex:a.toArray[j]=x:=by
  rw[AC w] at h;simpa using h
 have t:b.toArray[j]=y:=by
  rw[AC z] at k;simpa using k
 rw[ex,t,hd,l];have:=n j d e _ _ x y hd l o r D te;rw[NY (p:=some d=some e) (q:=d=e) (by simp)];exact this
def WM(a:n=ds.length)(b:ds.length=es.length):(List.range n).all (λj=>dec (ds[j]?=es[j]?))=dec (ds=es):=by
 subst a;by_cases h:ds=es;subst h;rw[Ey rfl,List.all_eq_true];exact λi ζ=>Ey rfl;rw[FS h,Bool.eq_false_iff];intro q;rw[List.all_eq_true] at q;exact h (Z6 b λi c=>DA.mp (q i (List.mem_range.mpr c)))
variable {d e:Dt}{u:V}{y:Value}
def Z7(I:Inv X pins σ H s){x:Value}(h:Hi d.kd e.kd=true)(D:Ap X.K H v d)(te:Ap X.K H u e)(j:RelV v x)(f:RelV u y)(c:A.units<cLine):EqAt A s x y false/\RcAt A s x y false/\RcNeAt A s x y true:=by
 cases D with
 |non =>
   cases j
   cases te with
   |non=>exact absurd h (by simp[Hi,Dt.kd])
   |bl b =>
     cases f;exact⟨EqAt.none_bool _,RcAt.none_bool _,RcNeAt.none_bool _⟩
   |int b =>
     obtain⟨i,rfl⟩:=f;exact⟨EqAt.none_int _ _,RcAt.none_int _ _,RcNeAt.none_int _ _⟩
   |str b =>
     obtain⟨i,rfl⟩:=f;exact⟨EqAt.none_str _ _,RcAt.none_str _ _,RcNeAt.none_str _ _⟩
   |tup g i =>
     cases f;obtain⟨_,_,J,_⟩:=I.tuple g;exact⟨EqAt.none_tuple J c,RcAt.none_tuple J c,RcNeAt.none_tuple J c⟩
   |lst g i =>
     cases f;obtain⟨_,_,J,_⟩:=I.list g;have J:=J.isList;exact⟨EqAt.none_list J c,RcAt.none_list J c,RcNeAt.none_list J c⟩
 |bl a =>
   cases j
   cases te with
   |non =>
     cases f;exact⟨EqAt.bool_none _,RcAt.bool_none _,RcNeAt.bool_none _⟩
   |bl b=>exact absurd h (by simp[Hi,Dt.kd])
   |int b=>exact absurd h (by simp[Hi,Dt.kd])
   |str b =>
     obtain⟨i,rfl⟩:=f;exact⟨EqAt.bool_str _ _ _,RcAt.bool_str _ _ _,RcNeAt.bool_str _ _ _⟩
   |tup g i =>
     cases f;obtain⟨_,_,J,_⟩:=I.tuple g;exact⟨EqAt.bool_tuple _ J c,RcAt.bool_tuple _ J c,RcNeAt.bool_tuple _ J c⟩
   |lst g i =>
     cases f;obtain⟨_,_,J,_⟩:=I.list g;have J:=J.isList;exact⟨EqAt.bool_list _ J c,RcAt.bool_list _ J c,RcNeAt.bool_list _ J c⟩
 |int a =>
   obtain⟨t,rfl⟩:=j
   cases te with
   |non =>
     cases f;exact⟨EqAt.int_none _ _,RcAt.int_none _ _,RcNeAt.int_none _ _⟩
   |bl b=>exact absurd h (by simp[Hi,Dt.kd])
   |int b=>exact absurd h (by simp[Hi,Dt.kd])
   |str b =>
     obtain⟨i,rfl⟩:=f;exact⟨EqAt.int_str _ _ _ _,RcAt.int_str _ _ _ _,RcNeAt.int_str _ _ _ _⟩
   |tup g i =>
     cases f;obtain⟨_,_,J,_⟩:=I.tuple g;exact⟨EqAt.int_tuple _ _ J c,RcAt.int_tuple _ _ J c,RcNeAt.int_tuple _ _ J c⟩
   |lst g i =>
     cases f;obtain⟨_,_,J,_⟩:=I.list g;have J:=J.isList;exact⟨EqAt.int_list _ _ J c,RcAt.int_list _ _ J c,RcNeAt.int_list _ _ J c⟩
 |str a =>
   obtain⟨t,rfl⟩:=j
   cases te with
   |non =>
     cases f;exact⟨EqAt.str_none _ _,RcAt.str_none _ _,RcNeAt.str_none _ _⟩
   |bl b =>
     cases f;exact⟨EqAt.str_bool _ _ _,RcAt.str_bool _ _ _,RcNeAt.str_bool _ _ _⟩
   |int b =>
     obtain⟨i,rfl⟩:=f;exact⟨EqAt.str_int _ _ _ _,RcAt.str_int _ _ _ _,RcNeAt.str_int _ _ _ _⟩
   |str b=>exact absurd h (by simp[Hi,Dt.kd])
   |tup g i =>
     cases f;obtain⟨_,_,J,_⟩:=I.tuple g;exact⟨EqAt.str_tuple _ _ J c,RcAt.str_tuple _ _ J c,RcNeAt.str_tuple _ _ J c⟩
   |lst g i =>
     cases f;obtain⟨_,_,J,_⟩:=I.list g;have J:=J.isList;exact⟨EqAt.str_list _ _ J c,RcAt.str_list _ _ J c,RcNeAt.str_list _ _ J c⟩
 |tup h1 k =>
   cases j;obtain⟨_,_,p,_⟩:=I.tuple h1
   cases te with
   |non =>
     cases f;exact⟨EqAt.tuple_none p c,RcAt.tuple_none p c,RcNeAt.tuple_none p c⟩
   |bl b =>
     cases f;exact⟨EqAt.tuple_bool _ p c,RcAt.tuple_bool _ p c,RcNeAt.tuple_bool _ p c⟩
   |int b =>
     obtain⟨i,rfl⟩:=f;exact⟨EqAt.tuple_int _ _ p c,RcAt.tuple_int _ _ p c,RcNeAt.tuple_int _ _ p c⟩
   |str b =>
     obtain⟨i,rfl⟩:=f;exact⟨EqAt.tuple_str _ _ p c,RcAt.tuple_str _ _ p c,RcNeAt.tuple_str _ _ p c⟩
   |tup g i=>exact absurd h (by simp[Hi,Dt.kd])
   |lst g i =>
     cases f;obtain⟨_,_,J,_⟩:=I.list g;have J:=J.isList;exact⟨EqAt.tuple_list p J c,RcAt.tuple_list p J c,RcNeAt.tuple_list p J c⟩
 |lst h1 k =>
   cases j;obtain⟨_,_,p,_⟩:=I.list h1;have p:=p.isList
   cases te with
   |non =>
     cases f;exact⟨EqAt.list_none p c,RcAt.list_none p c,RcNeAt.list_none p c⟩
   |bl b =>
     cases f;exact⟨EqAt.list_bool _ p c,RcAt.list_bool _ p c,RcNeAt.list_bool _ p c⟩
   |int b =>
     obtain⟨i,rfl⟩:=f;exact⟨EqAt.list_int _ _ p c,RcAt.list_int _ _ p c,RcNeAt.list_int _ _ p c⟩
   |str b =>
     obtain⟨i,rfl⟩:=f;exact⟨EqAt.list_str _ _ p c,RcAt.list_str _ _ p c,RcNeAt.list_str _ _ p c⟩
   |tup g i =>
     cases f;obtain⟨_,_,J,_⟩:=I.tuple g;exact⟨EqAt.list_tuple p J c,RcAt.list_tuple p J c,RcNeAt.list_tuple p J c⟩
   |lst g i=>exact absurd h (by simp[Hi,Dt.kd])
def WN(I:Inv X pins σ H s){x:Value}(D:Ap X.K H v d)(te:Ap X.K H u e)(b:RelV v x)(i:RelV u y)(h:RcAt A s x y (dec (d=e))):EqAt A s x y (dec (d=e)):=by
 by_cases g:x=y;subst g;have j:=b.inj i;subst j;rw[Ey (Ap.inj I D te)];exact EqAt.same _;intro f w E Q c;unfold eqBool;refine FA ?_;refine wpAny_ite_split (λk=>absurd (eq_of_beq k) g) (λζ=>?_)
 cases D with
 |non=>cases b;exact Ad (h f w E _ (FX c))
 |bl a=>cases b;exact Ad (h f w E _ (FX c))
 |int a=>obtain⟨t,rfl⟩:=b;exact Ad (h f w E _ (FX c))
 |str a=>obtain⟨t,rfl⟩:=b;exact Ad (h f w E _ (FX c))
 |tup _ _=>cases b;exact Ad (h f w E _ (FX c))
 |lst _ _=>cases b;exact Ad (h f w E _ (FX c))
def O4(h:Hi d.kd e.kd=true):¬d=e:=λz=>by
 subst z;simp[Hi] at h
set_option tactic.hygienic true in
mutual
theorem QD (I:Inv X pins σ H s) {n:Nat} {d e:Dt} {v u:V} {x y:Value} {A:Around} (c:Dl n d e) (D:Ap X.K H v d) (te:Ap X.K H u e) (g:RelV v x) (i:RelV u y) (O:A.units+n<cLine):RcAt A s x y (dec (d=e))/\RcNeAt A s x y (!dec (d=e)):=by
 cases c with
 | non =>
   cases D;cases te;cases g;cases i;rw[Ey rfl];exact⟨RcAt.none_none,RcNeAt.none_none⟩
 | bl a b =>
   cases D;cases te;cases g;cases i;rw[<-TV (a:=a) (b:=b) (by simp)];exact⟨RcAt.bool_bool a b,RcNeAt.bool_bool a b⟩
 | int a b =>
   cases D;cases te;obtain⟨t,rfl⟩:=g;obtain⟨f,rfl⟩:=i;rw[<-TV (a:=a) (b:=b) (by simp)];exact⟨RcAt.int_int a t b f,RcNeAt.int_int a t b f⟩
 | str a b =>
   cases D;cases te;obtain⟨t,rfl⟩:=g;obtain⟨f,rfl⟩:=i;rw[<-TV (a:=a) (b:=b) (by simp)];exact⟨RcAt.str_str a t b f,RcNeAt.str_str a t b f⟩
 | @tup n ds es c =>
   cases D;cases te;rename_i a F h t b G C f;cases g;cases i;obtain⟨l,r,p,_⟩:=I.tuple h;obtain⟨m,o,k,_⟩:=I.tuple C;have J:=r.length;have K:=o.length;have L:=t.length;have M:=f.length;have w:=WL (A:=A.in1) I r o t f (Mr I c (by rw[Hj];lia))
   have e:dec (Dt.tup ds=Dt.tup es)=((List.range (min l.toArray.size m.toArray.size)).all (fun j=>dec (ds[j]?=es[j]?)) && l.toArray.size == m.toArray.size):=by
    rw[NY (p:=Dt.tup ds=Dt.tup es) (q:=ds=es) (by simp)];simp only[Ce];by_cases B:ds.length=es.length
    rw[show(l.length == m.length)=true from beq_iff_eq.mpr (by lia),Bool.and_true,WM (by lia) B]
    rw[show(l.length == m.length)=false from beq_false_of_ne (by lia),Bool.and_false,FS fun z=>B (by rw[z])]
   rw[e];exact⟨RcAt.tuples (A:=A) p k (by lia) w,RcNeAt.tuples (A:=A) p k (by lia) w⟩
 | @lst n ds es c =>
   cases D;cases te;rename_i a F h t b G C f;cases g;cases i;obtain⟨l,r,p,_⟩:=I.list h;obtain⟨m,o,k,_⟩:=I.list C;have J:=r.length;have K:=o.length;have L:=t.length;have M:=f.length;by_cases B:ds.length=es.length;have w:=WL (A:=A.in1) I r o t f (Mr I c (by rw[Hj];lia));rw[NY (p:=Dt.lst ds=Dt.lst es) (q:=ds=es) (by simp),<-WM (n:=l.toArray.size) (by simp only[Ce];lia) B];exact⟨RcAt.lists (A:=A) p.isList k.isList (by simp only[Ce];lia) (by lia) w,RcNeAt.lists (A:=A) p.isList k.isList (by simp only[Ce];lia) (by lia) w⟩
   rw[FS (show ¬Dt.lst ds=Dt.lst es from fun z=>B (by cases z;rfl))]
   have E:(l.toArray.size != m.toArray.size)=true:=by simp only[Ce];rw[bne_iff_ne];lia
   exact⟨RcAt.lists_lengths p.isList k.isList E (by lia),RcNeAt.lists_lengths p.isList k.isList E (by lia)⟩
 | apart h =>
   obtain⟨_,h1,N⟩:=Z7 (A:=A) I h D te g i (by lia);rw[FS (O4 h)];exact⟨h1,N⟩
theorem Mr (I:Inv X pins σ H s) {n:Nat} {ds es:List Dt} {A:Around} (c:Bx n ds es) (f:A.units+n<cLine)
 (i:Nat) (d e:Dt) (v u:V) (x y:Value) (h:ds[i]?=some d) (h':es[i]?=some e) (a:RelV v x) (b:RelV u y) (D:Ap X.K H v d) (te:Ap X.K H u e):EqAt A s x y (dec (d=e)):=by
 cases c with
 | nil=>simp at h
 | nil'=>simp at h'
 | cons c t=>cases i with
   | zero =>
     simp at h h';subst h;subst h';have g:=QD (A:=A) I c D te a b f;exact WN I D te a b g.1
   | succ i=>exact Mr I t f i d e v u x y (by simpa using h) (by simpa using h') a b D te
end
def WO(I:Inv X pins σ H s){x:Value}(c:Dl n d e)(D:Ap X.K H v d)(te:Ap X.K H u e)(a:RelV v x)(b:RelV u y)(f:A.units+n<cLine):EqAt A s x y (dec (d=e)):=
 WN I D te a b (QD I c D te a b f).1
end
section
variable {X:Cx}
def TW (K:Ah):R2:=λx y H Q=>∃n d e,Dl n d e/\n<=60/\Ap K H x d/\Ap K H y e/\Q (.bl (dec (d=e))) H
def TX (K:Ah):R2:=λx y H Q=>∃n d e,Dl n d e/\n<=60/\Ap K H x d/\Ap K H y e/\Q (.bl (!dec (d=e))) H
def TY(f:X.A.units+64<cLine):Dv X (compareOp .Eq) (TW X.K):=by
 intro pins s σ H x y v u Q I a b h;obtain⟨n,d,e,c,g,D,te,q⟩:=h;exact(QD (A:=X.A) I c D te a b (by lia)).1 _ _ _ _ ⟨.bl _,H,I,rfl,q⟩
def Ms(f:X.A.units+64<cLine):Dv X (compareOp .NotEq) (TX X.K):=by
 intro pins s σ H x y v u Q I a b h;obtain⟨n,d,e,c,g,D,te,q⟩:=h;exact(QD (A:=X.A) I c D te a b (by lia)).2 _ _ _ _ ⟨.bl _,H,I,rfl,q⟩
def TZ (K:Ah):R2:=λx y H Q=>∃n d ds a vs,(∀e∈ds,Dl n e d)/\n<=60/\Ap K H x d/\y=.ref a/\Ae K H a vs/\Aj K H vs ds/\Q (.bl (dec (d∈ds))) H
def JK (K:Ah):R2:=λx y H Q=>∃n d ds a vs,(∀e∈ds,Dl n e d)/\n<=60/\Ap K H x d/\y=.ref a/\Ae K H a vs/\Aj K H vs ds/\Q (.bl (!dec (d∈ds))) H
def T1(I:Inv X pins σ H s){d:Dt}{vs:List V}{b:List Value}{x:Value}(r:At vs b)(t:Aj X.K H vs ds)(B:∀e∈ds,Dl n e d)(D:Ap X.K H v d)(C:RelV v x)(E:A.units+n<cLine) :
 (∀y,y∈b.toArray->EqAt A s y x (dec (∃u,RelV u y/\Ap X.K H u d)))/\b.toArray.any (λy=>dec (∃u,RelV u y/\Ap X.K H u d))=dec (d∈ds):=by
 have L:=r.length;have lt:=t.length
 have one:∀y,y∈b->∃e∈ds,∃u,RelV u y/\Ap X.K H u e:=λy a=>by
  obtain⟨i,g,e⟩:=Qf.mp a;obtain⟨M,w,j⟩:=r.get (i:=i) (x:=vs[i]'(by lia)) (AC (by lia));obtain⟨F,c,te⟩:=t.get (i:=i) (v:=vs[i]'(by lia)) (AC (by lia));rw[AC g,e] at w;cases w;exact⟨F,A9 c,_,j,te⟩
 refine⟨λy a=>?_,?_⟩;obtain⟨e,c,u,f,te⟩:=one y (by simpa using a);have:=WO (A:=A) I (B e c) te D f C E
 rw[NY (p:=∃u,RelV u y/\Ap X.K H u d) (q:=e=d) ⟨λ⟨G,l,m⟩=>by
  have k:=f.inj l;subst k
  exact Ap.inj I te m,λz=>⟨u,f,by rw[<-z];exact te⟩⟩]
 exact this;by_cases h:d∈ds;rw[Ey h,Array.any_eq_true];obtain⟨i,g,e⟩:=Qf.mp h;obtain⟨u,K,te⟩:=t.get' (i:=i) (d:=d) (by rw[AC g,e]);obtain⟨y,a,j⟩:=r.get K;have o:i<b.length:=(AY.mp a).1;refine⟨i,by simpa using o,?_⟩
 have:b.toArray[i]'(by simpa using o)=y:=by
  rw[AC o] at a;simpa using a
 rw[this];exact Ey ⟨u,j,te⟩;rw[FS h,Bool.eq_false_iff];intro q;obtain⟨i,g,q⟩:=Array.any_eq_true.mp q;obtain⟨u,f,te⟩:=DA.mp q;obtain⟨e,c,G,l,m⟩:=one (b.toArray[i]) (by simp);have k:=f.inj l;subst k;have J:=Ap.inj I te m;subst J;exact h c
def HN(i:X.A.units+64<cLine):Dv X (compareOp .In) (TZ X.K):=by
 intro pins s σ H x y v u Q I b c h;obtain⟨n,d,ds,a,j,e,k,D,rfl,f,t,q⟩:=h;cases c;obtain⟨l,r,p,_⟩:=I.list f;obtain⟨h1,g⟩:=T1 (A:=X.A.in1) I r t e D b (by rw[Hj];lia);exact in_listAt _ p.isList h1 (by rw[g];exact⟨.bl _,H,I,rfl,q⟩)
def T4(i:X.A.units+64<cLine):Dv X (compareOp .NotIn) (JK X.K):=by
 intro pins s σ H x y v u Q I b c h;obtain⟨n,d,ds,a,j,e,k,D,rfl,f,t,q⟩:=h;cases c;obtain⟨l,r,p,_⟩:=I.list f;obtain⟨h1,g⟩:=T1 (A:=X.A.in1) I r t e D b (by rw[Hj];lia);exact notIn_listAt _ p.isList h1 (by rw[g];exact⟨.bl _,H,I,rfl,q⟩)
end
end L2
namespace Ord
variable {α:Type} [DecidableEq α]
def nodup_sub_length{l m:List α}(h:l.Nodup)(a:∀x∈l,x∈m):l.length<=m.length:=by
 induction l generalizing m with
 |nil=>simp
 |cons x r f =>
   have b:=a x (by simp);have c:=(Gd.mp h)
   have:r.length<=(m.erase x).length:=f c.2 (λy d=>by
    have g:=a y (by simp[d]);have ne:y≠x:=λe=>c.1 (e▸d)
    exact(List.mem_erase_of_ne ne).mpr g)
   rw[List.length_erase_of_mem b] at this;have i:0<m.length:=List.length_pos_of_mem b
   simp;lia
end Ord
namespace War
end War
namespace Ord
variable {α:Type} [DecidableEq α]
end Ord
namespace L2
open PySem PySem.Spec PyProof.Rows Ord
abbrev WP (p:Str×Str):Dt:=.tup [.str p.1,.str p.2]
def WQ{α:Type}{xs:List α}{v:α}(h:xs[xs.length-1]?=some v):Bl xs (-1)=some v:=by
 have a:xs.length-1<xs.length:=(AY.mp h).1;unfold Bl Hd;rw[An (by decide),Al (by lia)];show xs[(-1+(xs.length:Int)).toNat]?=some v;rw[show(-1+(xs.length:Int)).toNat=xs.length-1 by lia];exact h
def Hk:([]:List V).length+1<=sizeLine:=by decide
def Cr:([]:List V).length+1+1<=sizeLine:=by decide
theorem Aj.of_get{K:Ah}{H:Hp}:∀{vs:List V}{a:List Dt},vs.length=a.length->(∀(n:Nat)v d,vs[n]?=some v->a[n]?=some d->Ap K H v d)->Aj K H vs a
 |[],[],_,_=>.nil
 |v::vs,d::a,b,h=>.cons (h 0 v d rfl rfl) (Aj.of_get (by simpa using b) λn x y c e=>h (n+1) x y (by simpa using c) (by simpa using e))
structure Cf (H:Hp) (ts:List Addr) (ps:A'):Prop where
 len:ts.length=ps.length
 at_:∀(n:Nat)t p,ts[n]?=some t->ps[n]?=some p->H t=some (.tup [.str p.1,.str p.2])
variable {H:Hp}
def Cf.nil:Cf H [] []:=⟨rfl,λn t p h=>by simp at h⟩
variable {ts:List Addr}{ps:A'}
def Cf.same{H':Hp}(e:Ac H H')(h:Cf H ts ps):Cf H' ts ps:=⟨h.len,λn t p a b=>e _ _ (h.at_ n t p a b)⟩
def Cf.dts{K:Ah}(h:Cf H ts ps):Aj K H (ts.map V.ref) (ps.map WP):=by
 refine Aj.of_get (by simpa using h.len) λn v d a b=>?_;rw[A8] at a b;obtain⟨t,c,rfl⟩:=E8.mp a;obtain⟨p,e,rfl⟩:=E8.mp b;exact .tup (Ar.of (h.at_ n t p c e)) (.cons (.str _) (.cons (.str _) .nil))
def Cf.snoc{t:Addr}{p:Str×Str}(h:Cf H ts ps)(e:H t=some (.tup [.str p.1,.str p.2])):Cf H (ts++[t]) (ps++[p]):=by
 refine⟨by rw[AS,AS,h.len];rfl,λn d f a b=>?_⟩;by_cases c:n<ts.length;rw[Ei c] at a;rw[Ei (by rw[<-h.len];exact c)] at b;exact h.at_ n d f a b
 have g:n=ts.length:=by
  have:=(AY.mp a).1;rw[AS,CZ] at this;lia
 subst g;rw[ED (AG _)] at a;rw[ED (by rw[h.len];exact AG _)] at b;simp at a;simp[h.len] at b;subst a;subst b;exact e
variable {a:Addr}
def T6{K:Ah}{xs:List V}{k:Nat}{f:List Nat}{g:TG}{te:TE}{σ:St}{Y:Hp}{Q:Addr->Hp->Prop}(Pv:Addr->Nat->List V->Hp->Prop)
 (h:∀D,Y D=none->Pv D 0 [] (upd Y D (.lst []))) (c:∀D i ys b,Pv D i ys b->Ae K b a xs)
 (j:∀D i x ys b(R:VK),Y D=none->xs[i]?=some x->Pv D i ys b->(∀y d,d D=some (.lst ys)->ys.length<sizeLine->Pv D (i+1) (ys++[y]) (upd d D (.lst (ys++[y])))->R y d)->g x (FR k f σ) b λσ4 l=>te σ4 l R)
 (hd:∀D ys b,Y D=none->Pv D xs.length ys b->Q D b):JI (NP K a) k f g HM te σ Y Q:=NW xs.length Pv h (λD i ys b p e=>⟨xs,xs[i],c D i ys b p,by simp[e]⟩) (λD ys b p=>⟨xs,c D _ ys b p,AG _⟩) (λD i ys b x n R o m e p y k q=>by obtain⟨rfl,y⟩:=y;exact j D i x ys _ R m (y xs (c D i ys _ p)) p k) hd
def AB.ex{P:Program}{w:World}{h:Heap}{o:HO}(x:AB P w H h a o):∃u,h.get? a=some u:=by
 cases o with
 |lst b=>obtain⟨_,_,_,_,e⟩:=x;exact⟨_,e⟩
 |tup b=>obtain⟨_,_,_,u,e,_⟩:=x;exact⟨u,e⟩
 |dK c=>obtain⟨_,_,_,_,u,_,_,e,_⟩:=x;exact⟨u,e⟩
 |dT c=>obtain⟨_,_,_,_,u,_,_,e,_⟩:=x;exact⟨u,e⟩
 |set S n=>obtain⟨u,_,_,_,e,_⟩:=x;exact⟨u,e⟩
 |ins C d fs=>obtain⟨_,_,_,e,_⟩:=x;exact⟨_,e⟩
 |own y=>exact x
 |xd fs=>obtain⟨_,⟨u,_,_,e,_⟩,_⟩:=x;exact⟨u,e⟩
 |rng lo g=>obtain⟨_,_,_,e⟩:=x;exact⟨_,e⟩
 |frz i u=>obtain⟨e,_⟩:=x;exact⟨_,e⟩
 |tbl ps=>exact⟨_,(show h.get? a=some _ from x)⟩
 |met f y=>exact⟨_,(show h.get? a=some _ from x)⟩
 |ext φ=>exact x.2.1
def Inv.freshN{X:Cx}{pins:B'}{σ:L2.St}{s:Shared}(I:Inv X pins σ H s)(d:∀b u,s.heap.get? b=some u->b≠a):H a=none:=by
 cases e:H a with
 |none=>rfl
 |some o =>
   obtain⟨u,c⟩:=(I.hok a o e).ex;exact absurd rfl (d a u c)
def Inv.laidN{X:Cx}{pins:B'}{σ:L2.St}{s:Shared}{h':Heap}{o:HO}{t':Nat}(I:Inv X pins σ H s)(k:∀b u,s.heap.get? b=some u->h'.get? b=some u)(h:∀b u,s.heap.get? b=some u->b≠a)(i:AB X.prog X.w (upd H a o) h' a o) :
 Inv X pins σ (upd H a o) {s with heap:=h',toks:=t'}:=by
 have d:=I.freshN h;refine I.un ⟨λb u q ζ ζ ζ=>k b u q,λb u q ζ ζ ζ=>⟨u.slots,k b u q⟩,λb u q n ζ=>by rw[AD (h b u q)];exact n,λb u q ζ=>⟨u,k b u q⟩,λb f q=>by rw[AD (AX q d)];exact q,λb u f q=>by rw[AD (AX q d)];exact q,λb ps q=>⟨#[],by rw[AD (AX q d),q];simp⟩⟩ λb u e=>?_;by_cases g:b=a;subst g;rw[Aa] at e;cases e;exact i;rw[AD g] at e;exact(I.hok b u e).stay (λc v ζ q=>k c v q) (λc q=>by rw[AD (AX q d)];exact q) λc f q=>by rw[AD (AX q d)];exact q
section
variable {prog:Program} {w:World} {A:Around} {E:D'} {s:Shared}
end
section
variable {X:Cx}
end
end L2
namespace HT
open PySem PyProof.Rows
section
open PySem.SeqAt
open PySem.AutoSeq1 (wpAny_loadPart')
open PySem.MeetsSeq PySem.MeetsSeq2 PySem.MeetsSeq3
end
section
variable {prog:Program} {w:World} {A:Around} {E:D'} {s:Shared}
end
end HT
namespace L2
open PySem PySem.Spec PyProof.Rows
section
variable {X:Cx}
def Z8{ss:List Str}:∀{us:List Value},At (ss.map V.str) us->StrsAre us ss:=by
 induction ss with
 |nil=>intro us h;cases h;exact .nil
 |cons x r c =>
   intro us h
   cases h with
   |cons a b =>
     obtain⟨t,rfl⟩:=a;exact .cons _ _ (c b)
end
end L2
namespace L2
end L2
namespace KasM
open PySem PySem.W PyProof.Rows
set_option autoImplicit false
def Tw {α:Type} (lt:Nat->Nat->Bool) (n:Nat):KasT α->(α->Prop)->Prop
 |.ret a,Q=>Q a
 |.ask i j k,Q=>i<n/\j<n/\Tw lt n (k (lt i j)) Q
theorem NZ{α β:Type}{lt:Nat->Nat->Bool}{n:Nat}{f:α->KasT β}{Q:β->Prop}:∀(t:KasT α),Tw lt n t (λa=>Tw lt n (f a) Q)->Tw lt n (t.bind f) Q
 |.ret _,h=>h
 |.ask _ _ k,⟨b,c,d⟩=>⟨b,c,NZ (k _) d⟩
theorem Tw_mono{α:Type}{lt:Nat->Nat->Bool}{n:Nat}{Q b:α->Prop}(c:∀a,Q a->b a):∀(t:KasT α),Tw lt n t Q->Tw lt n t b
 |.ret a,h=>c a h
 |.ask _ _ k,⟨d,e,f⟩=>⟨d,e,Tw_mono c (k _) f⟩
theorem Tw_wp{α:Type}{lt:Nat->Nat->Bool}{n:Nat}{c:Nat->Nat->(Bool->Shared->Prop)->Shared->Prop}{s:Shared}{Q:α->Shared->Prop}(b:∀i j C,i<n->j<n->C (lt i j) s->c i j C s) :
 ∀(t:KasT α),Tw lt n t (λa=>Q a s)->t.kasWp c Q s
 |.ret _,h=>h
 |.ask _ _ k,⟨d,e,f⟩=>b _ _ _ d e (Tw_wp b (k _) f)
section
variable {O:KeyOrd} {key:Nat->O.α} {n:Nat}
def K (key:Nat->O.α) (p:Array Nat) (i:Nat):O.α:=key (p.getD i 0)
def Asc (key:Nat->O.α) (p:Array Nat) (k:Nat):Prop:=∀i,i+1<k->O.kle (K key p i) (K key p (i+1))
def O5 (key:Nat->O.α) (p:Array Nat) (k:Nat):Prop:=∀i,i+1<k->O.kle (K key p (i+1)) (K key p i)
def Pm (n:Nat) (p:Array Nat):Prop:=p.Perm (List.range n).toArray
def Pm.size{p:Array Nat}(h:Pm n p):p.size=n:=by have:=h.size_eq;simpa using this
variable {p:Array Nat}
def Pm.lt(h:Pm n p)(b:0<n)(i:Nat):p.getD i 0<n:=by
 by_cases a:i<p.size;have e:p.getD i 0=p[i]:=(by simp[Array.getD,a]);rw[e];have:p[i]∈p:=Array.getElem_mem a;have c:=h.mem_iff.mp this;simpa using c;have e:p.getD i 0=0:=(by simp[Array.getD,a]);rw[e];exact b
variable {i j:Nat}
def Z9(a:j<=p.size)(k:Nat):(kas_rev p i j).getD k 0=if i<=k/\k<j then p.getD (i+j-1-k) 0 else p.getD k 0:=by
 unfold kas_rev;simp only[Array.getD_eq_getD_getElem?];rw[getElem?_mirror_all a];split<;>rfl
def cA{k l:Nat}(a:k<p.size)(b:l<=k)(t:Nat):(bubble p k (k-l)).getD t 0=if t=l then p.getD k 0 else if l<t/\t<=k then p.getD (t-1) 0 else p.getD t 0:=by
 simp only[Array.getD_eq_getD_getElem?];rw[getElem?_bubble a _ (by lia)];rw[show k-(k-l)=l by lia];split;rfl;split<;>rfl
def Pm.rev(h:Pm n p)(i j:Nat):Pm n (kas_rev p i j):=(mirror_perm _ _ _ _).trans h
def Pm.bub(h:Pm n p)(i j:Nat):Pm n (bubble p i j):=(bubble_perm _ _ _).trans h
def WR(a:j<=p.size)(k:Nat):K key (kas_rev p i j) k=if i<=k/\k<j then K key p (i+j-1-k) else K key p k:=by
 unfold K;rw[Z9 a];split<;>rfl
def T8(b:j<=p.size)(a:∀k,i<=k->k<j->K key p k=K key p (j-1))(k:Nat):K key (kas_rev p i j) k=K key p k:=by
 rw[WR b];split;rw[a _ (by lia) (by lia),a k (by lia) (by lia)];rfl
def cB{k l:Nat}(a:k<p.size)(b:l<=k)(t:Nat):K key (bubble p k (k-l)) t=if t=l then K key p k else if l<t/\t<=k then K key p (t-1) else K key p t:=by
 unfold K;rw[cA a b];split;rfl;split<;>rfl
theorem Asc.le{p:Array Nat}{k:Nat}(h:Asc key p k){i:Nat}:∀(d:Nat),i+d<k->O.kle (K key p i) (K key p (i+d))
 |0,_=>KeyOrd.kle_refl _
 |d+1,hd=>KeyOrd.kle_trans (h.le d (by lia)) (h (i+d) (by lia))
def Asc.le'{k:Nat}(h:Asc key p k)(b:i<=j)(a:j<k):O.kle (K key p i) (K key p j):=by
 have:=h.le (i:=i) (j-i) (by lia)
 rwa [show i+(j-i)=j by lia] at this
abbrev lt (O:KeyOrd) (key:Nat->O.α) (i j:Nat):Bool:=O.blt (key i) (key j)
theorem Ua{p:Array Nat}(b:Pm n p)(c:0<n):∀(f a:Nat),1<=a->Tw (lt O key) n (kas_asc p f a) λm=>a<=m/\m<=a+f/\(∀i,a-1<=i->i+1<m->O.kle (K key p i) (K key p (i+1)))/\(m<a+f->O.klt (K key p m) (K key p (m-1)))
 |0,a,_=>⟨AG _,AG _,λi d g=>by lia,λh=>by lia⟩
 | f + 1,a,q=>by
   refine⟨b.lt c _,b.lt c _,?_⟩
   cases j:lt O key (p.getD a 0) (p.getD (a-1) 0) with
   |true =>
     simp only[if_true];exact⟨AG _,by lia,λi d g=>by lia,λζ=>j⟩
   |false =>
     simp only[Fz,if_false];refine Tw_mono ?_ _ (Ua b c f (a+1) (by lia));rintro m ⟨d,g,k,l⟩;refine⟨by lia,by lia,λi r o=>?_,λh=>l (by lia)⟩;by_cases e:i=a-1;subst e;rw[show a-1+1=a by lia];exact j;exact k i (by lia) o
theorem QE(c:0<n):∀(f:Nat)(p:Array Nat)(a q:Nat),Pm n p->a+f<=n->O5 key p a->q+1<=a->(∀k,a-(q+1)<=k->k<a->K key p k=K key p (a-1)) ->
 Tw (lt O key) n (kas_desc f p a q) λr=>Pm n r.1/\a<=r.2.1/\r.2.1<=a+f/\O5 key r.1 r.2.1/\r.2.2+1<=r.2.1/\(∀k,r.2.1-(r.2.2+1)<=k->k<r.2.1->K key r.1 k=K key r.1 (r.2.1-1))
 |0,p,a,q,b,_,hd,o,d=>⟨b,AG _,AG _,hd,o,d⟩
 | f + 1,p,a,q,b,E,hd,o,d=>by
   have hz:=b.size;refine⟨b.lt c _,b.lt c _,?_⟩
   cases u:lt O key (p.getD a 0) (p.getD (a-1) 0) with
   |true =>
     have t:O.klt (K key p a) (K key p (a-1)):=u
     have z:O5 key p (a+1):=λi s=>by
      by_cases e:i+1=a;rw[e];have:i=a-1:=by lia
      rw[this];exact KeyOrd.kle_of_klt t;exact hd i (by lia)
     simp only[if_true];by_cases A:q > 0;rw[Al A];have U:=T8 (key:=key) (p:=p) (i:=a-(q+1)) (j:=a) (by lia) d;refine Tw_mono ?_ _ (QE c f _ (a+1) 0 (b.rev _ _) (by lia) (λi s=>by rw[U,U];exact z i s) (by lia) (λk v w=>by rw[show k=a+1-1 by lia]));rintro r ⟨g,x,y,h,l,m⟩;exact⟨g,by lia,by lia,h,l,m⟩;rw[An A];refine Tw_mono ?_ _ (QE c f _ (a+1) 0 b (by lia) z (by lia) (λk v w=>by rw[show k=a+1-1 by lia]));rintro r ⟨g,x,y,h,l,m⟩;exact⟨g,by lia,by lia,h,l,m⟩
   |false =>
     have t:O.kle (K key p (a-1)) (K key p a):=u;simp only[Fz,if_false];refine⟨b.lt c _,b.lt c _,?_⟩
     cases D:lt O key (p.getD (a-1) 0) (p.getD a 0) with
     |true =>
       simp only[if_true];exact⟨b,AG _,Nat.le_add_right _ _,hd,o,d⟩
     |false =>
       have B:O.kle (K key p a) (K key p (a-1)):=D;have C:K key p a=K key p (a-1):=KeyOrd.kle_antisymm B t;simp only[Fz,if_false];refine Tw_mono ?_ _ (QE c f _ (a+1) (q+1) b (by lia) (λi s=>?_) (by lia) (λk v w=>?_));rintro r ⟨g,x,y,h,l,m⟩;exact⟨g,by lia,by lia,h,l,m⟩;by_cases e:i+1=a;rw[e];have:i=a-1:=by lia
       rw[this];exact B;exact hd i (by lia);rw[show a+1-1=a by lia];by_cases e:k=a;rw[e];rw[d k (by lia) (by lia),C]
abbrev Ub (key:Nat->O.α) (n:Nat) (r:Nat×Array Nat):Prop:=Pm n r.2/\1<=r.1/\r.1<=n/\Asc key r.2 r.1
def WS(c:0<n){a:Nat}(b:Pm n p)(d:1<=a)(k:a<=n)(hd:O5 key p a):Tw (lt O key) n (kas_tail3 a n p) (Ub key n):=by
 unfold kas_tail3;have l:=b.size;have U:=WR (key:=key) (p:=p) (i:=0) (j:=a) (by lia);refine NZ _ (Tw_mono ?_ _ (Ua (O:=O) (key:=key) (b.rev 0 a) c (n-a) a d));rintro m ⟨o,q,f,_⟩;refine⟨b.rev _ _,by show 1<=m;lia,by show m<=n;lia,λi g=>?_⟩;have h:i+1<m:=g;by_cases e:a-1<=i;exact f i e h;show O.kle (K key (kas_rev p 0 a) i) (K key (kas_rev p 0 a) (i+1));rw[U,U,Al (by lia),Al (by lia)];have:=hd (0+a-1-(i+1)) (by lia)
 rwa [show 0+a-1-(i+1)+1=0+a-1-i by lia] at this
def WT(c:0<n){a:Nat}(f:Pm n p)(g:1<=a)(t:a+1<=n)(hd:O5 key p (a+1)):Tw (lt O key) n (kas_descPart a n p) (Ub key n):=by
 unfold kas_descPart;refine NZ _ (Tw_mono ?_ _ (QE (O:=O) (key:=key) c (n-(a+1)) p (a+1) 0 f (by lia) hd (by lia) (λk g u=>by rw[show k=a+1-1 by lia])));rintro⟨h,m,q⟩ ⟨b,l,o,d,r,e⟩;dsimp only at b l o d r e ⊢;have v:=b.size;split;have U:=T8 (key:=key) (p:=h) (i:=m-(q+1)) (j:=m) (by lia) e;exact WS c (b.rev _ _) (by lia) (by lia) λi s=>by rw[U,U];exact d i s
 exact WS c b (by lia) (by lia) d
def cC(b:0<n)(a:Pm n p):Tw (lt O key) n (kas_count n p) (Ub key n):=by
 unfold kas_count;have w:=a.size;refine NZ _ (Tw_mono ?_ _ (Ua (O:=O) (key:=key) a b (n-1) 1 (AG _)));rintro m ⟨c,x,r,s⟩;have d:Asc key p m:=λi f=>r i (by lia) f;by_cases g:(m==n)=true;rw[Al g];exact⟨a,c,by show m<=n;lia,d⟩;rw[An g]
 have y:m<n:=by
  have:m≠n:=λq=>g (by rw[q];exact beq_self_eq_true _);lia
 have l:=s (by lia);by_cases o:m > 1;rw[Al o];refine⟨a.lt b _,a.lt b _,?_⟩
 cases t:lt O key (p.getD 0 0) (p.getD (m-1) 0) with
 |true =>
   simp only[if_true];exact⟨a,c,by show m<=n;lia,d⟩
 |false =>
   have v:O.kle (K key p (m-1)) (K key p 0):=t;simp only[Fz,if_false]
   have h:∀k,0<=k->k<m->K key p k=K key p (m-1):=λk ζ u =>
    KeyOrd.kle_antisymm (d.le' (by lia) (by lia)) (KeyOrd.kle_trans v (d.le' (by lia) u))
   have U:=T8 (key:=key) (p:=p) (i:=0) (j:=m) (by lia) h;refine WT b (a.rev _ _) c (by lia) λi f=>?_;rw[U,U];by_cases e:i+1=m;rw[e,show i=m-1 by lia];exact KeyOrd.kle_of_klt l;rw[h i (by lia) (by lia),h (i+1) (by lia) (by lia)];exact KeyOrd.kle_refl _
 rw[An o];refine WT b a c (by lia) λi f=>?_;have:m=1:=(by lia);subst this;obtain rfl:i=0:=by lia
 exact KeyOrd.kle_of_klt l
theorem Uc(c:0<n){p:Array Nat}{k:Nat}(d:Pm n p)(g:Asc key p k):∀(f l r:Nat),r-l<=f->l<=r->r<=k->(∀i,i<l->O.kle (K key p i) (K key p k))->(∀i,r<=i->i<k->O.klt (K key p k) (K key p i)) ->
 Tw (lt O key) n (kas_place p k f l r) λm=>m<=k/\(∀i,i<m->O.kle (K key p i) (K key p k))/\(∀i,m<=i->i<k->O.klt (K key p k) (K key p i))
 |0,l,r,t,u,q,h,j=>⟨by lia,h,λi a b=>j i (by lia) b⟩
 | f + 1,l,r,t,u,q,h,j=>by
   unfold kas_place;by_cases e:l ≥ r;rw[Al e];exact⟨by lia,h,λi a b=>j i (by lia) b⟩;rw[An e];refine⟨d.lt c _,d.lt c _,?_⟩
   cases s:lt O key (p.getD k 0) (p.getD ((l+r)/2) 0) with
   |true =>
     have o:O.klt (K key p k) (K key p ((l+r)/2)):=s;simp only[if_true];exact Uc c d g f l ((l+r)/2) (by lia) (by lia) (by lia) h λi a b=>KeyOrd.klt_of_klt_of_kle o (g.le' a b)
   |false =>
     have o:O.kle (K key p ((l+r)/2)) (K key p k):=s;simp only[Fz,if_false];exact Uc c d g f ((l+r)/2+1) r (by lia) (by lia) q (λi a=>KeyOrd.kle_trans (g.le' (by lia) (by lia)) o) j
theorem HP (h0:0<n):∀ (f:Nat) (p:Array Nat) (k:Nat),Pm n p->k+f=n->Asc key p k->Tw (lt O key) n (kas_bin f p k) fun p'=>Pm n p'/\Asc key p' n
 | 0, p, k, hp, hk, ha => ⟨hp, by have : k = n := by lia
                                  rw[<-this];exact ha⟩
 |f+1,p,k,hp,hk,ha=>by
   have hz:=hp.size;unfold kas_bin;refine NZ _ (Tw_mono ?_ _ (Uc (O:=O) (key:=key) h0 hp ha k 0 k (by lia) (by lia) (AG _) (λi h=>by lia) λi a b=>by lia));rintro l ⟨b1,b2,b3⟩;have U:=cB (key:=key) (p:=p) (k:=k) (l:=l) (by lia) b1;refine HP h0 f _ (k+1) (hp.bub _ _) (by lia) λi hi=>?_;rw[U,U];by_cases e1:i=l;rw[Al e1,An (by lia)];by_cases e2:i+1<=k;rw[Al (by lia)];exact KeyOrd.kle_of_klt (b3 (i+1-1) (by lia) (by lia));lia;rw[An e1];by_cases e2:i+1=l;rw[Al e2,An (by lia)];exact b2 i (by lia);rw[An e2];by_cases e3:l<i;rw[Al (by lia),Al (by lia)];have:=ha (i-1) (by lia)
   rwa [show i-1+1=i+1-1 by lia] at this
   rw[An (by lia),An (by lia)];exact ha i (by lia)
def sort_ok(h0:0<n):Tw (lt O key) n (kas_sort n) λp=>Pm n p/\Asc key p n:=by
 unfold kas_sort;refine NZ _ (Tw_mono ?_ _ (cC (O:=O) (key:=key) h0 (Array.Perm.refl _)));rintro⟨m,p⟩ ⟨b1,b2,b3,b4⟩;dsimp only at b1 b2 b3 b4 ⊢;split;rw[show max m 1=m by lia];exact HP h0 _ _ _ b1 (by lia) b4
 exact ⟨b1, by have : m = n := by lia
               rw[<-this];exact b4⟩
end
end KasM
namespace L2
open PySem PySem.Spec PyProof.Rows
section
variable {prog:Program} {w:World} {A:Around} {E:D'} {s:Shared}
def cD{O:KeyOrd}{key:Nat->O.α}{κ:SortKind}{a:Addr}{vs:List Value}{n:Nat}{P:PySem.Fin->Shared->Prop}(f:s.heap.get? a=some (seqObj "list" vs.toArray n))(L:vs.length<64)
 (T:2<=vs.length->∀(h':Heap),(∀b o,b≠a->s.heap.get? b=some o->h'.get? b=some o)->∀(Q:SortKind->Shared->Prop),Q κ {s with heap:=h'}->wpAny (model prog w) A (keyKind' vs.toArray) Q (λζ ζ=>False) {s with heap:=h'})
 (N:∀(h':Heap),(∀b o,b≠a->s.heap.get? b=some o->h'.get? b=some o)->∀(i j:Nat)(C:Bool->Shared->Prop),i<vs.length->j<vs.length->C (O.blt (key i) (key j)) {s with heap:=h'}->PySem.W.kas_ask prog w A κ vs i j C {s with heap:=h'})
 (h:∀d:List Nat,d.Perm (List.range vs.length)->(∀i,i+1<d.length->O.kle (key (d.getD i 0)) (key (d.getD (i+1) 0)))->P (.done (.ret .none)) {s with heap:=sortedHeap s.heap a vs (d.map λi=>vs.getD i Value.none).toArray}) :
 wpAny (model prog w) A (Builtin.«list.sort» ⟨[.ref a],[]⟩) P E s:=by
 rw[list_sort_plain];have v:a<s.heap.objs.size:=Br f;have V:vs.toArray.size=vs.length:=(by simp);refine Ad (listItems_at f rfl ?_);refine Ad (listUpdate_at f rfl ?_ (by rw[Ce,sizeLine_eq];lia) (Di _));obtain⟨r,z⟩:∃r,(s.heap.update a (Obj.mapSeq λζ=>#[])).get? a=some (seqObj "list" #[] r):=⟨_,get?_update_seq f (λζ=>#[])⟩;refine Ad (seqEpoch_at z rfl ?_);refine Ad (wpAny_newTuple ?_ (by show vs.length<=_;rw[sizeLine_eq];lia));refine Ad (wpAny_newList ?_ (Di _));refine FA ?_
 have l:(((s.heap.update a (Obj.mapSeq λζ=>#[])).push (seqObj "tuple" vs.toArray 0)).push (seqObj "list" #[] 0)).get? a=some (seqObj "list" #[] r):=by
  rw[Heap.get?_push_ne _ _ _ (by rw[size_push',Heap.size_update];exact CF (Nat.lt_succ_of_lt v)),Heap.get?_push_ne _ _ _ (by rw[Heap.size_update];exact CF v)];exact z
 have keep:∀b o,b≠a->s.heap.get? b=some o->(((s.heap.update a (Obj.mapSeq λζ=>#[])).push (seqObj "tuple" vs.toArray 0)).push (seqObj "list" #[] 0)).get? b=some o:=λb o D q=>by
  refine Bf _ (Bf _ ?_);rw[Heap.get?_update_ne _ _ _ _ D];exact q
 show wpAny (model prog w) A _ P E {s with heap:=((s.heap.update a (Obj.mapSeq λζ=>#[])).push (seqObj "tuple" vs.toArray 0)).push (seqObj "list" #[] 0)};dsimp only;by_cases g:vs.toArray.size<2;rw[Al g,Al g];refine Ad (Aw ?_);rw[StateT.run_pure];refine Ad (Aw ?_);dsimp only;refine Ad (seqEpoch_at l rfl ?_);refine Ad (listUpdate_at l rfl ?_ (Di _) (by rw[Array.size_map];show(pairsOf vs).size<=_;rw[pairsOf_size,sizeLine_eq];lia));simp only[bne_self_eq_false,Fz,if_false];have:=h (List.range vs.length) (List.Perm.refl _) (λi t=>by rw[List.length_range] at t;lia)
 have e:((List.range vs.length).map λi=>vs.getD i Value.none).toArray=(arrOf (SortSt.mk' general' (vs.toArray.zip vs.toArray) #[] 7 none)).map (·.2):=by
  apply Array.toList_inj.mp;show(List.range vs.length).map (λi=>vs.getD i Value.none)=((vs.toArray.zip vs.toArray).map (·.2)).toList;apply List.ext_getElem?;intro k;by_cases y:k<vs.length;simp[y,B1];simp[y]
 rw[e] at this;exact Aw this;rw[An g,An g];have B:2<=vs.length:=(by lia);refine Ad (FY (T B _ keep (λκ' Z=>κ'=κ/\Z=_) ⟨rfl,rfl⟩) ?_ λζ ζ x=>x.elim);rintro κ' Z ⟨rfl,rfl⟩
 refine Ad (FY (PySem.W.kat_run (Q:=λm Z=>∃p:Array Nat,arrOf m=p.map (PySem.W.kas_item (vs.toArray.zip vs.toArray))/\failedOf m=none/\KasM.Pm vs.length p/\KasM.Asc key p vs.length/\Z={s with heap:=((s.heap.update a (Obj.mapSeq λζ=>#[])).push (seqObj "tuple" vs.toArray 0)).push (seqObj "list" #[] 0)})
  (G:=λp Z=>KasM.Pm vs.length p/\KasM.Asc key p vs.length/\Z={s with heap:=((s.heap.update a (Obj.mapSeq λζ=>#[])).push (seqObj "tuple" vs.toArray 0)).push (seqObj "list" #[] 0)})
  rfl B L (λF m Z U H I u=>⟨F,H,I,u.1,u.2.1,u.2.2⟩)
  (KasM.Tw_wp (lt:=KasM.lt O key) (n:=vs.length) (N _ keep) _ (KasM.Tw_mono (λp c=>⟨c.1,c.2,rfl⟩) _ (KasM.sort_ok (O:=O) (key:=key) (by lia))))) ?_ λζ ζ e=>e)
 rintro⟨⟨⟩,m⟩ Z ⟨p,M,J,c,R,rfl⟩;dsimp only;have S:=PySem.W.kat_snds (ks:=vs) (vs:=vs) rfl M;rw[S];refine Ad (seqEpoch_at l rfl ?_);refine Ad (listUpdate_at l rfl ?_ (Di _) (by rw[Ce,Ak,Array.length_toList,c.size,sizeLine_eq];lia));rw[J];simp only[bne_self_eq_false,Fz,if_false];refine Aw (h p.toList (by have:=Array.perm_iff_toList_perm.mp c;simpa using this) λi t=>?_);have K:=c.size;have:=R i (by simpa [K] using t);simpa [KasM.K,Array.getD_eq_getD_getElem?,B1] using this
def Ud{O:KeyOrd}{key:Nat->O.α}{κ:SortKind}{l:Addr}{vs:List Value}{Q:D'}(g:s.heap.IsList l vs.toArray)(v:vs.length<64)
 (y:2<=vs.length->∀(h':Heap),(∀b o,s.heap.get? b=some o->h'.get? b=some o)->∀(Q:SortKind->Shared->Prop),Q κ {s with heap:=h'}->wpAny (model prog w) A.in1.in1 (keyKind' vs.toArray) Q (λζ ζ=>False) {s with heap:=h'})
 (x:∀(h':Heap),(∀b o,s.heap.get? b=some o->h'.get? b=some o)->∀(i j:Nat)(C:Bool->Shared->Prop),i<vs.length->j<vs.length->C (O.blt (key i) (key j)) {s with heap:=h'}->PySem.W.kas_ask prog w A.in1.in1 κ vs i j C {s with heap:=h'})
 (h:∀(D:Addr)(h':Heap)(n:Nat)(a:List Nat),(∀b o,s.heap.get? b=some o->h'.get? b=some o)->(∀b o,s.heap.get? b=some o->b≠D)->a.Perm (List.range vs.length)->(∀i,i+1<a.length->O.kle (key (a.getD i 0)) (key (a.getD (i+1) 0))) ->
  h'.get? D=some (seqObj "list" (a.map λi=>vs.getD i Value.none).toArray n)->Q (.ref D) {s with heap:=h'}) :
 wpAny (model prog w) A (call (.builtin "sorted") [.ref l]) Q E s:=by
 refine Calls.call_function_entry kind_sorted plain_sorted entry_sorted (args_sorted1 _) ?_;unfold Builtin.«sorted»;refine Ad (m:=checkCount "sorted" 1 1 _) (Aw ?_);refine Ad (collect_list g ?_ (by rw[sizeLine_eq];lia));refine Ad (wpAny_newList ?_ (by rw[sizeLine_eq];lia))
 have d:((s.heap.push (seqObj "list" #[] 0)).update s.heap.objs.size (Obj.mapSeq (·++vs.toArray))).objs.size=s.heap.objs.size+1:=by
  rw[Heap.size_update,size_push']
 have e:(((s.heap.push (seqObj "list" #[] 0)).update s.heap.objs.size (Obj.mapSeq (·++vs.toArray))).push (seqObj "list" vs.toArray 0)).get? (s.heap.objs.size+1)=some (seqObj "list" vs.toArray 0):=by
  rw[<-d];exact Cd _ rfl
 have keep:∀b o,s.heap.get? b=some o->(((s.heap.push (seqObj "list" #[] 0)).update s.heap.objs.size (Obj.mapSeq (·++vs.toArray))).push (seqObj "list" vs.toArray 0)).get? b=some o:=λb o q=>by
  have f:b<s.heap.objs.size:=Br q;rw[Heap.get?_push_ne _ _ _ (by rw[d];exact CF (Nat.lt_succ_of_lt f)),Heap.get?_update_ne _ _ _ _ (CF f),Heap.get?_push_ne _ _ _ (CF f)];exact q
 have c:∀b o,s.heap.get? b=some o->b≠s.heap.objs.size+1:=λb o q=>CF (Nat.lt_succ_of_lt (Br q));show wpAny _ _ _ _ _ {s with heap:=((s.heap.push (seqObj "list" #[] 0)).update s.heap.objs.size (Obj.mapSeq (·++vs.toArray))).push (seqObj "list" vs.toArray 0)};rw[d];refine Ad (FA (wpAny_call_entry slot_list_sort ⟨_,e,rfl⟩ entry_list_sort ?body (args_list_sort _)))
 case body =>
  refine cD (s:={s with heap:=((s.heap.push (seqObj "list" #[] 0)).update s.heap.objs.size (Obj.mapSeq (·++vs.toArray))).push (seqObj "list" vs.toArray 0)}) (key:=key) (κ:=κ) e v
   (λp h' k=>y p h' λb o q=>k b o (c b o q) (keep b o q)) (λh' k=>x h' λb o q=>k b o (c b o q) (keep b o q)) λa r t=>?_
  obtain⟨n,u⟩:=sortedHeap_at (vs:=vs) (out:=(a.map λi=>vs.getD i Value.none).toArray) e;refine⟨_,rfl,Aw ⟨_,rfl,h (s.heap.objs.size+1) _ n a (λb o q=>?_) c r t u⟩⟩;show(sortedHeap (((s.heap.push (seqObj "list" #[] 0)).update s.heap.objs.size (Obj.mapSeq (·++vs.toArray))).push (seqObj "list" vs.toArray 0)) (s.heap.objs.size+1) vs _).get? b=some o;rw[sortedHeap_old (c b o q) (Br (keep b o q))];exact keep b o q
end
@[reducible] def BP (O P:KeyOrd):KeyOrd where
 α:=O.α×P.α
 blt x y:=O.blt x.1 y.1 || (!O.blt y.1 x.1 && P.blt x.2 y.2)
 irrefl x:=by simp[O.irrefl,P.irrefl]
 trans x y z h1 h2:=by
  simp only[Bool.or_eq_true,Bool.and_eq_true,Bool.not_eq_true'] at h1 h2 ⊢;rcases h1 with h1|⟨h1,k1⟩<;>rcases h2 with h2|⟨h2,k2⟩;exact .inl (O.trans _ _ _ h1 h2);exact .inl (KeyOrd.klt_of_klt_of_kle h1 h2);exact .inl (KeyOrd.klt_of_kle_of_klt h1 h2);exact .inr ⟨KeyOrd.kle_trans (O:=O) h1 h2,P.trans _ _ _ k1 k2⟩
 negTrans x y z h:=by
  simp only[Bool.or_eq_true,Bool.and_eq_true,Bool.not_eq_true'] at h ⊢;rcases h with h|⟨h,k⟩;rcases O.negTrans _ y.1 _ h with h|h;exact .inl (.inl h);exact .inr (.inl h)
  cases e1:O.blt x.1 y.1 with
  |true=>exact .inl (.inl rfl)
  |false =>
    cases e2:O.blt y.1 z.1 with
    |true=>exact .inr (.inl rfl)
    |false =>
      have a1:O.kle y.1 x.1:=e1;have a2:O.kle z.1 y.1:=e2;have a3:O.kle x.1 z.1:=h;have b1:O.blt y.1 x.1=false:=KeyOrd.kle_trans (O:=O) a3 a2;have b2:O.blt z.1 y.1=false:=KeyOrd.kle_trans (O:=O) a1 a3;rcases P.negTrans _ y.2 _ k with k|k;exact .inl (.inr ⟨b1,k⟩);exact .inr (.inr ⟨b2,k⟩)
 total x y h1 h2:=by
  simp only[Bool.or_eq_false_iff,Bool.and_eq_false_iff,Bool.not_eq_false'] at h1 h2;have e1:x.1=y.1:=O.total _ _ h1.1 h2.1;have e2:x.2=y.2:=P.total _ _ (by rcases h1.2 with z|z;exact absurd (h2.1.symm.trans z) (by simp);exact z) (by rcases h2.2 with z|z;exact absurd (h1.1.symm.trans z) (by simp);exact z);exact Prod.ext e1 e2
@[reducible] def Dm:KeyOrd where
 α:=Str
 blt a b:=decide (a.cps.toList<b.cps.toList)
 irrefl a:=by simpa using List.lt_irrefl a.cps.toList
 trans a b c h1 h2:=by simp only[decide_eq_true_eq] at *;exact List.lt_trans h1 h2
 negTrans a b c h:=by
  simp only[decide_eq_true_eq] at *
  by_cases hab:a.cps.toList<b.cps.toList;exact .inl hab;exact .inr (List.lt_of_le_of_lt (List.not_lt.mp hab) h)
 total a b h1 h2:=by simp only[decide_eq_false_iff_not] at *;exact ext_toList (List.le_antisymm (List.not_lt.mp h2) (List.not_lt.mp h1))
@[reducible] def JL:KeyOrd where
 α:=Int
 blt a b:=decide (a<b)
 irrefl a:=by simp
 trans a b c h1 h2:=by simp only[decide_eq_true_eq] at *;lia
 negTrans a b c h:=by simp only[decide_eq_true_eq] at *;lia
 total a b h1 h2:=by simp only[decide_eq_false_iff_not] at *;lia
structure Jb where
 O:KeyOrd
 val:O.α->V
 dflt:O.α
 T:Value
 tT:(T==T)=true
 tN:(T != Value.type "tuple")=true
 look:∀(M:Model)(h:Heap)(a:O.α)(u:Value),RelV (val a) u->PySem.W.Looks M h (typeOf u) T
 eqB:∀(prog:Program)(w:World)(A:Around)(E:D')(s:Shared)(a b:O.α)(u v:Value)(Q:Bool->Shared->Prop),RelV (val a) u->RelV (val b) v->(∀e:Bool,(e=true↔a=b)->Q e s)->wpAny (model prog w) A (eqBool u v) Q E s
 ltB:∀(prog:Program)(w:World)(A:Around)(E:D')(s:Shared)(a b:O.α)(u v:Value)(Q:Bool->Shared->Prop),RelV (val a) u->RelV (val b) v->Q (O.blt a b) s->wpAny (model prog w) A (oneLt' true u v) Q E s
 ltC:∀(prog:Program)(w:World)(A:Around)(E:D')(s:Shared)(a b:O.α)(u v:Value)(Q:Bool->Shared->Prop),RelV (val a) u->RelV (val b) v->Q (O.blt a b) s->wpAny (model prog w) A (oneLt' false u v) Q E s
@[reducible] def EX:Jb where
 O:=Dm
 val:=V.str
 dflt:=default
 T:=.type "str"
 tT:=by decide
 tN:=by decide
 look M h a u r:=by obtain⟨t,rfl⟩:=r;exact PySem.W.Looks.of_pure rfl
 eqB prog w A E s a b u v Q r r' h:=by
  obtain⟨t,rfl⟩:=r;obtain⟨t',rfl⟩:=r';exact eqBool_str (h _ (by simp))
 ltB prog w A E s a b u v Q r r' h:=by
  obtain⟨t,rfl⟩:=r;obtain⟨t',rfl⟩:=r';exact oneLt_str h
 ltC prog w A E s a b u v Q r r' h:=by
  obtain⟨t,rfl⟩:=r;obtain⟨t',rfl⟩:=r';exact PySem.W.kat_one _ _ (PySem.P.lt_str h)
@[reducible] def JM:Jb where
 O:=JL
 val:=V.int
 dflt:=0
 T:=.type "int"
 tT:=by decide
 tN:=by decide
 look M h a u r:=by obtain⟨t,rfl⟩:=r;exact PySem.W.Looks.of_pure rfl
 eqB prog w A E s a b u v Q r r' h:=by
  obtain⟨t,rfl⟩:=r;obtain⟨t',rfl⟩:=r';exact wpAny_eqBool_int (h _ (by simp))
 ltB prog w A E s a b u v Q r r' h:=by
  obtain⟨t,rfl⟩:=r;obtain⟨t',rfl⟩:=r';exact oneLt_int h
 ltC prog w A E s a b u v Q r r' h:=by
  obtain⟨t,rfl⟩:=r;obtain⟨t',rfl⟩:=r';exact PySem.W.kat_one _ _ (PySem.P.lt_int h)
variable {c d:Jb}
def JN(x y:(BP c.O d.O).α)(e:x.1=y.1):(BP c.O d.O).blt x y=d.O.blt x.2 y.2:=by
 show(c.O.blt x.1 y.1 || (!c.O.blt y.1 x.1 && d.O.blt x.2 y.2))=_;rw[e,c.O.irrefl];rfl
def JO(x y:(BP c.O d.O).α)(e:x.1≠y.1):(BP c.O d.O).blt x y=c.O.blt x.1 y.1:=by
 show(c.O.blt x.1 y.1 || (!c.O.blt y.1 x.1 && d.O.blt x.2 y.2))=_
 cases a:c.O.blt x.1 y.1 with
 |true=>rfl
 |false =>
   cases b:c.O.blt y.1 x.1 with
   |true=>rfl
   |false=>exact absurd (c.O.total _ _ a b) e
section
variable {prog:Program} {w:World} {A:Around} {E:D'} {s:Shared}
def cE(c d:Jb){x y:Addr}{p q:(BP c.O d.O).α}{b f g i:Value}{Q:Bool->Shared->Prop}(r:IsTup s.heap x #[b,f])(t:IsTup s.heap y #[g,i])(j:RelV (c.val p.1) b)(k:RelV (d.val p.2) f)(l:RelV (c.val q.1) g)(o:RelV (d.val q.2) i)
 (h:Q ((BP c.O d.O).blt p q) s):wpAny (model prog w) A (keyLt' (tuples' true) (.ref x) (.ref y)) Q E s:=by
 obtain⟨F,B,_,n,u⟩:=r;obtain⟨G,C,_,m,v⟩:=t;refine PySem.W.kat_lt B u C v (PySem.W.kat_cons (c.eqB _ _ _ _ _ _ _ _ _ _ j l λe a=>?_))
 cases e with
 |false =>
   have D:p.1≠q.1:=λz=>Ct (a.mpr z);rw[JO _ _ D] at h;exact PySem.W.kat_no (c.ltB _ _ _ _ _ _ _ _ _ _ j l h)
 |true =>
   rw[JN _ _ (a.mp rfl)] at h;refine PySem.W.kat_yes (PySem.W.kat_cons (d.eqB _ _ _ _ _ _ _ _ _ _ k o λe a=>?_))
   cases e with
   |false=>exact PySem.W.kat_no (d.ltC _ _ _ _ _ _ _ _ _ _ k o h)
   |true =>
     refine PySem.W.kat_yes (PySem.W.kat_nil ?_);rw[a.mp rfl,d.O.irrefl] at h;exact h
end
theorem QF{α:Type}{R:α->α->Prop}(tr:∀a b c,R a b->R b c->R a c):∀(l:List α),(∀i a b,l[i]?=some a->l[i+1]?=some b->R a b)->l.Pairwise R
 |[],_=>.nil
 |[x],_=>by simp
 |x::y::r,h=>by
   have f:=QF tr (y::r) λi a b j k=>h (i+1) a b (by simpa using j) (by simpa using k);have g:R x y:=h 0 x y rfl rfl;refine List.pairwise_cons.mpr ⟨λz d=>?_,f⟩;rcases B5.mp d with e|d;rw[e];exact g;exact tr _ _ _ g ((List.pairwise_cons.mp f).1 z d)
section
variable {X:Cx}
abbrev Row (c d:Jb):Type:=V×(BP c.O d.O).α
def Mt (X:Cx) (c d:Jb):List V->Hp->VK->Prop:=λvs H Q=>∃(l:Addr)(zs:List (Row c d)),vs=[.ref l]/\Ae X.K H l (zs.map (·.1))/\zs.length<64 /\
 (∀z∈zs,∃t,z.1=.ref t/\Ar X.K H t [c.val z.2.1,d.val z.2.2])/\∀(D:Addr)(zs':List (Row c d)),zs'.Perm zs->(zs'.map (·.2)).Pairwise (BP c.O d.O).kle->H D=none->Q (.ref D) (upd H D (.lst (zs'.map (·.1))))
def HR (c d:Jb) (h:Heap) (z:Row c d) (v:Value):Prop:=∃t u1 u2,z.1=.ref t/\v=.ref t/\IsTup h t #[u1,u2]/\RelV (c.val z.2.1) u1/\RelV (d.val z.2.2) u2
def HR.keeps{c d:Jb}{h h':Heap}{z:Row c d}{v:Value}(k:∀b o,h.get? b=some o->h'.get? b=some o)(x:HR c d h z v):HR c d h' z v:=by
 obtain⟨t,a,e,f,g,i,j⟩:=x;exact⟨t,a,e,f,g,i.keeps k,j⟩
def JP{h:Heap}(zs:List (Row c d))(f:List Value)(g:Paired (HR c d h) zs f):∃fs,PySem.W.KatTups h f fs/\fs.length=zs.length/\∀v∈fs,∃a,RelV (c.val a) v:=by
 induction g with
 |nil=>exact⟨[],.nil,rfl,λζ x=>by cases x⟩
 |cons i r j =>
   obtain⟨t,k,z,A,l,⟨o,m,p,n,q⟩,s,B⟩:=i;obtain⟨fs,u,w,y⟩:=j;subst l;refine⟨k::fs,.cons m p q rfl u,by simp[w],λv b=>?_⟩;rcases B5.mp b with e|b;exact⟨_,e▸s⟩;exact y v b
def O6{α β:Type}{R:α->β->Prop}{xs:List α}{ys:List β}(h:Paired R xs ys):∀(i:Nat)(b:α)(c:β),i<xs.length->R (xs.getD i b) (ys.getD i c):=by
 induction h with
 |nil=>intro i b c h;simp at h
 |cons a r d =>
   intro i b c h
   cases i with
   |zero=>exact a
   |succ i=>simpa using d i b c (by simpa using h)
theorem QG{α β γ:Type}{R:α->β->Prop}{f:γ->α}{g:γ->β}:∀(l:List γ),(∀x∈l,R (f x) (g x))->Paired R (l.map f) (l.map g)
 |[],_=>.nil
 |x::l,h=>.cons (h x Bn) (QG l λy a=>h y (B6 _ a))
theorem Le{c d:Jb}{pins:B'}{σ:L2.St}{H:Hp}{s:Shared}(I:Inv X pins σ H s):∀(zs:List (Row c d))(f:List Value),At (zs.map (·.1)) f->(∀z∈zs,∃t,z.1=.ref t/\Ar X.K H t [c.val z.2.1,d.val z.2.2])->Paired (HR c d s.heap) zs f
 |[],f,r,_=>by cases r;exact .nil
 | z :: zs,f,r,h=>by
   cases r with
   |cons a b =>
     obtain⟨t,e,j⟩:=h z Bn;obtain⟨m,g,it,_⟩:=I.tuple j
     cases g with
     |cons g i =>
       cases i with
       |cons i k =>
         cases k;dsimp only at a;rw[e] at a;exact .cons ⟨t,_,_,e,a,it,g,i⟩ (Le I zs _ b λy l=>h y (B6 _ l))
theorem WU(c d:Jb):A6 X (.builtin "sorted") (Mt X c d):=by
 intro ar s σ H vs us ak I r h;obtain⟨l,b,rfl,Q,aq,R,q⟩:=h;obtain⟨u,rfl,S⟩:=Fa r;obtain rfl:u=Value.ref l:=S;obtain⟨g,W,Y,_⟩:=I.list Q;have m:=Le I b g W R;have N:b.length=g.length:=m.length
 let e:Row c d:=(V.non,(c.dflt,d.dflt))
 refine Ud (O:=BP c.O d.O) (key:=λi=>(b.getD i e).2) (κ:=tuples' true) (vs:=g) (by obtain⟨o,n,w,p,F,A⟩:=Y;exact⟨o,w,p,n,A⟩) (by lia) (λB C k Q' Z=>?_) (λC k i j al z hj hC=>?_) λD C n f U G M ae hg=>?_;have af:Paired (HR c d C) b g:=Paired.mapP m λζ ζ x=>x.keeps k;obtain⟨fs,k1,k2,k3⟩:=JP _ _ af;refine PySem.W.kat_kind (T:=c.T) k1 (by lia) (λv E=>?_) c.tT (by rw[c.tN];exact Z);obtain⟨a,ha⟩:=k3 v E;exact c.look _ _ a v ha;obtain⟨t,u1,u2,w,p,F,A,a5⟩:=(O6 m i e Value.none (by lia)).keeps k;obtain⟨t',ao,v2,b1,b2,b3,b4,b5⟩:=(O6 m j e Value.none (by lia)).keeps k;unfold PySem.W.kas_ask;rw[p,b2];exact cE c d F b3 A a5 b4 b5 hC
 have ag:∀i∈f,i<b.length:=λi z=>by
  have:=M.mem_iff.mp z;rw[N];simpa using this
 have aj:(List.range b.length).map (λi=>b.getD i e)=b:=by
  apply List.ext_getElem?;intro k;by_cases J:k<b.length;simp[J,B1];simp[J]
 have P:(f.map λi=>b.getD i e).Perm b:=by
  have:=M.map (λi=>b.getD i e)
  rwa [<-N,aj] at this
 have E:At ((f.map λi=>b.getD i e).map (·.1)) (f.map λi=>g.getD i Value.none):=by
  rw[DR];refine QG f λi z=>?_;obtain⟨t,u1,u2,w,p,_⟩:=O6 m i e Value.none (ag i z);show RelV (b.getD i e).1 (g.getD i Value.none);rw[w,p];exact rfl
 have ah:((f.map λi=>b.getD i e).map (·.2)).Pairwise (BP c.O d.O).kle:=by
  refine QF (λζ ζ ζ=>KeyOrd.kle_trans) _ λi a an K B=>?_;rw[DR,A8,E8] at K B;obtain⟨x,e1,rfl⟩:=K;obtain⟨y,L,rfl⟩:=B;obtain⟨ai,_⟩:=AY.mp L;have:=ae i ai;have aa:f.getD i 0=x:=by rw[B1,e1];rfl
  have ab:f.getD (i+1) 0=y:=by rw[B1,L];rfl
  rw[aa,ab] at this;exact this
 exact⟨.ref D,upd H D (.lst ((f.map λi=>b.getD i e).map (·.1))),I.laidN (t':=s.toks) U G ⟨by rw[Ak,P.length_eq];exact CI (BK (by lia)),_,n,E,hg⟩,rfl,q D _ P ah (I.freshN G)⟩
end
open Ord
abbrev GH (p:Str×Int):Dt:=.tup [.str p.1,.int p.2]
abbrev Cu:Type:=List (Str×Int)×List Str
abbrev Lf (s:Cu):Dt:=.tup [.lst (s.1.map GH),.lst (s.2.map Dt.str)]
def Do (K:Ah) (H:Hp) (a:Addr) (gs:List (Str×Int)):Prop:=∃vs,Ae K H a vs/\Aj K H vs (gs.map GH)
def HQ (K:Ah) (H:Hp) (a:Addr) (ss:List Cu):Prop:=∃vs,Ae K H a vs/\Aj K H vs (ss.map Lf)
def Do.same{K:Ah}{H H':Hp}{a:Addr}{gs:List (Str×Int)}(e:Ac H H')(h:Do K H a gs):Do K H' a gs:=by
 obtain⟨b,c,d⟩:=h;exact⟨b,e.seq c,d.same e⟩
theorem WV{K:Ah}{H:Hp}:∀{vs:List V}{xs:List Str},Aj K H vs (xs.map Dt.str)->vs=xs.map V.str
 |_,[],.nil=>rfl
 |_,_::_,.cons h t=>by cases h;rw[WV t];rfl
variable {H:Hp}{v:V}{p:Str×Int}
def QH{K:Ah}(h:Ap K H v (GH p)):∃t,v=.ref t/\Ar K H t [.str p.1,.int p.2]:=by
 cases h with
 | tup h t =>
   cases t with
   |cons a t =>
     cases t with
     |cons b t =>
       cases t;cases a;cases b;exact⟨_,rfl,h⟩
variable {vs:List V}{gs:List (Str×Int)}{i:Nat}
def Aj.goes_get{K:Ah}(h:Aj K H vs (gs.map GH))(hv:vs[i]?=some v):∃p t,gs[i]?=some p/\v=.ref t/\Ar K H t [.str p.1,.int p.2]:=by
 obtain⟨d,hd,a⟩:=h.get hv;rw[A8] at hd
 cases e:gs[i]? with
 |none=>rw[e] at hd;cases hd
 |some p =>
   rw[e] at hd;cases hd;obtain⟨t,b,c⟩:=QH a;exact⟨p,t,rfl,b,c⟩
def F0{K:Ah}{s:Cu}(h:Ap K H v (Lf s)):∃t g e,v=.ref t/\Ar K H t [.ref g,.ref e]/\Do K H g s.1/\Ae K H e (s.2.map V.str):=by
 cases h with
 | tup h t =>
   cases t with
   |cons b t =>
     cases t with
     |cons c t =>
       cases t
       cases b with
       |lst d f =>
         cases c with
         |lst a i =>
           rw[WV i] at a;exact⟨_,_,_,rfl,h,⟨_,d,f⟩,a⟩
variable {α:Type}
def Aj.len_map{K:Ah}{f:α->Dt}{xs:List α}(h:Aj K H vs (xs.map f)):vs.length=xs.length:=by
 have:=h.length
 rwa [Ak] at this
def cF{b:List Value}{ss:List Str}(c:StrsAre b ss)(a:2<=b.length):keyKind' b.toArray=pure oneType':=by
 match b,c,a with
 |[],_,a=>simp at a
 |[_],_,a=>simp at a
 |d::e::j,c,_=>exact keyKind_strs c
section
variable {X:Cx}
def Mu (X:Cx):List V->Hp->VK->Prop:=λvs H Q=>∃(l:Addr)(ss:List Str),vs=[.ref l]/\Ae X.K H l (ss.map V.str)/\ss.length<64/\∀(D:Addr)(ss':List Str),ss'.Perm ss->ss'.Pairwise Dm.kle->H D=none->Q (.ref D) (upd H D (.lst (ss'.map V.str)))
theorem cG:A6 X (.builtin "sorted") (Mu X):=by
 intro ai s σ H vs us ab I r h;obtain⟨l,a,rfl,F,ah,q⟩:=h;obtain⟨u,rfl,G⟩:=Fa r;obtain rfl:u=Value.ref l:=G;obtain⟨g,m,J,_⟩:=I.list F;have K:=Z8 m;have C:a.length=g.length:=by have:=m.length;rwa [Ak] at this
 have p:∀i,i<a.length->∃t,g.getD i Value.none=.str (a.getD i default) t:=λi c=>by
  have:=O6 m i V.non Value.none (by rw[Ak];exact c)
  have e:(a.map V.str).getD i V.non=V.str (a.getD i default):=by
   rw[B1,A8,B1,AC c];rfl
  rw[e] at this;exact this
 refine Ud (O:=Dm) (key:=λi=>a.getD i default) (κ:=oneType') (vs:=g) J.isList (by lia) (λd v k Q' L=>?_) (λv k i j ae c hj M=>?_) λD v n b U w B T N=>?_;rw[cF K d];exact Aw L;obtain⟨t,o⟩:=p i (by lia);obtain⟨t',f⟩:=p j (by lia);unfold PySem.W.kas_ask;rw[o,f,keyLt'_oneType];exact oneLt_str M
 have W:∀i∈b,i<a.length:=λi c=>by
  have:=B.mem_iff.mp c;rw[C];simpa using this
 have aa:(List.range a.length).map (λi=>a.getD i default)=a:=by
  apply List.ext_getElem?;intro k;by_cases z:k<a.length;simp[z,B1];simp[z]
 have E:(b.map λi=>a.getD i default).Perm a:=by
  have:=B.map (λi=>a.getD i default)
  rwa [<-C,aa] at this
 have P:At ((b.map λi=>a.getD i default).map V.str) (b.map λi=>g.getD i Value.none):=by
  rw[DR];exact QG b λi c=>p i (W i c)
 have Y:(b.map λi=>a.getD i default).Pairwise Dm.kle:=by
  refine QF (R:=Dm.kle) (λζ ζ ζ h k=>KeyOrd.kle_trans (O:=Dm) h k) _ λi af ag A d=>?_;rw[A8,E8] at A d;obtain⟨x,o,rfl⟩:=A;obtain⟨y,f,rfl⟩:=d;obtain⟨Z,_⟩:=AY.mp f;have:=T i Z;have Q:b.getD i 0=x:=by rw[B1,o];rfl
  have S:b.getD (i+1) 0=y:=by rw[B1,f];rfl
  rw[Q,S] at this;exact this
 exact⟨.ref D,upd H D (.lst ((b.map λi=>a.getD i default).map V.str)),I.laidN (t':=s.toks) U w ⟨by rw[Ak,E.length_eq];exact CI (BK (by lia)),_,n,P,N⟩,rfl,q D _ E Y (I.freshN w)⟩
end
abbrev QI (K:Ah) (H:Hp) (z:Row EX JM):Prop:=∃t,z.1=.ref t/\Ar K H t [V.str z.2.1,V.int z.2.2]
theorem Ue{K:Ah}{H:Hp}:∀{ts:List Addr}{gs:List (Str×Int)},ts.length=gs.length->(∀(n:Nat)(a:Addr)(p:Str×Int),ts[n]?=some a->gs[n]?=some p->H a=some (.tup [.str p.1,.int p.2])) ->
 ∃zs:List (Row EX JM),zs.map (·.1)=ts.map V.ref/\zs.map (·.2)=gs/\∀z∈zs,QI K H z
 |[],[],_,_=>⟨[],rfl,rfl,λz hz=>by cases hz⟩
 |[],_::_,h,_=>by simp at h
 |_::_,[],h,_=>by simp at h
 |a::ts,p::gs,h,k=>by
   obtain⟨zs,b,c,d⟩:=Ue (K:=K) (H:=H) (ts:=ts) (gs:=gs) (by simpa using h) λn a p b c=>k (n+1) a p (by simpa using b) (by simpa using c);refine⟨(V.ref a,p)::zs,by rw[Eh,b];rfl,by rw[Eh,c],λz hz=>?_⟩;rcases B5.mp hz with e|hz;rw[e];exact⟨a,rfl,Ar.of (k 0 a p rfl rfl)⟩;exact d z hz
theorem Uf{K:Ah}{H:Hp}:∀(zs:List (Row EX JM)),(∀z∈zs,QI K H z)->Aj K H (zs.map (·.1)) ((zs.map (·.2)).map GH)
 |[],_=>.nil
 |z::zs,h=>by
   obtain⟨t,e,a⟩:=h z Bn;refine .cons ?_ (Uf zs λy b=>h y (B6 _ b));show Ap K H z.1 (GH z.2);rw[e];exact .tup a (.cons (.str _) (.cons (.int _) .nil))
variable {a D:Addr}{o:HO}{xs:List V}
def Ae.updN{K:Ah}(b:a≠D)(h:Ae K H a xs):Ae K (upd H D o) a xs:=by
 rcases h with(h|⟨u,h⟩)|h;exact .inl (.inl (by rw[AD b];exact h));exact .inl (.inr ⟨u,by rw[AD b];exact h⟩);exact .inr h
def Ar.updL{K:Ah}{ys:List V}(b:H D=some (.lst ys))(h:Ar K H a xs):Ar K (upd H D o) a xs:=by
 rcases h with(h|⟨u,h⟩)|h;exact .inl (.inl (by rw[AD λz=>by rw[z,b] at h;cases h];exact h));exact .inl (.inr ⟨u,by rw[AD λz=>by rw[z,b] at h;cases h];exact h⟩);exact .inr h
theorem WW{K:Ah}{H:Hp}{D:Addr}{o:HO}{ys:List V}(b:H D=some (.lst ys)):∀{vs:List V}{gs:List (Str×Int)},Aj K H vs (gs.map GH)->Aj K (upd H D o) vs (gs.map GH)
 |_,[],.nil=>.nil
 |_,p::gs,.cons h t=>by
   obtain⟨a,e,c⟩:=QH h;subst e;exact .cons (.tup (c.updL b) (.cons (.str _) (.cons (.int _) .nil))) (WW b t)
def Do.updL{K:Ah}{ys:List V}(b:H D=some (.lst ys))(c:a≠D)(h:Do K H a gs):Do K (upd H D o) a gs:=by
 obtain⟨vs,d,e⟩:=h;exact⟨vs,d.updN c,WW b e⟩
structure A3 (K:Ah) (F:Addr->Prop) (H:Hp) (D:Addr) (us:List Addr) (rs:List Cu):Prop where
 len:us.length=rs.length
 at_:∀(i:Nat)(u:Addr)(r:Cu),us[i]?=some u->rs[i]?=some r->∃G E xs,H u=some (.tup [.ref G,.ref E])/\Do K H G r.1/\H G=some (.lst xs)/\H E=some (.lst (r.2.map V.str))/\G≠D/\E≠D/\F G/\F E
variable {F:Addr->Prop}
def A3.nil{K:Ah}:A3 K F H D [] []:=⟨rfl,λi u r h=>by simp at h⟩
def A3.same{K:Ah}{F:Addr->Prop}{H H':Hp}{D:Addr}{us:List Addr}{a:List Cu}(e:Ac H H')(h:A3 K F H D us a):A3 K F H' D us a:=by
 refine⟨h.len,λi u r b c=>?_⟩;obtain⟨G,E,xs,d,f,g,j,k,l,m⟩:=h.at_ i u r b c;exact⟨G,E,xs,e _ _ d,f.same e,e _ _ g,e _ _ j,k,l,m⟩
def A3.updL{K:Ah}{F:Addr->Prop}{H:Hp}{D:Addr}{o:HO}{ys:List V}{us:List Addr}{c:List Cu}(d:H D=some (.lst ys))(h:A3 K F H D us c):A3 K F (upd H D o) D us c:=by
 refine⟨h.len,λi u r f g=>?_⟩;obtain⟨G,E,xs,a,j,k,l,b,e,m⟩:=h.at_ i u r f g;exact⟨G,E,xs,by rw[AD λz=>by rw[z,d] at a;cases a];exact a,j.updL d b,by rw[AD b];exact k,by rw[AD e];exact l,b,e,m⟩
variable {u G E:Addr}{us:List Addr}{rs:List Cu}
def A3.snoc{K:Ah}{r:Cu}(h:A3 K F H D us rs)(d:H u=some (.tup [.ref G,.ref E]))(f:Do K H G r.1)(g:H G=some (.lst xs))(j:H E=some (.lst (r.2.map V.str)))(k:G≠D)(l:E≠D)(m:F G)(n:F E):A3 K F H D (us++[u]) (rs++[r]):=by
 refine⟨by rw[AS,AS,h.len];rfl,λi v q a b=>?_⟩;rcases Nat.lt_or_ge i us.length with c|p;rw[Ei c] at a;rw[Ei (by rw[<-h.len];exact c)] at b;exact h.at_ i v q a b;have o:i<(us++[u]).length:=(AY.mp a).1;rw[AS,CZ] at o;have e:i=us.length:=(by lia);subst e;rw[ED (AG _),Nat.sub_self] at a;rw[ED (by rw[h.len];exact AG _),h.len,Nat.sub_self] at b;cases a;cases b;exact⟨G,E,xs,d,f,g,j,k,l,m,n⟩
def JQ:([]:List V).length+1+1+1<=sizeLine:=by decide
theorem A3.dts{K:Ah}{F:Addr->Prop}{H:Hp}{D:Addr}:∀{us:List Addr}{rs:List Cu},A3 K F H D us rs->Aj K H (us.map V.ref) (rs.map Lf)
 |[],[],_=>.nil
 |[],_::_,h=>by have:=h.len;simp at this
 |_::_,[],h=>by have:=h.len;simp at this
 |u::us,r::rs,h=>by
   obtain⟨G,E,xs,a,⟨g,b,f⟩,j,c,_⟩:=h.at_ 0 u r rfl rfl;refine .cons (.tup (Ar.of a) (.cons (.lst b f) (.cons (.lst (Ae.of c) (Aj.strs _)) .nil))) ?_;exact A3.dts (D:=D) ⟨by simpa using h.len,λi v q d e=>h.at_ (i+1) v q (by simpa using d) (by simpa using e)⟩
def A3.stts{K:Ah}(e:H a=some (.lst (us.map V.ref)))(h:A3 K F H a us rs):HQ K H a rs:=⟨_,Ae.of e,h.dts⟩
variable {O:KeyOrd}
def Mv{l m:List O.α}(h:l.Perm m)(c:l.Pairwise O.kle)(d:m.Pairwise O.kle):l=m:=
 h.eq_of_pairwise (λa b ζ ζ x y=>KeyOrd.kle_antisymm x y) c d
def HS(p q:Str×Int):Dl 2 (GH p) (GH q):=.tup (.cons (.str _ _) (.cons (.int _ _) (.nil _)))
structure GT (H:Hp) (ts:List Addr) (gs:List (Str×Int)):Prop where
 len:ts.length=gs.length
 at_:∀(n:Nat)(t:Addr)(p:Str×Int),ts[n]?=some t->gs[n]?=some p->H t=some (.tup [.str p.1,.int p.2])
def GT.nil:GT H [] []:=⟨rfl,λn t p h=>by simp at h⟩
variable {H':Hp}{ts:List Addr}
def GT.same(e:Ac H H')(h:GT H ts gs):GT H' ts gs:=⟨h.len,λn t p a b=>e _ _ (h.at_ n t p a b)⟩
def GT.updL(b:H a=some (.lst xs))(h:GT H ts gs):GT (upd H a o) ts gs:=⟨h.len,λn t p c d=>by
 have:=h.at_ n t p c d;rw[AD λz=>by rw[z,b] at this;cases this]
 exact this⟩
def GT.snoc{t:Addr}(h:GT H ts gs)(e:H t=some (.tup [.str p.1,.int p.2])):GT H (ts++[t]) (gs++[p]):=by
 refine⟨by rw[AS,AS,h.len];rfl,λn v q a b=>?_⟩;rcases Nat.lt_or_ge n ts.length with c|g;rw[Ei c] at a;rw[Ei (by rw[<-h.len];exact c)] at b;exact h.at_ n v q a b;have f:n<(ts++[t]).length:=(AY.mp a).1;rw[AS,CZ] at f;have d:n=ts.length:=(by lia);subst d;rw[ED (AG _),Nat.sub_self] at a;rw[ED (by rw[h.len];exact AG _),h.len,Nat.sub_self] at b;cases a;cases b;exact e
def GT.dts{K:Ah}(h:GT H ts gs):Aj K H (ts.map V.ref) (gs.map GH):=by
 obtain⟨a,b,c,d⟩:=Ue (K:=K) h.len h.at_;rw[<-b,<-c];exact Uf a d
variable {te:TE}{σ:St}{n:Nat}
def Ug{k:Nat}{d:List Nat}{g:TG}{Y:Hp}{Q:Addr->Hp->Prop}{lo:Int}(Pv:Addr->Nat->List V->Hp->Prop)
 (e:∀D,Y D=none->Pv D 0 [] (upd Y D (.lst [])))
 (f:∀(D:Addr)(i:Nat)(ys:List V)(a:Hp)(R:VK),Y D=none->i<n->Pv D i ys a->(∀y b,b D=some (.lst ys)->ys.length<sizeLine->Pv D (i+1) (ys++[y]) (upd b D (.lst (ys++[y])))->R y b)->g (.int (lo+i)) (FR k d σ) a λσ4 h=>te σ4 h R)
 (hd:∀D ys a,Y D=none->Pv D n ys a->Q D a):JI (NQ lo n) k d g HM te σ Y Q:=NW n Pv e (λD i ys a p c=>c) (λD ys a p=>AG _) (λD i ys a x l R m j c p y k o=>by obtain⟨rfl,rfl⟩:=y;exact f D i ys _ R j c p k) hd
structure Keeps (M:Addr->Prop) (H H':Hp):Prop where
 at_:∀x o,H x=some o->¬M x->H' x=some o
 ls:∀x o,M x->H x=some o->∃xs,o=HO.lst xs
section
variable {K:Ah} {M:Addr->Prop} {H H':Hp}
def Keeps.refl(h:∀x o,M x->H x=some o->∃xs,o=HO.lst xs):Keeps M H H:=⟨λζ ζ e ζ=>e,h⟩
def Keeps.set(k:Keeps M H H')(a:M D):Keeps M H (upd H' D o):=⟨λx u e n=>by
 have b:x≠D:=λz=>n (by rw[z];exact a)
 rw[AD b];exact k.at_ x u e n,k.ls⟩
def Keeps.one(a:H D=some (.lst xs)):Keeps (·=D) H (upd H D o):=
 ⟨λx u e n=>by rw[AD n];exact e,λx u m e=>by rw[m,a] at e;exact⟨xs,(Bz e).symm⟩⟩
def Keeps.same{a:Hp}(k:Keeps M H H')(s:Ac H' a):Keeps M H a:=⟨λx o e n=>s _ _ (k.at_ x o e n),k.ls⟩
def Keeps.noT(k:Keeps M H H')(h:H a=some (.tup xs)):¬M a:=λm=>by
 obtain⟨_,e⟩:=k.ls _ _ m h;cases e
def Keeps.tup(k:Keeps M H H'){a:Addr}{xs:List V}(h:H a=some (.tup xs)):H' a=some (.tup xs):=k.at_ _ _ h (k.noT h)
def Keeps.tups(k:Keeps M H H'){ps:A'}(h:Cf H ts ps):Cf H' ts ps:=⟨h.len,λn t p a b=>k.tup (h.at_ n t p a b)⟩
end
def QJ{K:Ah}{k:Nat}{l:List Nat}{g:TG}{tc:TT}{Y:Hp}{Q:Addr->Hp->Prop}(Pv:Addr->Nat->List V->Hp->Prop)
 (m:∀D,Y D=none->Pv D 0 [] (upd Y D (.lst []))) (f:∀D i ys c,Pv D i ys c->Ae K c a xs)
 (n:∀D i x ys c(R:VK)(e:Hp->Prop),Y D=none->xs[i]?=some x->Pv D i ys c->(∀y h,h D=some (.lst ys)->ys.length<sizeLine->Pv D (i+1) (ys++[y]) (upd h D (.lst (ys++[y])))->R y h)->(∀d,Pv D (i+1) ys d->e d)->g x (FR k l σ) c λσ4 o=>tc σ4 o λb d=>if b=true then te σ4 d R else e d)
 (hd:∀D ys c,Y D=none->Pv D xs.length ys c->Q D c):JI (NP K a) k l g tc te σ Y Q:=NW xs.length Pv m (λD i ys c p j=>⟨xs,xs[i],f D i ys c p,by simp[j]⟩) (λD ys c p=>⟨xs,f D _ ys c p,AG _⟩) (λD i ys c x s R e q j p y k r=>by obtain⟨rfl,y⟩:=y;exact n D i x ys _ R e q (y xs (f D i ys _ p)) p k r) hd
structure F1 (K:Ah) (F:Addr->Prop) (H:Hp) (t:Addr) (rs:List Cu) (n:Int) (ord:A'):Prop where
 ex:∃(a o:Addr)(us:List Addr)(ts:List Addr),H t=some (.tup [.ref a,.int n,.ref o])/\F a/\F o/\a≠o/\H a=some (.lst (us.map V.ref))/\A3 K F H a us rs/\H o=some (.lst (ts.map V.ref))/\Cf H ts ord
def F1.same{K:Ah}{F:Addr->Prop}{H H':Hp}{t:Addr}{rs:List Cu}{n:Int}{ord:A'}(s:Ac H H')(h:F1 K F H t rs n ord):F1 K F H' t rs n ord:=by
 obtain⟨a,o,us,ts,b,c,d,e,f,g,i,j⟩:=h.ex;exact⟨a,o,us,ts,s _ _ b,c,d,e,s _ _ f,g.same s,s _ _ i,j.same s⟩
section
variable {X:Cx}
end
abbrev BU:C'->Dt
 |none=>.non
 |some p=>GH p
def Hl (K:Ah) (H:Hp) (a:Addr) (as:List (C')):Prop:=∃vs,Ae K H a vs/\Aj K H vs (as.map BU)
abbrev Qu:Type:=Int×Int×List Str
abbrev WX (q:Qu):Dt:=.tup [.int q.1,.int q.2.1,.tup (q.2.2.map Dt.str)]
section
variable {K:Ah} {H H':Hp} {a:Addr}
def Hl.same{as:List (C')}(e:Ac H H')(h:Hl K H a as):Hl K H' a as:=by
 obtain⟨vs,b,c⟩:=h;exact⟨vs,e.seq b,c.same e⟩
def Mw{o:C'}(h:Ap K H v (BU o)):(o=none/\v=.non)\/∃p t,o=some p/\v=.ref t/\Ar K H t [.str p.1,.int p.2]:=by
 cases o with
 |none=>cases h;exact .inl ⟨rfl,rfl⟩
 |some p =>
   obtain⟨t,e,a⟩:=QH h;exact .inr ⟨p,t,rfl,e,a⟩
def Hl.get{as:List (C')}(h:Hl K H a as){k:Nat}(f:k<as.length):∃vs v,Ae K H a vs/\vs[k]?=some v/\((as[k]?=some none/\v=.non)\/∃p t,as[k]?=some (some p)/\v=.ref t/\Ar K H t [.str p.1,.int p.2]):=by
 obtain⟨vs,g,j⟩:=h;have b:=AC f;obtain⟨v,l,hd⟩:=j.get' (i:=k) (d:=BU as[k]) (by rw[A8,b];rfl);refine⟨vs,v,g,l,?_⟩;rcases Mw hd with⟨c,e⟩|⟨p,t,c,e,m⟩;exact .inl ⟨by rw[b,c],e⟩;exact .inr ⟨p,t,by rw[b,c],e,m⟩
def Do.get(h:Do K H a gs){k:Nat}(b:gs[k]?=some p):∃vs t,Ae K H a vs/\vs[k]?=some (.ref t)/\Ar K H t [.str p.1,.int p.2]:=by
 obtain⟨vs,c,e⟩:=h;obtain⟨v,f,hd⟩:=e.get' (i:=k) (d:=GH p) (by rw[A8,b];rfl);obtain⟨t,rfl,g⟩:=QH hd;exact⟨vs,t,c,f,g⟩
end
structure QT (H:Hp) (ts:List Addr) (qs:List Qu):Prop where
 len:ts.length=qs.length
 at_:∀(n:Nat)(t:Addr)(q:Qu),ts[n]?=some t->qs[n]?=some q->∃u,H t=some (.tup [.int q.1,.int q.2.1,.ref u])/\H u=some (.tup (q.2.2.map V.str))
def QT.nil:QT H [] []:=⟨rfl,λn t p h=>by simp at h⟩
variable {qs:List Qu}
def QT.same(e:Ac H H')(h:QT H ts qs):QT H' ts qs:=⟨h.len,λn t p a b=>by
 obtain⟨u,c,d⟩:=h.at_ n t p a b
 exact⟨u,e _ _ c,e _ _ d⟩⟩
variable {M:Addr->Prop}
def QT.keeps(k:Keeps M H H')(h:QT H ts qs):QT H' ts qs:=⟨h.len,λn t p a b=>by
 obtain⟨u,c,d⟩:=h.at_ n t p a b
 exact⟨u,k.tup c,k.tup d⟩⟩
def GT.keeps(k:Keeps M H H')(h:GT H ts gs):GT H' ts gs:=⟨h.len,λn t p a b=>k.tup (h.at_ n t p a b)⟩
def QT.snoc{t:Addr}{q:Qu}(h:QT H ts qs)(e:H t=some (.tup [.int q.1,.int q.2.1,.ref u]))(d:H u=some (.tup (q.2.2.map V.str))):QT H (ts++[t]) (qs++[q]):=by
 refine⟨by rw[AS,AS,h.len];rfl,λn v f a b=>?_⟩;rcases Nat.lt_or_ge n ts.length with c|j;rw[Ei c] at a;rw[Ei (by rw[<-h.len];exact c)] at b;exact h.at_ n v f a b;have i:n<(ts++[t]).length:=(AY.mp a).1;rw[AS,CZ] at i;have g:n=ts.length:=(by lia);subst g;rw[ED (AG _),Nat.sub_self] at a;rw[ED (by rw[h.len];exact AG _),h.len,Nat.sub_self] at b;cases a;cases b;exact⟨u,e,d⟩
def QT.dts{K:Ah}(h:QT H ts qs):Aj K H (ts.map V.ref) (qs.map WX):=by
 refine Aj.of_get (by simpa using h.len) λn v d a b=>?_;rw[A8] at a b;obtain⟨t,c,rfl⟩:=E8.mp a;obtain⟨q,e,rfl⟩:=E8.mp b;obtain⟨u,f,g⟩:=h.at_ n t q c e;exact .tup (Ar.of f) (.cons (.int _) (.cons (.int _) (.cons (.tup (Ar.of g) (Aj.strs _)) .nil)))
def DS (ths:List (Str×Int)) (as:List (C')) (q:Int):Str×Int:=match as[q.toNat]? with
 |some (some p)=>if p.1=("thing" : Str) then(match ths[p.2.toNat]? with
   |some k=>if k.1=("part" : Str) then("to",k.2) else("no",0)
   |none=>("no",0)) else("no",0)
 |some none=>("open",q)
 |none=>("no",0)
def C4 (ths:List (Str×Int)) (as:List (C')) (p:Str×Int):Str×Int:=
 if p.1=("part" : Str) then("to",p.2) else if p.1=("sort" : Str) then DS ths as p.2 else("no",0)
structure Fb (ths:List (Str×Int)) (as:List (C')):Prop where
 q:∀p∈ths,p.1=("sort" : Str)->0<=p.2/\p.2<as.length
 t:∀p,some p∈as->p.1=("thing" : Str)->0<=p.2/\p.2<ths.length
variable {ths:List (Str×Int)}{as:List (C')}
def cH(h:as[n]?=some none):DS ths as (n:Int)=(("open" : Str),(n:Int)):=by
 unfold DS;rw[Bo,h]
def cI(h:as[n]?=some (some p))(a:p.1≠("thing" : Str)):DS ths as (n:Int)=(("no" : Str),0):=by
 unfold DS;rw[Bo,h];exact An a
variable {m:Nat}
def cJ{k:Str×Int}(h:as[n]?=some (some p))(a:p.1=("thing" : Str))(b:p.2=(m:Int))(c:ths[m]?=some k)(d:k.1=("part" : Str)):DS ths as (n:Int)=(("to" : Str),k.2):=by
 unfold DS;rw[Bo,h]
 show(if p.1=("thing" : Str) then _ else _)=_
 rw[Al a,b,Bo,c];exact Al d
def cK{k:Str×Int}(h:as[n]?=some (some p))(a:p.1=("thing" : Str))(b:p.2=(m:Int))(c:ths[m]?=some k)(d:k.1≠("part" : Str)):DS ths as (n:Int)=(("no" : Str),0):=by
 unfold DS;rw[Bo,h]
 show(if p.1=("thing" : Str) then _ else _)=_
 rw[Al a,b,Bo,c];exact An d
variable {x:Str}
def WY{X:Cx}{L:Pos}{e:Expr}{op:Operator}{a:R2}{t:Pos}(b:X.N.Nodup)(c:X.N[i]?=some x)(d:Loc X.env.scope x)(f:PE X e te)(g:Dv X (inplaceOp op) a)(h:X.fn x=true\/X.env.scope.names.lookup x=some .local:=by first|exact .inl rfl|exact .inr rfl|assumption) :
 PS X (.AugAssign (.Name x t) op e L) (OD i te a):=L1 b c d f g h
abbrev B9:Type:=Str×Str×Int
abbrev G2 (p:B9):List V:=[.str p.1,.str p.2.1,.int p.2.2]
abbrev DT:Type:=Str×Str×Str×Int
abbrev G3 (p:DT):List V:=[.str p.1,.str p.2.1,.str p.2.2.1,.int p.2.2.2]
abbrev O7 (p:B9):Dt:=.tup [.str p.1,.str p.2.1,.int p.2.2]
abbrev O8 (p:DT):Dt:=.tup [.str p.1,.str p.2.1,.str p.2.2.1,.int p.2.2.2]
section
variable {α:Type} {f:α->List V} {H H':Hp} {ts:List Addr} {rs:List α}
structure RT (f:α->List V) (H:Hp) (ts:List Addr) (rs:List α):Prop where
 len:ts.length=rs.length
 at_:∀(n:Nat)(t:Addr)(r:α),ts[n]?=some t->rs[n]?=some r->H t=some (.tup (f r))
def RT.nil:RT f H [] []:=⟨rfl,λn t p h=>by simp at h⟩
def RT.same(e:Ac H H')(h:RT f H ts rs):RT f H' ts rs:=⟨h.len,λn t p a b=>e _ _ (h.at_ n t p a b)⟩
def RT.keeps(k:Keeps M H H')(h:RT f H ts rs):RT f H' ts rs:=⟨h.len,λn t p a b=>k.tup (h.at_ n t p a b)⟩
def RT.snoc{t:Addr}{r:α}(h:RT f H ts rs)(e:H t=some (.tup (f r))):RT f H (ts++[t]) (rs++[r]):=by
 refine⟨by rw[AS,AS,h.len];rfl,λn v q a b=>?_⟩;rcases Nat.lt_or_ge n ts.length with c|i;rw[Ei c] at a;rw[Ei (by rw[<-h.len];exact c)] at b;exact h.at_ n v q a b;have g:n<(ts++[t]).length:=(AY.mp a).1;rw[AS,CZ] at g;have d:n=ts.length:=(by lia);subst d;rw[ED (AG _),Nat.sub_self] at a;rw[ED (by rw[h.len];exact AG _),h.len,Nat.sub_self] at b;cases a;cases b;exact e
def RT.dts{K:Ah}{g:α->Dt}(c:∀(r:α)(t:Addr),H t=some (.tup (f r))->Ap K H (.ref t) (g r))(h:RT f H ts rs):Aj K H (ts.map V.ref) (rs.map g):=by
 refine Aj.of_get (by simpa using h.len) λn v d a b=>?_;rw[A8] at a b;obtain⟨t,e,rfl⟩:=E8.mp a;obtain⟨q,i,rfl⟩:=E8.mp b;exact c q t (h.at_ n t q e i)
end
def Mx{K:Ah}(r:B9)(t:Addr)(h:H t=some (.tup (G2 r))):Ap K H (.ref t) (O7 r):=.tup (Ar.of h) (.cons (.str _) (.cons (.str _) (.cons (.int _) .nil)))
def My{K:Ah}(r:DT)(t:Addr)(h:H t=some (.tup (G3 r))):Ap K H (.ref t) (O8 r):=.tup (Ar.of h) (.cons (.str _) (.cons (.str _) (.cons (.str _) (.cons (.int _) .nil))))
abbrev Bh:Type:=List B9×List DT
abbrev HU (s:Bh):Dt:=.tup [.lst (s.1.map O7),.lst (s.2.map O8)]
structure Hm (H:Hp) (u G E:Addr) (s:Bh):Prop where
 u:H u=some (.tup [.ref G,.ref E])
 g:∃ts:List Addr,H G=some (.lst (ts.map V.ref))/\RT G2 H ts s.1
 e:∃ts:List Addr,H E=some (.lst (ts.map V.ref))/\RT G3 H ts s.2
def Hm.same{H H':Hp}{u G E:Addr}{s:Bh}(e:Ac H H')(h:Hm H u G E s):Hm H' u G E s:=by
 obtain⟨a,⟨ts,b,c⟩,⟨us,d,f⟩⟩:=h;exact⟨e _ _ a,⟨ts,e _ _ b,c.same e⟩,⟨us,e _ _ d,f.same e⟩⟩
def Hm.keeps{M:Addr->Prop}{H H':Hp}{u G E:Addr}{s:Bh}(k:Keeps M H H')(b:¬M G)(c:¬M E)(h:Hm H u G E s):Hm H' u G E s:=by
 obtain⟨a,⟨ts,d,e⟩,⟨us,f,g⟩⟩:=h;exact⟨k.tup a,⟨ts,k.at_ _ _ d b,e.keeps k⟩,⟨us,k.at_ _ _ f c,g.keeps k⟩⟩
variable {s:Bh}
def Hm.dt{K:Ah}(h:Hm H u G E s):Ap K H (.ref u) (HU s):=by
 obtain⟨a,⟨ts,b,c⟩,⟨us,d,e⟩⟩:=h;exact .tup (Ar.of a) (.cons (.lst (Ae.of b) (c.dts Mx)) (.cons (.lst (Ae.of d) (e.dts My)) .nil))
structure Dp (H:Hp) (D:Addr) (us Gs Es:List Addr) (ss:List Bh):Prop where
 top:H D=some (.lst (us.map V.ref))
 lu:us.length=ss.length
 lg:Gs.length=ss.length
 le:Es.length=ss.length
 at_:∀(i:Nat)(u G E:Addr)(s:Bh),us[i]?=some u->Gs[i]?=some G->Es[i]?=some E->ss[i]?=some s->Hm H u G E s
def Dp.same{H H':Hp}{D:Addr}{us a b:List Addr}{ss:List Bh}(e:Ac H H')(h:Dp H D us a b ss):Dp H' D us a b ss:=
 ⟨e _ _ h.top,h.lu,h.lg,h.le,λi u G E s c d f g=>(h.at_ i u G E s c d f g).same e⟩
variable {Gs Es:List Addr}{ss:List Bh}
def Dp.get(h:Dp H D us Gs Es ss)(a:i<ss.length) :
 ∃u G E,us[i]?=some u/\Gs[i]?=some G/\Es[i]?=some E/\ss[i]?=some ss[i]/\Hm H u G E ss[i]:=by
 have b:us[i]?=some (us[i]'(by rw[h.lu];exact a)):=AC _;have c:Gs[i]?=some (Gs[i]'(by rw[h.lg];exact a)):=AC _;have d:Es[i]?=some (Es[i]'(by rw[h.le];exact a)):=AC _;exact⟨_,_,_,b,c,d,AC a,h.at_ i _ _ _ _ b c d (AC a)⟩
def Dp.dts{K:Ah}(h:Dp H D us Gs Es ss):Aj K H (us.map V.ref) (ss.map HU):=by
 refine Aj.of_get (by simpa using h.lu) λn v d a b=>?_;rw[A8] at a b;obtain⟨u,g,rfl⟩:=E8.mp a;obtain⟨s,c,rfl⟩:=E8.mp b;have i:n<ss.length:=(AY.mp c).1;obtain⟨k,G,E,e,l,m,f,j⟩:=h.get i;rw[g] at e;cases e;rw[c] at f;rw[Bz f];exact j.dt
def Dp.step(h:Dp H D us Gs Es ss)(q:(D::(Gs++Es)).Nodup){t:Addr}{p:B9}(g:i<ss.length)(b:Gs[i]?=some G)(r:H G=some (.lst (ts.map V.ref)))(T:RT G2 H ts ss[i].1)(v:H t=some (.tup (G2 p))) :
 Dp (upd H G (.lst (ts.map V.ref++[.ref t]))) D us Gs Es (ss.set i (ss[i].1++[p],ss[i].2)):=by
 have k:Keeps (·=G) H (upd H G (.lst (ts.map V.ref++[.ref t]))):=Keeps.one r;obtain⟨w,I⟩:=Gd.mp q;obtain⟨x,ne,J⟩:=List.nodup_append.mp I;have l:G∈Gs:=A9 b;refine⟨k.at_ _ _ h.top λz=>w (z▸Eu _ l),by rw[Ge];exact h.lu,by rw[Ge];exact h.lg,by rw[Ge];exact h.le,λj u m E s n c f d=>?_⟩;have o:E≠G:=λz=>J G l E (A9 f) z.symm;by_cases e:i=j;subst e;rw[b] at c;cases c;rw[List.getElem?_set_self g] at d;cases d;obtain⟨a,_,⟨y,A,B⟩⟩:=h.at_ i u G E _ n b f (AC g);exact⟨k.tup a,⟨ts++[t],by rw[Aa,Bk];rfl,(T.keeps k).snoc (k.tup v)⟩,⟨y,k.at_ _ _ A o,B.keeps k⟩⟩;rw[List.getElem?_set_ne e] at d
 have K:m≠G:=λz=>by
  subst z;obtain⟨L,C⟩:=AY.mp c;obtain⟨M,F⟩:=AY.mp b;exact e ((List.getElem_inj x).mp (F.trans C.symm))
 exact(h.at_ j u m E s n c f d).keeps k K o
def Dp.alive(h:Dp H D us Gs Es ss):∀x∈Gs++Es,∃xs,H x=some (.lst xs):=λx a=>by
 rcases BI.mp a with a|a;obtain⟨j,b⟩:=List.getElem?_of_mem a;have f:j<ss.length:=by rw[<-h.lg];exact(AY.mp b).1
 obtain⟨g,i,k,l,c,d,m,⟨_,⟨n,e,_⟩,_⟩⟩:=h.get f;rw[b] at c;cases c;exact⟨_,e⟩;obtain⟨j,b⟩:=List.getElem?_of_mem a;have f:j<ss.length:=by rw[<-h.le];exact(AY.mp b).1
 obtain⟨g,i,k,l,c,d,m,⟨_,_,⟨n,e,_⟩⟩⟩:=h.get f;rw[b] at d;cases d;exact⟨_,e⟩
def Dp.nil(h:H D=some (.lst [])):Dp H D [] [] [] []:=⟨h,rfl,rfl,rfl,λi u G E s a=>by simp at a⟩
def Dp.snoc(h:Dp H D us Gs Es ss)(g:Hm H u G E s)(j:G≠D)(l:E≠D)(f:∀x∈Gs++Es,x≠D) :
 Dp (upd H D (.lst (us.map V.ref++[.ref u]))) D (us++[u]) (Gs++[G]) (Es++[E]) (ss++[s]):=by
 have k:Keeps (·=D) H (upd H D (.lst (us.map V.ref++[.ref u]))):=Keeps.one h.top;refine⟨by rw[Aa,Bk];rfl,by simp[h.lu],by simp[h.lg],by simp[h.le],λi m n o Z d a b c=>?_⟩;rcases Nat.lt_or_ge i ss.length with e|r;rw[Ei (by rw[h.lu];exact e)] at d;rw[Ei (by rw[h.lg];exact e)] at a;rw[Ei (by rw[h.le];exact e)] at b;rw[Ei e] at c;exact(h.at_ i m n o Z d a b c).keeps k (f _ (Eu _ (A9 a))) (f _ (Du _ (A9 b)));have q:i<(ss++[s]).length:=(AY.mp c).1;rw[AS,CZ] at q;have p:i=ss.length:=(by lia);subst p;rw[ED (by rw[h.lu];exact AG _),h.lu,Nat.sub_self] at d;rw[ED (by rw[h.lg];exact AG _),h.lg,Nat.sub_self] at a;rw[ED (by rw[h.le];exact AG _),h.le,Nat.sub_self] at b;rw[ED (AG _),Nat.sub_self] at c;cases d;cases a;cases b;cases c;exact g.keeps k j l
def cL(a:(D::(Gs++Es)).Nodup)(b:G∉D::(Gs++Es))(c:E∉D::(Gs++Es))(d:G≠E):(D::((Gs++[G])++(Es++[E]))).Nodup:=by
 have p:(D::((Gs++[G])++(Es++[E]))).Perm (G::E::(D::(Gs++Es))):=by
  have e:(D::((Gs++[G])++(Es++[E]))).Perm (E::(D::((Gs++[G])++Es))):=by
   have:(D::((Gs++[G])++(Es++[E])))=(D::((Gs++[G])++Es))++[E]:=(by simp);rw[this];exact List.perm_append_singleton _ _
  have J:(D::((Gs++[G])++Es)).Perm (G::(D::(Gs++Es))):=by
   have:(D::((Gs++[G])++Es))=(D::Gs)++G::Es:=(by simp);rw[this];exact List.perm_middle
  exact(e.trans (J.cons E)).trans (List.Perm.swap _ _ _)
 rw[p.nodup_iff,Gd,Gd];refine⟨λz=>?_,c,a⟩;rcases B5.mp z with z|z;exact d z;exact b z
def BJ (ths:List (Str×Int)) (as:List (C')) (p:B9):Str×Int:=
 if p.2.1=("to" : Str) then("to",p.2.2) else match as[p.2.2.toNat]? with
 |some (some w)=>if w.1=("thing" : Str) then(match ths[w.2.toNat]? with
   |some k=>C4 ths as k
   |none=>("no",0)) else("no",0)
 |some none=>("open",p.2.2)
 |none=>("no",0)
def cM{p:B9}(h:p.2.1=("to" : Str)):BJ ths as p=(("to" : Str),p.2.2):=Al h
def cN{p:B9}(h:p.2.1≠("to" : Str))(a:p.2.2=(n:Int))(b:as[n]?=some none):BJ ths as p=(("open" : Str),p.2.2):=by
 unfold BJ;rw[An h,a,Bo,b]
def cO{p:B9}{w:Str×Int}(h:p.2.1≠("to" : Str))(a:p.2.2=(n:Int))(b:as[n]?=some (some w))(c:w.1≠("thing" : Str)):BJ ths as p=(("no" : Str),0):=by
 unfold BJ;rw[An h,a,Bo,b];exact An c
def cP{p:B9}{w k:Str×Int}(h:p.2.1≠("to" : Str))(a:p.2.2=(n:Int))(b:as[n]?=some (some w))(c:w.1=("thing" : Str))(d:w.2=(m:Int))(e:ths[m]?=some k):BJ ths as p=C4 ths as k:=by
 unfold BJ;rw[An h,a,Bo,b]
 show(if w.1=("thing" : Str) then _ else _)=_
 rw[Al c,d,Bo,e]
section
variable {X:Cx}
end
def F2 (s q:Int) (p:Str×Int):Prop:=(p.1=("plain" : Str)/\p.2=0)\/(p.1=("part" : Str)/\0<=p.2/\p.2<s)\/(p.1=("sort" : Str)/\0<=p.2/\p.2<q)
def EY (s q:Int) (p:B9):Prop:=(p.2.1=("to" : Str)/\0<=p.2.2/\p.2.2<s)\/(p.2.1=("by" : Str)/\0<=p.2.2/\p.2.2<q)
def FG (t q:Int) (p:DT):Prop:=(p.2.2.1=("thing" : Str)/\0<=p.2.2.2/\p.2.2.2<t)\/(p.2.2.1=("by" : Str)/\0<=p.2.2.2/\p.2.2.2<q)
structure FH (H:Hp) (S T R:Addr) (us Gs Es ts qt:List Addr) (ss:List Bh) (gs:List (Str×Int)) (qs:List Qu):Prop where
 sc:Dp H S us Gs Es ss
 et:H T=some (.lst (ts.map V.ref))
 tg:GT H ts gs
 er:H R=some (.lst (qt.map V.ref))
 tq:QT H qt qs
def FH.same{H H':Hp}{S T R:Addr}{us Gs Es ts a:List Addr}{ss:List Bh}{gs:List (Str×Int)}{qs:List Qu}(e:Ac H H')(h:FH H S T R us Gs Es ts a ss gs qs):FH H' S T R us Gs Es ts a ss gs qs:=
 ⟨h.sc.same e,e _ _ h.et,h.tg.same e,e _ _ h.er,h.tq.same e⟩
abbrev HV (ss:List Bh) (gs:List (Str×Int)) (qs:List Qu):Dt:=.tup [.lst (ss.map HU),.lst (gs.map GH),.lst (qs.map WX)]
def FH.dt{K:Ah}{a S T R:Addr}{b:List Addr}(h:FH H S T R us Gs Es ts b ss gs qs)(e:H a=some (.tup [.ref S,.ref T,.ref R])):Ap K H (.ref a) (HV ss gs qs):=
 .tup (Ar.of e) (.cons (.lst (Ae.of h.sc.top) h.sc.dts) (.cons (.lst (Ae.of h.et) h.tg.dts) (.cons (.lst (Ae.of h.er) h.tq.dts) .nil)))
def JR(s r:Bh):Dl 4 (HU s) (HU r):=by
 refine .tup (.cons (.lst (Bx.of λd hd e a=>?_)) (.cons (.lst (Bx.of λd hd e a=>?_)) (.nil _)));obtain⟨p,_,rfl⟩:=AZ.mp hd;obtain⟨q,_,rfl⟩:=AZ.mp a;exact .tup (.cons (.str _ _) (.cons (.str _ _) (.cons (.int _ _) (.nil _))));obtain⟨p,_,rfl⟩:=AZ.mp hd;obtain⟨q,_,rfl⟩:=AZ.mp a;exact .tup (.cons (.str _ _) (.cons (.str _ _) (.cons (.str _ _) (.cons (.int _ _) (.nil _)))))
def JS(ss b:List Bh)(gs c:List (Str×Int))(qs f:List Qu):Dl 6 (HV ss gs qs) (HV b c f):=by
 refine .tup (.cons (.lst (Bx.of λd hd e a=>?_)) (.cons (.lst (Bx.of λd hd e a=>?_)) (.cons (.lst (Bx.of λd hd e a=>?_)) (.nil _))));obtain⟨p,_,rfl⟩:=AZ.mp hd;obtain⟨q,_,rfl⟩:=AZ.mp a;exact JR p q;obtain⟨p,_,rfl⟩:=AZ.mp hd;obtain⟨q,_,rfl⟩:=AZ.mp a;exact .tup (.cons (.str _ _) (.cons (.int _ _) (.nil _)));obtain⟨p,_,rfl⟩:=AZ.mp hd;obtain⟨q,_,rfl⟩:=AZ.mp a;refine .tup (.cons (.int _ _) (.cons (.int _ _) (.cons (.tup (Bx.of λd hd e a=>?_)) (.nil _))));obtain⟨p,_,rfl⟩:=AZ.mp hd;obtain⟨q,_,rfl⟩:=AZ.mp a;exact .str _ _
abbrev JT (K:Ah):List V->Hp->VK->Prop:=λxs H Q=>∃p ys,xs=[V.ref p]/\(Ae K H p ys\/Ar K H p ys)/\∀l,H l=none->Q (V.ref l) (upd H l (HO.lst ys))
def Dp.tell(h:Dp H D us Gs Es ss)(q:(D::(Gs++Es)).Nodup){t:Addr}{p:DT}(g:i<ss.length)(b:Es[i]?=some E)(r:H E=some (.lst (ts.map V.ref)))(T:RT G3 H ts ss[i].2)(v:H t=some (.tup (G3 p))) :
 Dp (upd H E (.lst (ts.map V.ref++[.ref t]))) D us Gs Es (ss.set i (ss[i].1,ss[i].2++[p])):=by
 have k:Keeps (·=E) H (upd H E (.lst (ts.map V.ref++[.ref t]))):=Keeps.one r;obtain⟨w,C⟩:=Gd.mp q;obtain⟨K,ne,F⟩:=List.nodup_append.mp C;have l:E∈Es:=A9 b;refine⟨k.at_ _ _ h.top λz=>w (z▸Du _ l),by rw[Ge];exact h.lu,by rw[Ge];exact h.lg,by rw[Ge];exact h.le,λj u G m s n f c d=>?_⟩;have o:G≠E:=λz=>F G (A9 f) E l z;by_cases e:i=j;subst e;rw[b] at c;cases c;rw[List.getElem?_set_self g] at d;cases d;obtain⟨a,⟨I,x,y⟩,_⟩:=h.at_ i u G E _ n f b (AC g);exact⟨k.tup a,⟨I,k.at_ _ _ x o,y.keeps k⟩,⟨ts++[t],by rw[Aa,Bk];rfl,(T.keeps k).snoc (k.tup v)⟩⟩;rw[List.getElem?_set_ne e] at d
 have J:m≠E:=λz=>by
  subst z;obtain⟨L,A⟩:=AY.mp c;obtain⟨M,B⟩:=AY.mp b;exact e ((List.getElem_inj ne).mp (B.trans A.symm))
 exact(h.at_ j u G m s n f c d).keeps k o J
open PySem.SeqAt
open PySem.AutoSeq1 (wpAny_loadPart')
open PySem.MeetsSeq PySem.MeetsSeq2 PySem.MeetsSeq3
def Ca (A:Around) (s:Shared) (x y:Value) (b:Bool):Prop:=
 ∀(prog:Program)(w:World)(E:D')(Q:D'),Q (.bool b) s->wpAny (model prog w) A (richCompare .Lt x y) Q E s
inductive BN (A:Around) (s:Shared):List Value->List Value->Bool->Prop where
 |nil:BN A s [] [] false
 |lt (w:Value) (ws:List Value):BN A s [] (w::ws) true
 |gt (v:Value) (vs:List Value):BN A s (v::vs) [] false
 |eq {v w:Value} {vs ws:List Value} {b:Bool} (h:EqAt A s v w true) (t:BN A s vs ws b):BN A s (v::vs) (w::ws) b
 |ne {v w:Value} {vs ws:List Value} {b:Bool} (h:EqAt A s v w false) (l:Ca A s v w b):BN A s (v::vs) (w::ws) b
def cQ(l b:Addr)(f e:Array Value)(n C:Nat)(D K:Option Addr)(E L:Array (Option Value))(c:Bool) :
 Meets (Builtin.«tuple.__lt__» ⟨[.ref l,.ref b],[]⟩)
  (λA R s=>s.heap.get? l=some {cls:=.type "tuple",dict:=D,data:=.seq f n,slots:=E}/\s.heap.get? b=some {cls:=.type "tuple",dict:=K,data:=.seq e C,slots:=L} /\
   BN A.in1 s f.toList e.toList c/\R (.ok (.ret (.bool c))) s):=
 .of_wp λu w A R s h=>by
  obtain⟨v,g,d,tk,z⟩:=s;obtain⟨F,G,i,h⟩:=h;have N:=AutoSeq1.sub_tuple_tuple
  wp_walk using wpAny_loadPart' F,wpAny_loadPart' G,wpAny_forIn_list _ (λj b Z=>b.1=none/\Z=⟨v,g,d,tk,z⟩/\∃(vs k:List Value),j=vs.zip k /\
   BN A.in1 ⟨v,g,d,tk,z⟩ vs k c/\vs.length+e.size=k.length+f.size) _
  case turn =>
   rintro⟨y,x⟩ j b Z ⟨q,rfl,vs,k,a,r,m⟩
   cases r with
   |nil=>rw[List.zip_nil_left] at a;cases a
   |lt=>rw[List.zip_nil_left] at a;cases a
   |gt=>rw[List.zip_nil_right] at a;cases a
   |eq o H =>
     rw[List.zip_cons_cons] at a;injection a with t B;injection t with p i;subst p i;simp only[Ej] at m;refine Ad (o u w _ _ ?_)
     wp_walk
     exact⟨rfl,rfl,_,_,B,H,by lia⟩
   |ne o I =>
     rw[List.zip_cons_cons] at a;injection a with t B;injection t with p i;subst p i;refine Ad (o u w _ _ ?_);have M:=I u w
     wp_walk using M
     exact⟨_,rfl,by simpa using h⟩
  case fin =>
   rintro⟨O,P⟩ Z ⟨q,rfl,vs,k,a,r,m⟩;simp only at q;subst q
   have J:c=decide (f.size<e.size):=by
    cases r with
    |nil =>
      simp only[GF] at m;exact(D1 (by lia)).symm
    |lt =>
      simp only[GF,Ej] at m;exact(Ba (by lia)).symm
    |gt =>
      simp only[GF,Ej] at m;exact(D1 (by lia)).symm
    |eq=>rw[List.zip_cons_cons] at a;cases a
    |ne=>rw[List.zip_cons_cons] at a;cases a
   rw[J] at h
   wp_walk
   exact⟨_,rfl,by simpa [Builtin.Tuple.tupleCompareSizes] using h⟩
  case h =>
   exact⟨rfl,rfl,f.toList,e.toList,rfl,i,by simp[Nat.add_comm]⟩
def cR(l b:Addr)(f e:Array Value)(n C:Nat)(D N:Option Addr)(E O:Array (Option Value))(c:Bool)(k:Nat) :
 ∀i:Nat,f.size-i=k->i<=f.size->i<=e.size->Meets (Builtin.«list.__eq__.loop» ⟨[.ref l,.ref b,rawInt i,rawInt 0],[]⟩)
  (λA R s=>s.heap.get? l=some {cls:=.type "list",dict:=D,data:=.seq f n,slots:=E}/\s.heap.get? b=some {cls:=.type "list",dict:=N,data:=.seq e C,slots:=O} /\
   BN A.in1 s (f.toList.drop i) (e.toList.drop i) c/\R (.ok (.ret (.bool c))) s):=by
 induction k with
 |zero =>
   intro i F G P q w A R s h;obtain⟨H,g,d,tk,I⟩:=s;obtain⟨j,m,a,h⟩:=h;have u:f.toList.drop i=[]:=by simp;lia
   rw[u] at a
   have v:c=decide (f.size<e.size):=by
    generalize o:e.toList.drop i=r at a;have x:=Bq List.length o;simp only[Gp,Array.length_toList] at x
    cases a with
    |nil=>simp only[GF] at x;exact(D1 (by lia)).symm
    |lt=>simp only[Ej] at x;exact(Ba (by lia)).symm
   wp_walk using wpAny_loadPart' j,wpAny_loadPart' m
   have p:f[((i:Nat):Int).toNat]?=none:=by simp;lia
   rw[p]
   wp_walk using wpAny_loadPart' j,wpAny_loadPart' m
   show R (.ok (.ret (.bool (decide (f.size<e.size))))) _;rw[<-v];exact h
 |succ k J =>
   intro i F G P q w A R s h;obtain⟨H,g,d,tk,I⟩:=s;obtain⟨j,m,a,h⟩:=h;have z:i<f.size:=(by lia);have p:f[((i:Nat):Int).toNat]?=some f[i]:=(by simp[z]);have u:f.toList.drop i=f[i]::f.toList.drop (i+1):=(by simp[NH,z]);rw[u] at a
   wp_walk using wpAny_loadPart' j,wpAny_loadPart' m
   by_cases B:i<e.size;have t:e[((i:Nat):Int).toNat]?=some e[i]:=(by simp[B]);have o:e.toList.drop i=e[i]::e.toList.drop (i+1):=(by simp[NH,B]);have K:((i:Int)+1)=((i+1:Nat):Int):=by push_cast;rfl
   rw[o] at a;rw[p,t]
   cases a with
   |eq y L =>
     refine Ad (y q w _ _ ?_)
     wp_walk
     rw[K]
     exact⟨plainId_quiet plain_eq_loop _,codeAny_builtin entry_eq_loop (by
      rw[Around.under_plainId plain_eq_loop _]
      exact J (i+1) (by lia) (by lia) (by lia) q w A R _ ⟨j,m,L,h⟩)⟩
   |ne y M =>
     refine Ad (y q w _ _ ?_);have Q:=M q w
     wp_walk using wpAny_loadPart' j,wpAny_loadPart' m
     rw[p,t]
     wp_walk using Q
     exact h
   have t:e[((i:Nat):Int).toNat]?=none:=by simp;lia
   have o:e.toList.drop i=[]:=by simp;lia
   rw[o] at a
   have v:c=decide (f.size<e.size):=by
    cases a;exact(D1 (by lia)).symm
   rw[p,t]
   wp_walk using wpAny_loadPart' j,wpAny_loadPart' m
   show R (.ok (.ret (.bool (decide (f.size<e.size))))) _;rw[<-v];exact h
def WZ(l b:Addr)(f e:Array Value)(n a:Nat)(i o:Option Addr)(j p:Array (Option Value))(c:Bool) :
 Meets (Builtin.«list.__lt__» ⟨[.ref l,.ref b],[]⟩)
  (λA R s=>s.heap.get? l=some {cls:=.type "list",dict:=i,data:=.seq f n,slots:=j}/\s.heap.get? b=some {cls:=.type "list",dict:=o,data:=.seq e a,slots:=p} /\
   BN A.in1 s f.toList e.toList c/\R (.ok (.ret (.bool c))) s):=by
 intro r w A R s h;obtain⟨t,g,d,tk,u⟩:=s;obtain⟨k,m,q,h⟩:=h;have v:=AutoSeq1.sub_list_list
 wp_walk using wpAny_loadPart' k,wpAny_loadPart' m
 exact⟨plainId_quiet plain_eq_loop _,codeAny_builtin entry_eq_loop (by
  rw[Around.under_plainId plain_eq_loop _]
  exact cR l b f e n a i o j p c _ 0 rfl (Di _) (Di _) r w A R _ ⟨k,m,by simpa using q,h⟩)⟩
section
variable {A:Around} {s:Shared}
variable {l b:Addr}{f e:Array Value}
def Ca.tuples{c:Bool}(k:IsTup s.heap l f)(m:IsTup s.heap b e)(o:BN A.in1 s f.toList e.toList c)(p:A.units<cLine):Ca A s (.ref l) (.ref b) c:=λz w E Q h=>by
 obtain⟨⟨y,q,B,r⟩,a,d,n,hd⟩:=id k;obtain⟨⟨C,u,data2,v⟩,g,i,t,j⟩:=id m;simp only at d hd i j;subst d hd i j
 exact richCompare_meets_room (op:=.Lt) ⟨_,a,rfl⟩ ⟨_,g,rfl⟩ PySem.F.slot_tuple_lt PySem.F.entry_tuple_lt (PySem.F.args_tuple_lt_2 _ _) (cQ l b f e n t q u r v c)
  ⟨a,g,o,show Value.bool c≠Value.notImplemented/\Q (.bool c) s from⟨(λx=>nomatch x),h⟩⟩ p
def Ca.lists{c:Bool}(k:s.heap.IsList l f)(m:s.heap.IsList b e)(o:BN A.in1 s f.toList e.toList c)(p:A.units<cLine):Ca A s (.ref l) (.ref b) c:=λz w E Q h=>by
 obtain⟨⟨y,q,B,r⟩,a,d,n,hd⟩:=id k;obtain⟨⟨C,u,data2,v⟩,g,i,t,j⟩:=id m;simp only at d hd i j;subst d hd i j
 exact richCompare_meets_room (op:=.Lt) ⟨_,a,rfl⟩ ⟨_,g,rfl⟩ PySem.F.slot_list_lt PySem.F.entry_list_lt (PySem.F.args_list_lt_2 _ _) (WZ l b f e n t q u r v c)
  ⟨a,g,o,show Value.bool c≠Value.notImplemented/\Q (.bool c) s from⟨(λx=>nomatch x),h⟩⟩ p
def W0{prog:Program}{w:World}{E:D'}{c:Bool}{Q:Bool->Shared->Prop}(j:s.heap.IsList l f)(k:s.heap.IsList b e)(m:BN A.in1 s f.toList e.toList c)(o:A.units<cLine)(h:Q c s) :
 wpAny (model prog w) A (oneLt' true (.ref l) (.ref b)) Q E s:=by
 obtain⟨⟨x,p,y,q⟩,a,d,n,hd⟩:=id j;obtain⟨⟨z,t,data2,u⟩,v,g,r,i⟩:=id k;simp only at d hd g i;subst d hd g i;rw[oneLt'_eq];simp only[if_true];refine Ad (wpAny_cRoomFor o ?_);refine Ad (wpAny_callSpecialIfBound?_slot (T:= "list") ⟨_,a,rfl⟩ PySem.F.slot_list_lt (call_meets PySem.F.slot_list_lt ⟨_,a,rfl⟩ PySem.F.entry_list_lt (PySem.F.args_list_lt_2 _ _) (WZ l b f e n r p t q u c) ⟨a,v,m,?_⟩));exact FX h
end
def Fc (O:KeyOrd):List O.α->List O.α->Bool
 |[],[]=>false
 |[],_::_=>true
 |_::_,[]=>false
 |x::xs,y::ys=>O.blt x y || (!O.blt y x && Fc O xs ys)
def Mz(O:KeyOrd)(x y:O.α)(xs ys:List O.α):Fc O (x::xs) (y::ys)=(O.blt x y || (!O.blt y x && Fc O xs ys)):=rfl
theorem W1(O:KeyOrd):∀xs,Fc O xs xs=false
 |[]=>rfl
 |x::xs=>by rw[Mz,O.irrefl,W1 O xs];rfl
theorem W2(O:KeyOrd):∀xs ys zs,Fc O xs ys=true->Fc O ys zs=true->Fc O xs zs=true
 |[],[],_,h,_=>by cases h
 |[],_::_,[],_,k=>by cases k
 |[],_::_,_::_,_,_=>rfl
 |_::_,[],_,h,_=>by cases h
 |_::_,_::_,[],_,k=>by cases k
 |x::xs,y::ys,z::zs,a,b=>by
   rw[Mz] at *;simp only[Bool.or_eq_true,Bool.and_eq_true,Bool.not_eq_true'] at a b ⊢
   rcases a with a|⟨a,c⟩<;>rcases b with b|⟨b,d⟩;exact .inl (O.trans _ _ _ a b);exact .inl (KeyOrd.klt_of_klt_of_kle a b);exact .inl (KeyOrd.klt_of_kle_of_klt a b);exact .inr ⟨KeyOrd.kle_trans (O:=O) a b,W2 O xs ys zs c d⟩
theorem W3(O:KeyOrd):∀xs ys zs,Fc O xs zs=true->Fc O xs ys=true\/Fc O ys zs=true
 |[],[],[],h=>by cases h
 |[],[],_::_,_=>.inr rfl
 |[],_::_,_,_=>.inl rfl
 |_::_,_,[],h=>by cases h
 |_::_,[],_::_,_=>.inr rfl
 | x :: xs,y :: ys,z :: zs,h=>by
   rw[Mz] at *;rw[Mz];simp only[Bool.or_eq_true,Bool.and_eq_true,Bool.not_eq_true'] at h ⊢
   rcases h with h|⟨h,k⟩;rcases O.negTrans _ y _ h with h|h;exact .inl (.inl h);exact .inr (.inl h)
   cases b:O.blt x y with
   |true=>exact .inl (.inl rfl)
   |false =>
     cases c:O.blt y z with
     |true=>exact .inr (.inl rfl)
     |false =>
       have d:O.kle y x:=b;have e:O.kle z y:=c;have a:O.kle x z:=h;have f:O.blt y x=false:=KeyOrd.kle_trans (O:=O) a e;have g:O.blt z y=false:=KeyOrd.kle_trans (O:=O) d a;rcases W3 O xs ys zs k with k|k;exact .inl (.inr ⟨f,k⟩);exact .inr (.inr ⟨g,k⟩)
theorem W4(O:KeyOrd):∀xs ys,Fc O xs ys=false->Fc O ys xs=false->xs=ys
 |[],[],_,_=>rfl
 |[],_::_,h,_=>by cases h
 |_::_,[],_,k=>by cases k
 |x::xs,y::ys,a,b=>by
   rw[Mz] at a b;simp only[Bool.or_eq_false_iff,Bool.and_eq_false_iff,Bool.not_eq_false'] at a b;have c:x=y:=O.total _ _ a.1 b.1;have d:xs=ys:=W4 O xs ys (by rcases a.2 with z|z;exact absurd (b.1.symm.trans z) (by simp);exact z) (by rcases b.2 with z|z;exact absurd (a.1.symm.trans z) (by simp);exact z);rw[c,d]
@[reducible] def O9 (O:KeyOrd):KeyOrd where
 α:=List O.α
 blt:=Fc O
 irrefl:=W1 O
 trans:=W2 O
 negTrans:=W3 O
 total:=W4 O
def N0{P:KeyOrd}(x y:(BP O P).α)(e:x.1=y.1):(BP O P).blt x y=P.blt x.2 y.2:=by
 show(O.blt x.1 y.1 || (!O.blt y.1 x.1 && P.blt x.2 y.2))=_;rw[e,O.irrefl];rfl
def N1{P:KeyOrd}(x y:(BP O P).α)(e:x.1≠y.1):(BP O P).blt x y=O.blt x.1 y.1:=by
 show(O.blt x.1 y.1 || (!O.blt y.1 x.1 && P.blt x.2 y.2))=_
 cases a:O.blt x.1 y.1 with
 |true=>rfl
 |false =>
   cases b:O.blt y.1 x.1 with
   |true=>rfl
   |false=>exact absurd (O.total _ _ a b) e
def cS(x:O.α)(xs ys:List O.α):Fc O (x::xs) (x::ys)=Fc O xs ys:=by
 rw[Mz,O.irrefl];rfl
def cT{x y:O.α}(xs ys:List O.α)(e:x≠y):Fc O (x::xs) (y::ys)=O.blt x y:=by
 rw[Mz]
 cases a:O.blt x y with
 |true=>rfl
 |false =>
   cases b:O.blt y x with
   |true=>rfl
   |false=>exact absurd (O.total _ _ a b) e
mutual
theorem Dl.mono {n m:Nat}{d e:Dt} (c:Dl n d e) (h:n<=m):Dl m d e:=by
 cases c with
 | non=>exact .non
 | bl a b=>exact .bl a b
 | int a b=>exact .int a b
 | str a b=>exact .str a b
 | tup t=>cases m with
   | zero=>exact absurd h (Nat.not_succ_le_zero _)
   | succ m=>exact .tup (Bx.mono t (Nat.le_of_succ_le_succ h))
 | lst t=>cases m with
   | zero=>exact absurd h (Nat.not_succ_le_zero _)
   | succ m=>exact .lst (Bx.mono t (Nat.le_of_succ_le_succ h))
 | apart a=>cases m with
   | zero=>exact absurd h (Nat.not_succ_le_zero _)
   | succ m=>exact .apart a
theorem Bx.mono {n m:Nat}{a es:List Dt} (c:Bx n a es) (h:n<=m):Bx m a es:=by
 cases c with
 | nil=>exact .nil _
 | nil'=>exact .nil' _
 | cons c t=>exact .cons (Dl.mono c h) (Bx.mono t h)
end
structure Enc where
 O:KeyOrd
 D:O.α->Dt
 dflt:O.α
 dep:Nat
 cmp:∀a b,Dl dep (D a) (D b)
 inj:∀a b,D a=D b->a=b
 lt:∀{X:Cx}{pins:B'}{σ:St}{H:Hp}{s:Shared},Inv X pins σ H s->∀{a b:O.α}{v u:V}{x y:Value}{A:Around},Ap X.K H v (D a)->Ap X.K H u (D b)->RelV v x->RelV u y->A.units+dep<cLine->Ca A s x y (O.blt a b)
section
variable {X:Cx} {pins:B'} {σ:St} {H:Hp} {s:Shared}
def Enc.eq(c:Enc)(I:Inv X pins σ H s){a b:c.O.α}{u:V}{x y:Value}{A:Around}(hv:Ap X.K H v (c.D a))(d:Ap X.K H u (c.D b))(e:RelV v x)(f:RelV u y)(g:A.units+c.dep<cLine):EqAt A s x y (dec (a=b)):=by
 have:=WO (A:=A) I (c.cmp a b) hv d e f g
 rwa [NY (p:=c.D a=c.D b) (q:=a=b) ⟨c.inj a b,λz=>by rw[z]⟩] at this
def Enc.lex(c:Enc)(I:Inv X pins σ H s){a b:c.O.α}{u:V}{x y:Value}{A:Around}{vs ws:List Value}{e f:Bool}(hv:Ap X.K H v (c.D a))(h:Ap X.K H u (c.D b))(i:RelV v x)(j:RelV u y)(k:A.units+c.dep<cLine)(l:a=b->BN A s vs ws e/\f=e)(m:a≠b->f=c.O.blt a b):BN A s (x::vs) (y::ws) f:=by
 have d:=c.eq (A:=A) I hv h i j k;by_cases g:a=b;rw[Ey g] at d;obtain⟨t,rfl⟩:=l g;exact .eq d t;rw[FS g] at d;rw[m g];exact .ne d (c.lt I hv h i j k)
end
@[reducible] def F3:Enc where
 O:=JL
 D:=Dt.int
 dflt:=(0:Int)
 dep:=0
 cmp a b:=.int a b
 inj a b h:=Dt.int.inj h
 lt {X pins σ H s} I {a b v u x y A} hv hu rx ry _:=by
  cases hv;cases hu;obtain⟨t,rfl⟩:=rx;obtain⟨t',rfl⟩:=ry;exact λprog w E Q h=>(PySem.P.lt_int h:wpAny (model prog w) _ (compareOp .Lt _ _) Q E _)
@[reducible] def Uh:Enc where
 O:=Dm
 D:=Dt.str
 dflt:=(default:Str)
 dep:=0
 cmp a b:=.str a b
 inj a b h:=Dt.str.inj h
 lt {X pins σ H s} I {a b v u x y A} hv hu rx ry _:=by
  cases hv;cases hu;obtain⟨t,rfl⟩:=rx;obtain⟨t',rfl⟩:=ry;exact λprog w E Q h=>(PySem.P.lt_str h:wpAny (model prog w) _ (compareOp .Lt _ _) Q E _)
section
variable {X:Cx} {pins:B'} {σ:St} {H:Hp} {s:Shared}
def Enc.lexL(c:Enc)(I:Inv X pins σ H s){A:Around}(j:A.units+c.dep<cLine):∀{as bs:List c.O.α}{vs us:List V}{xs ys:List Value},Aj X.K H vs (as.map c.D)->Aj X.K H us (bs.map c.D)->At vs xs->At us ys->BN A s xs ys (Fc c.O as bs):=by
 intro as
 induction as with
 |nil =>
   intro bs vs us xs ys g d i f;cases g;cases i
   cases bs with
   |nil=>cases d;cases f;exact .nil
   |cons b bs=>cases d;cases f;exact .lt _ _
 |cons a as k =>
   intro bs vs us xs ys g d i f
   cases g with
   |cons h t=>cases i with
     |cons r q=>cases bs with
       |nil=>cases d;cases f;exact .gt _ _
       |cons b bs=>cases d with
         |cons l m=>cases f with
           |cons n o=>exact c.lex I h l r n j (λe=>⟨k t m q o,by subst e;exact cS a as bs⟩) (λe=>cT as bs e)
end
theorem W5(c:Enc):∀{a b:List c.O.α},a.map c.D=b.map c.D->a=b
 |[],[],_=>rfl
 |[],_::_,h=>by cases h
 |_::_,[],h=>by cases h
 |x::a,y::b,h=>by
   rw[Eh,Eh] at h;injection h with d e;rw[c.inj x y d,W5 c e]
@[reducible] def EG (c:Enc):Enc where
 O:=O9 c.O
 D l:=Dt.lst (l.map c.D)
 dflt:=([]:List c.O.α)
 dep:=c.dep+1
 cmp a b:=.lst (Bx.of λd hd e he=>by
  obtain⟨x,_,rfl⟩:=AZ.mp hd;obtain⟨y,_,rfl⟩:=AZ.mp he
  exact c.cmp x y)
 inj a b h:=W5 c (Dt.lst.inj h)
 lt {X pins σ H s} I {a b v u x y A} hv hu rx ry hA:=by
  cases hv with
  |lst h t =>
    cases hu with
    |lst h' t' =>
      cases rx;cases ry;obtain⟨its,r,p,_⟩:=I.list h;obtain⟨its',r',p',_⟩:=I.list h';exact Ca.lists p.isList p'.isList (c.lexL (A:=A.in1) I (by rw[Hj];lia) t t' r r') (by lia)
def MA{K:Ah}{d e:Dt}(h:Aj K H vs [d,e]):∃a b,vs=[a,b]/\Ap K H a d/\Ap K H b e:=by
 cases h with
 |cons c t=>cases t with
   |cons f t=>cases t;exact⟨_,_,rfl,c,f⟩
def Pa{K:Ah}{d e f:Dt}(h:Aj K H vs [d,e,f]):∃a b c,vs=[a,b,c]/\Ap K H a d/\Ap K H b e/\Ap K H c f:=by
 cases h with
 |cons g t=>obtain⟨a,b,rfl,i,j⟩:=MA t;exact⟨_,_,_,rfl,g,i,j⟩
def HW{x y z:V}{us:List Value}(r:At [x,y,z] us):∃u w v,us=[u,w,v]/\RelV x u/\RelV y w/\RelV z v:=by
 cases r with
 |cons c d=>obtain⟨a,b,rfl,e,f⟩:=Jw d;exact⟨_,_,_,rfl,c,e,f⟩
@[reducible] def MB (c d:Enc):Enc where
 O:=BP c.O d.O
 D p:=Dt.tup [c.D p.1,d.D p.2]
 dflt:=(c.dflt,d.dflt)
 dep:=max c.dep d.dep+1
 cmp a b:=.tup (.cons ((c.cmp a.1 b.1).mono (Nat.le_max_left _ _)) (.cons ((d.cmp a.2 b.2).mono (Nat.le_max_right _ _)) (.nil _)))
 inj a b h:=by
  injection h with h;injection h with h1 h2;injection h2 with h2 _;exact Prod.ext (c.inj _ _ h1) (d.inj _ _ h2)
 lt {X pins σ H s} I {a b v u x y A} hv hu rx ry hA:=by
  have m1:=Nat.le_max_left c.dep d.dep;have m2:=Nat.le_max_right c.dep d.dep
  cases hv with
  |tup h t =>
    cases hu with
    |tup h' t' =>
      cases rx;cases ry;obtain⟨its,r,p,_⟩:=I.tuple h;obtain⟨its',r',p',_⟩:=I.tuple h';obtain⟨v1,v2,rfl,t1,t2⟩:=MA t;obtain⟨u1,u2,rfl,s1,s2⟩:=MA t';obtain⟨x1,x2,rfl,r1,r2⟩:=Jw r;obtain⟨y1,y2,rfl,q1,q2⟩:=Jw r';refine Ca.tuples p p' (c.lex (A:=A.in1) I t1 s1 r1 q1 (by rw[Hj];lia) (λe=>⟨d.lex (A:=A.in1) I t2 s2 r2 q2 (by rw[Hj];lia) (λe'=>⟨.nil,?_⟩) λe'=>rfl,N0 a b e⟩) λe=>N1 a b e) (by lia);rw[e',d.O.irrefl]
@[reducible] def Lg (c d e:Enc):Enc where
 O:=BP c.O (BP d.O e.O)
 D p:=Dt.tup [c.D p.1,d.D p.2.1,e.D p.2.2]
 dflt:=(c.dflt,d.dflt,e.dflt)
 dep:=max c.dep (max d.dep e.dep)+1
 cmp a b:=.tup (.cons ((c.cmp a.1 b.1).mono (Nat.le_max_left _ _)) (.cons ((d.cmp a.2.1 b.2.1).mono (by lia)) (.cons ((e.cmp a.2.2 b.2.2).mono (by lia)) (.nil _))))
 inj a b h:=by
  injection h with h;injection h with h1 h2;injection h2 with h2 h3;injection h3 with h3 _;exact Prod.ext (c.inj _ _ h1) (Prod.ext (d.inj _ _ h2) (e.inj _ _ h3))
 lt {X pins σ H s} I {a b v u x y A} hv hu rx ry hA:=by
  have m1:=Nat.le_max_left c.dep (max d.dep e.dep);have m2:=Nat.le_max_right c.dep (max d.dep e.dep);have m3:=Nat.le_max_left d.dep e.dep;have m4:=Nat.le_max_right d.dep e.dep
  cases hv with
  |tup h t =>
    cases hu with
    |tup h' t' =>
      cases rx;cases ry;obtain⟨its,r,p,_⟩:=I.tuple h;obtain⟨its',r',p',_⟩:=I.tuple h';obtain⟨v1,v2,v3,rfl,t1,t2,t3⟩:=Pa t;obtain⟨u1,u2,u3,rfl,s1,s2,s3⟩:=Pa t';obtain⟨x1,x2,x3,rfl,r1,r2,r3⟩:=HW r;obtain⟨y1,y2,y3,rfl,q1,q2,q3⟩:=HW r';refine Ca.tuples p p' (c.lex (A:=A.in1) I t1 s1 r1 q1 (by rw[Hj];lia) (λg=>⟨d.lex (A:=A.in1) I t2 s2 r2 q2 (by rw[Hj];lia) (λg'=>⟨e.lex (A:=A.in1) I t3 s3 r3 q3 (by rw[Hj];lia) (λg''=>⟨.nil,?_⟩) λζ=>rfl,N0 a.2 b.2 g'⟩) λg'=>N1 a.2 b.2 g',N0 a b g⟩) λg=>N1 a b g) (by lia);rw[g'',e.O.irrefl]
section
variable {X:Cx}
abbrev DW (c:Enc):Type:=V×c.O.α
def QK (X:Cx) (c:Enc):List V->Hp->VK->Prop:=λvs H Q=>∃(l:Addr)(zs:List (DW c)),vs=[.ref l]/\Ae X.K H l (zs.map (·.1))/\zs.length<64 /\
 (∀z∈zs,Ap X.K H z.1 (c.D z.2))/\∀(D:Addr)(zs':List (DW c)),zs'.Perm zs->(zs'.map (·.2)).Pairwise c.O.kle->H D=none->Q (.ref D) (upd H D (.lst (zs'.map (·.1))))
theorem Ui(c:Enc)(κ:SortKind)
 (aj:∀(pins:B')(σ:St)(H:Hp)(s:Shared)(zs:List (DW c))(g:List Value)(Q:SortKind->Shared->Prop),Inv X pins σ H s->At (zs.map (·.1)) g->(∀z∈zs,Ap X.K H z.1 (c.D z.2))->2<=g.length->Q κ s->wpAny (model X.prog X.w) X.A.in1.in1 (keyKind' g.toArray) Q (λζ ζ=>False) s)
 (ai:∀(pins:B')(σ:St)(H:Hp)(s:Shared)(z m:DW c)(x y:Value)(C:Bool->Shared->Prop),Inv X pins σ H s->Ap X.K H z.1 (c.D z.2)->Ap X.K H m.1 (c.D m.2)->RelV z.1 x->RelV m.1 y->C (c.O.blt z.2 m.2) s->wpAny (model X.prog X.w) X.A.in1.in1 (keyLt' κ x y) C (λζ ζ=>False) s) :
 A6 X (.builtin "sorted") (QK X c):=by
 intro pins s σ H vs us Q I r h;obtain⟨l,zs,rfl,L,an,v,q⟩:=h;obtain⟨u,rfl,M⟩:=Fa r;obtain rfl:u=Value.ref l:=M;obtain⟨g,p,N,_⟩:=I.list L;have J:zs.length=g.length:=by have:=p.length;rwa [Ak] at this
 let b:DW c:=(V.non,c.dflt)
 have t:∀i,i<zs.length->RelV (zs.getD i b).1 (g.getD i Value.none)/\Ap X.K H (zs.getD i b).1 (c.D (zs.getD i b).2):=λi d=>by
  have:=O6 p i V.non Value.none (by rw[Ak];exact d)
  have e:(zs.map (·.1)).getD i V.non=(zs.getD i b).1:=by
   rw[B1,A8,B1,AC d];rfl
  rw[e] at this;refine⟨this,v _ ?_⟩;rw[B1,AC d];exact EC d
 refine Ud (O:=c.O) (key:=λi=>(zs.getD i b).2) (κ:=κ) (vs:=g) N.isList (by lia) (λo w k P R=>?_) (λw k i j C d hj S=>?_) λD w n f U A G ae T=>?_;exact aj pins σ H _ zs g P (I.kept (t':=s.toks) k) p v o R;obtain⟨W,Y⟩:=t i (by lia);obtain⟨Z,b2⟩:=t j (by lia);unfold PySem.W.kas_ask;exact ai pins σ H _ _ _ _ _ C (I.kept (t':=s.toks) k) Y b2 W Z S
 have af:∀i∈f,i<zs.length:=λi d=>by
  have:=G.mem_iff.mp d;rw[J];simpa using this
 have ak:(List.range zs.length).map (λi=>zs.getD i b)=zs:=by
  apply List.ext_getElem?;intro k;by_cases B:k<zs.length;simp[B,B1];simp[B]
 have K:(f.map λi=>zs.getD i b).Perm zs:=by
  have:=G.map (λi=>zs.getD i b)
  rwa [<-J,ak] at this
 have hv:At ((f.map λi=>zs.getD i b).map (·.1)) (f.map λi=>g.getD i Value.none):=by
  rw[DR];exact QG f λi d=>(t i (af i d)).1
 have ag:((f.map λi=>zs.getD i b).map (·.2)).Pairwise c.O.kle:=by
  refine QF (λζ ζ ζ=>KeyOrd.kle_trans) _ λi a al E o=>?_;rw[DR,A8,E8] at E o;obtain⟨x,e1,rfl⟩:=E;obtain⟨y,F,rfl⟩:=o;obtain⟨ah,_⟩:=AY.mp F;have:=ae i ah;have aa:f.getD i 0=x:=by rw[B1,e1];rfl
  have ab:f.getD (i+1) 0=y:=by rw[B1,F];rfl
  rw[aa,ab] at this;exact this
 exact⟨.ref D,upd H D (.lst ((f.map λi=>zs.getD i b).map (·.1))),I.laidN (t':=s.toks) U A ⟨by rw[Ak,K.length_eq];exact CI (BK (by lia)),_,n,hv,T⟩,rfl,q D _ K ag (I.freshN A)⟩
def Uj{pins:B'}{s:Shared}{M:Model}(I:Inv X pins σ H s){a:List Dt}{x:Value}(h:Ap X.K H v (.lst a))(r:RelV v x):PySem.W.Looks M s.heap (typeOf x) (.type "list"):=by
 cases h with
 |lst h t =>
   cases r;obtain⟨d,_,p,_⟩:=I.list h;obtain⟨o,b,c,_⟩:=p.isList;rw[<-c];exact(PySem.W.Looks.ld b).andThen .now
def cU(c:Enc)(J:X.A.units+64<cLine)(hd:c.dep<=50):A6 X (.builtin "sorted") (QK X (EG c)):=by
 refine Ui (EG c) oneType' (λG σ H s f E Q I b g j k=>?_) λG σ H s z l x y C I h a r m n=>?_;refine PySem.W.kas_kind (T:=.type "list") j (λv o=>?_) (by decide) (by decide) k;obtain⟨i,d⟩:=List.getElem?_of_mem o;have K:=(AY.mp d).1;have q:=b.length;rw[Ak] at q;obtain⟨x,e,w⟩:=b.get (i:=i) (x:=(f[i]'(by lia)).1) (by rw[A8,AC (by lia)];rfl);rw[d] at e;cases e;exact Uj I (g _ (EC (by lia))) w;rw[keyLt'_oneType];obtain⟨v,as⟩:=z;obtain⟨u,bs⟩:=l
 cases h with
 |lst h t =>
   cases a with
   |lst a A =>
     cases r;cases m;obtain⟨E,B,p,_⟩:=I.list h;obtain⟨L,F,D,_⟩:=I.list a;exact W0 p.isList D.isList (c.lexL I (by show _+1+1+1+_<_;lia) t A B F) (by show _+1+1<_;lia) n
theorem Uk(c:Enc){pins:B'}{σ:St}{H:Hp}{s:Shared}(I:Inv X pins σ H s){g:c.O.α->List Dt}:∀{zs:List (V×c.O.α)}{f:List Value}{k:c.O.α->List Dt},At (zs.map (·.1)) f->(∀z∈zs,∃b,k z.2=Dt.lst b::g z.2/\Ap X.K H z.1 (.tup (k z.2))) ->
 ∃fs,PySem.W.KatTups s.heap f fs/\fs.length=zs.length/\∀v∈fs,∃(u:V)(b:List Dt),Ap X.K H u (.lst b)/\RelV u v
 |[],_,_,.nil,_=>⟨[],.nil,rfl,λζ x=>by cases x⟩
 | z :: zs,_,k,.cons r i,h=>by
   obtain⟨fs,j,l,m⟩:=Uk c I (zs:=zs) i λy p=>h y (B6 _ p);obtain⟨b,e,hd⟩:=h z Bn;rw[e] at hd;obtain⟨v,a⟩:=z;dsimp only at r hd
   cases hd with
   | tup q t =>
     cases r;obtain⟨f,A,⟨o,B,C,n,D⟩,_⟩:=I.tuple q
     cases t with
     |cons E G =>
       cases A with
       |cons F J =>
         refine⟨_::fs,.cons B C D rfl j,by simp[l],λw d=>?_⟩;rcases B5.mp d with e|d;exact⟨_,b,E,e▸F⟩;exact m w d
def Ul{A:Around}{s:Shared}{prog:Program}{w:World}{E:D'}{x y:Value}{b:Bool}{Q:Bool->Shared->Prop}(h:Ca A s x y b)(q:Q b s):wpAny (model prog w) A (oneLt' false x y) Q E s:=
 PySem.W.kat_one _ _ (h prog w E _ q)
def HX(c:Enc){pins:B'}{s:Shared}(I:Inv X pins σ H s){A:Around}{as bs:List c.O.α}{u:V}{x y:Value}{prog:Program}{w:World}{E:D'}{Q:Bool->Shared->Prop}(h:Ap X.K H v ((EG c).D as))(h':Ap X.K H u ((EG c).D bs))(r:RelV v x)(a:RelV u y)(g:A.units+(c.dep+1)<cLine)(q:Q (Fc c.O as bs) s):wpAny (model prog w) A (oneLt' true x y) Q E s:=by
 cases h with
 |lst h t =>
   cases h' with
   |lst h' b =>
     cases r;cases a;obtain⟨i,d,p,_⟩:=I.list h;obtain⟨j,f,e,_⟩:=I.list h';exact W0 p.isList e.isList (c.lexL I (by rw[Hj];lia) t b d f) (by lia) q
def cV (c d:Enc) (hu:X.A.units + 64 < cLine) (h1:c.dep<=50) (h2:d.dep<=50):A6 X (.builtin "sorted") (QK X (MB (EG c) d)):=by
 refine Ui (MB (EG c) d) (tuples' true) (λah σ H s zs Z ai I o M hl N=>?_) λah σ H s z O x aj C I h w r y a=>?_;obtain⟨fs,P,k2,Q⟩:=Uk (MB (EG c) d) I (k:=λp=>[(EG c).D p.1,d.D p.2]) (g:=λp=>[d.D p.2]) o λz aa=>⟨_,rfl,M z aa⟩;have ab:=o.length;rw[Ak] at ab;refine PySem.W.kat_kind (T:=.type "list") P (by lia) (λv R=>?_) (by decide) N;obtain⟨u,ds,S,U⟩:=Q v R;exact Uj I S U;obtain⟨v,p⟩:=z;obtain⟨u,q⟩:=O;dsimp only at h w r y
 change C ((MB (EG c) d).O.blt p q) s at a
 have j:X.A.in1.in1.units=X.A.units+1+1:=rfl
 cases h with
 | tup V t =>
   cases w with
   | tup ae b =>
     cases r;cases y;obtain⟨Z,e,⟨ox,af,_,n,W⟩,_⟩:=I.tuple V;obtain⟨ak,f,⟨oy,ag,_,m,Y⟩,_⟩:=I.tuple ae
     cases t with
     | cons B t=>cases t with
       | cons D t=>cases t; cases b with
         | cons E b=>cases b with
           | cons F b=>cases b; cases e with
             |cons G e=>cases e with
               |cons J e=>cases e; cases f with
                 |cons K f=>cases f with
                   |cons L f =>
                     cases f;refine PySem.W.kat_lt af W ag Y (PySem.W.kat_cons ((EG c).eq (A:=X.A.in1.in1) I B E G K (by rw[j];show _+(c.dep+1)<_;lia) _ _ _ _ ?_));by_cases i:p.1=q.1;rw[Ey i]
                     rw[show(MB (EG c) d).O.blt p q=d.O.blt p.2 q.2 from N0 p q i] at a;refine PySem.W.kat_yes (PySem.W.kat_cons (d.eq (A:=X.A.in1.in1) I D F J L (by rw[j];lia) _ _ _ _ ?_))
                     by_cases l:p.2=q.2;rw[Ey l];refine PySem.W.kat_yes (PySem.W.kat_nil ?_);rw[l,d.O.irrefl] at a;exact a;rw[FS l];exact PySem.W.kat_no (Ul (d.lt I D F J L (by rw[j];lia)) a);rw[FS i]
                     rw[show(MB (EG c) d).O.blt p q=Fc c.O p.1 q.1 from N1 p q i] at a;exact PySem.W.kat_no (HX c I B E G K (by rw[j];lia) a)
def cW (c d e:Enc) (hu:X.A.units + 64 < cLine) (h1:c.dep<=50) (h2:d.dep<=50) (h3:e.dep<=50):A6 X (.builtin "sorted") (QK X (Lg (EG c) d e)):=by
 refine Ui (Lg (EG c) d e) (tuples' true) (λai σ H s zs aa aj I y S hl U=>?_) λai σ H s z V x ak C I h B r D a=>?_;obtain⟨fs,W,k2,Y⟩:=Uk (Lg (EG c) d e) I (k:=λp=>[(EG c).D p.1,d.D p.2.1,e.D p.2.2]) (g:=λp=>[d.D p.2.1,e.D p.2.2]) y λz ab=>⟨_,rfl,S z ab⟩;have ae:=y.length;rw[Ak] at ae;refine PySem.W.kat_kind (T:=.type "list") W (by lia) (λv Z=>?_) (by decide) U;obtain⟨u,ds,a1,a2⟩:=Y v Z;exact Uj I a1 a2;obtain⟨v,p⟩:=z;obtain⟨u,q⟩:=V;dsimp only at h B r D
 change C ((Lg (EG c) d e).O.blt p q) s at a
 have j:X.A.in1.in1.units=X.A.units+1+1:=rfl
 cases h with
 | tup hs t =>
   cases B with
   | tup af b =>
     cases r;cases D;obtain⟨aa,f,⟨ox,ag,_,n,dx⟩,_⟩:=I.tuple hs;obtain⟨al,i,⟨oy,ah,_,m,dy⟩,_⟩:=I.tuple af
     cases t with
     | cons E t=>cases t with
       | cons F t=>cases t with
         | cons G t=>cases t; cases b with
           | cons J b=>cases b with
             | cons K b=>cases b with
               | cons L b=>cases b; cases f with
                 | cons M f=>cases f with
                   | cons N f=>cases f with
                     |cons O f=>cases f; cases i with
                       |cons P i=>cases i with
                         |cons Q i=>cases i with
                           |cons R i =>
                             cases i;refine PySem.W.kat_lt ag dx ah dy (PySem.W.kat_cons ((EG c).eq (A:=X.A.in1.in1) I E J M P (by rw[j];show _+(c.dep+1)<_;lia) _ _ _ _ ?_));by_cases l:p.1=q.1;rw[Ey l]
                             rw[show(Lg (EG c) d e).O.blt p q=(BP d.O e.O).blt p.2 q.2 from N0 p q l] at a;refine PySem.W.kat_yes (PySem.W.kat_cons (d.eq (A:=X.A.in1.in1) I F K N Q (by rw[j];lia) _ _ _ _ ?_))
                             by_cases o:p.2.1=q.2.1;rw[Ey o]
                             rw[show(BP d.O e.O).blt p.2 q.2=e.O.blt p.2.2 q.2.2 from N0 p.2 q.2 o] at a;refine PySem.W.kat_yes (PySem.W.kat_cons (e.eq (A:=X.A.in1.in1) I G L O R (by rw[j];lia) _ _ _ _ ?_))
                             by_cases w:p.2.2=q.2.2;rw[Ey w];refine PySem.W.kat_yes (PySem.W.kat_nil ?_);rw[w,e.O.irrefl] at a;exact a;rw[FS w];exact PySem.W.kat_no (Ul (e.lt I G L O R (by rw[j];lia)) a);rw[FS o]
                             rw[show(BP d.O e.O).blt p.2 q.2=d.O.blt p.2.1 q.2.1 from N1 p.2 q.2 o] at a;exact PySem.W.kat_no (Ul (d.lt I F K N Q (by rw[j];lia)) a)
                             rw[FS l]
                             rw[show(Lg (EG c) d e).O.blt p q=Fc c.O p.1 q.1 from N1 p q l] at a;exact PySem.W.kat_no (HX c I E J M P (by rw[j];lia) a)
end
def Ez:List (Str×Int)->Str->Option Int
 |[],_=>none
 |(y,n)::r,x=>if y=x then some n else Ez r x
def En:Option Int->V
 |some n=>.int n
 |none=>.non
theorem HY:∀{gs:List (Str×Int)}{i:Nat}{p:Str×Int}{x:Str},gs[i]?=some p->p.1=x->(∀q∈gs.take i,q.1≠x)->Ez gs x=some p.2
 |[],_,_,_,h,_,_=>by simp at h
 |q::r,0,p,x,h,e,_=>by
   simp at h;subst h;obtain⟨y,n⟩:=q;exact Al e
 |q::r,i+1,p,x,h,e,k=>by
   obtain⟨y,n⟩:=q;have a:y≠x:=k (y,n) (by simp);show(if y=x then some n else Ez r x)=_;rw[An a];exact HY (i:=i) (by simpa using h) e λq b=>k q (by simp[b])
theorem W6:∀{gs:List (Str×Int)}{x:Str},(∀q∈gs,q.1≠x)->Ez gs x=none
 |[],_,_=>rfl
 |(y,n)::r,x,k=>by
   show(if y=x then some n else Ez r x)=_;rw[An (k (y,n) (by simp))];exact W6 λq a=>k q (by simp[a])
theorem Um:∀{gs:List (Str×Int)}{x:Str}{n:Int},Ez gs x=some n->(x,n)∈gs
 |[],_,_,h=>by cases h
 |(y,m)::r,x,n,h=>by
   have h':(if y=x then some m else Ez r x)=some n:=h
   by_cases e:y=x;rw[Al e] at h';rw[<-e,<-Bz h'];exact Bn;rw[An e] at h';exact B6 _ (Um h')
abbrev Aq:Type:=Int×Str×Int
abbrev G4 (m:Aq):List V:=[.int m.1,.str m.2.1,.int m.2.2]
abbrev AO:Type:=List Aq×Int×Int
structure Wd where
 ss:List Bh
 gs:List (Str×Int)
 as:List (C')
 sts:List Cu
abbrev Gn:Type:=Aq×(Str×Int)×Int
def Fe (W:Wd) (sc:Int) (go:List (Str×Int)) (p:B9) (i:Nat):List Gn:=match Ez go p.1 with
 |some a=>[((sc,("step" : Str),(i:Int)),BJ W.gs W.as p,a)]
 |none=>[]
def EA (W:Wd) (sc:Int) (go:List (Str×Int)):List B9->Nat->List Gn
 |[],_=>[]
 |p::r,i=>Fe W sc go p i++EA W sc go r (i+1)
def BV (W:Wd) (sc:Int):List B9:=match W.ss[sc.toNat]? with
 |some s=>s.1
 |none=>[]
def D8 (W:Wd) (st:Int):List (Str×Int):=match W.sts[st.toNat]? with
 |some s=>s.1
 |none=>[]
def GI (W:Wd) (sc st:Int):List Gn:=EA W sc (D8 W st) (BV W sc) 0
theorem W7(W:Wd)(a:Int)(go:List (Str×Int))(p:B9):∀(l:List B9)(i:Nat),EA W a go (l++[p]) i=EA W a go l i++Fe W a go p (i+l.length)
 |[],i=>by simp[EA]
 |q::l,i=>by
   show Fe W a go q i++EA W a go (l++[p]) (i+1)=(Fe W a go q i++EA W a go l (i+1))++_;rw[W7 W a go p l (i+1),Gf,Ej,show i+1+l.length=i+(l.length+1) by lia]
variable {W:Wd}{sc:Int}{r:Gn}
def Ff{go:List (Str×Int)}{p:B9}:r∈Fe W sc go p i↔∃a,Ez go p.1=some a/\r=((sc,("step" : Str),(i:Int)),BJ W.gs W.as p,a):=by
 unfold Fe
 cases e:Ez go p.1 with
 |none=>simp
 |some a=>simp
theorem BR{W:Wd}{sc:Int}{go:List (Str×Int)}{r:Gn}:∀{l:List B9}{i:Nat},r∈EA W sc go l i↔∃(j:Nat)(p:B9)(a:Int),l[j]?=some p/\Ez go p.1=some a/\r=((sc,("step" : Str),((i+j:Nat):Int)),BJ W.gs W.as p,a)
 |[],i=>by simp[EA]
 | q :: l,i=>by
   show r∈Fe W sc go q i++EA W sc go l (i+1)↔_;rw[BI,Ff,BR (l:=l) (i:=i+1)];constructor;rintro(⟨a,b,c⟩|⟨j,p,a,b,c,d⟩);exact⟨0,q,a,rfl,b,by rw[c];rfl⟩;exact⟨j+1,p,a,by simpa using b,c,by rw[d,show i+1+j=i+(j+1) by lia]⟩;rintro⟨j,p,a,b,c,d⟩
   cases j with
   |zero =>
     simp at b;subst b;exact .inl ⟨a,c,by rw[d];rfl⟩
   |succ j=>exact .inr ⟨j,p,a,by simpa using b,c,by rw[d,show i+1+j=i+(j+1) by lia]⟩
theorem W8(W:Wd)(sc:Int)(go:List (Str×Int)):∀(l:List B9)(i:Nat),(EA W sc go l i).Pairwise (λr b=>r.1≠b.1)
 |[],i=>List.Pairwise.nil
 |q::l,i=>by
   show(Fe W sc go q i++EA W sc go l (i+1)).Pairwise _;refine List.pairwise_append.mpr ⟨?_,W8 W sc go l (i+1),λr c b d e=>?_⟩;unfold Fe;split;exact List.pairwise_singleton _ _;exact List.Pairwise.nil;obtain⟨a,_,rfl⟩:=Ff.mp c;obtain⟨j,p,f,_,_,rfl⟩:=BR.mp d;have:=Bq (λm:Aq=>m.2.2) e;simp only at this;lia
theorem MC(W:Wd)(sc:Int)(go:List (Str×Int)):∀(l:List B9)(i:Nat),(EA W sc go l i).length<=l.length
 |[],i=>AG _
 |q::l,i=>by
   show(Fe W sc go q i++EA W sc go l (i+1)).length<=_;have a:(Fe W sc go q i).length<=1:=by unfold Fe;split<;>simp
   have b:=MC W sc go l (i+1);rw[AS,Ej];lia
def W9{go:List (Str×Int)}{l:List B9}{b:Gn}(h:r∈EA W sc go l i)(h':b∈EA W sc go l i)(e:r.1=b.1):r=b:=by
 obtain⟨j,p,a,f,g,rfl⟩:=BR.mp h;obtain⟨k,o,q,c,d,rfl⟩:=BR.mp h';have:=Bq (λm:Aq=>m.2.2) e;simp only at this;have n:j=k:=(by lia);subst n;rw[f] at c;cases c;rw[g] at d;cases d;rfl
def AU (b:AO):List Int:=b.1.map (·.1)++[b.2.1]
def kid (b:AO) (r:Gn):Option AO:=if r.2.1.1=("to" : Str)/\r.2.1.2∉AU b then some (b.1++[r.1],r.2.1.2,r.2.2) else none
def CC (W:Wd) (b:AO):List AO:=(GI W b.2.1 b.2.2).filterMap (kid b)
variable {b:AO}
set_option tactic.hygienic true in
def AI{c:AO}:c∈CC W b↔∃r∈GI W b.2.1 b.2.2,r.2.1.1=("to" : Str)/\r.2.1.2∉AU b/\c=(b.1++[r.1],r.2.1.2,r.2.2):=by
 unfold CC kid;rw[List.mem_filterMap];constructor;rintro⟨r,a,e⟩;split at e;rename_i h;exact⟨r,a,h.1,h.2,(Bz e).symm⟩;cases e;rintro⟨r,a,d,f,e⟩;exact⟨r,a,by rw[Al ⟨d,f⟩,e]⟩
def Xa(W:Wd)(b:AO):(CC W b).length<=(BV W b.2.1).length:=Ek (List.length_filterMap_le _ _) (MC _ _ _ _ _)
def JU(W:Wd)(b:AO):(CC W b).Nodup:=by
 refine List.Pairwise.filterMap (kid b) (λr g f c a h d e=>?_) (W8 W b.2.1 (D8 W b.2.2) (BV W b.2.1) 0);unfold kid at a d;split at a;split at d;cases a;cases d;have:=Bq Prod.fst e;simp only at this;have:=(List.append_inj' this rfl).2;exact f (by simpa using this);cases d;cases a
inductive AQ (W:Wd) (sc st:Int):AO->Prop where
 |root:AQ W sc st ([],sc,st)
 |kid {b c:AO} (h:AQ W sc st b) (k:c∈CC W b):AQ W sc st c
structure BS (W:Wd):Prop where
 s5:W.ss.length<=100
 st:∀s∈W.ss,s.1.length<=8
 kst:∀s∈W.ss,∀p∈s.1,EY W.ss.length W.as.length p
 kth:∀p∈W.gs,F2 W.ss.length W.as.length p
 an:∀p,some p∈W.as->p.1=("thing" : Str)->0<=p.2/\p.2<W.gs.length
 go:∀s∈W.sts,∀p∈s.1,0<=p.2/\p.2<W.sts.length
 few:∀(sc st:Int)(F:List AO),(0<=sc/\sc<W.ss.length)->(0<=st/\st<W.sts.length)->F.Nodup->(∀b∈F,AQ W sc st b)->F.length<=62
def BS.net(h:BS W):Fb W.gs W.as:=⟨λp b e=>by
 rcases h.kth p b with⟨a,_⟩|⟨a,_⟩|⟨_,c⟩;rw[e] at a;exact absurd a (by decide +kernel);rw[e] at a;exact absurd a (by decide +kernel)
 exact c,h.an⟩
def BS.by_(h:BS W)(a:s∈W.ss){p:B9}(b:p∈s.1)(c:p.2.1≠("to" : Str)):0<=p.2.2/\p.2.2<W.as.length:=by
 rcases h.kst s a p b with⟨e,_⟩|⟨_,e⟩;exact absurd e c;exact e
def Gj:(("no" : Str),(0:Int)).1≠("to" : Str):=by decide +kernel
def QL:("open" : Str)≠("to" : Str):=by decide +kernel
def Xb(h:BS W){k:Str×Int}(c:k∈W.gs)(b:k.1=("part" : Str)):0<=k.2/\k.2<W.ss.length:=by
 rcases h.kth k c with⟨a,_⟩|⟨_,d⟩|⟨a,_⟩;rw[b] at a;exact absurd a (by decide +kernel);exact d;rw[b] at a;exact absurd a (by decide +kernel)
variable {g:Str×Int}
set_option tactic.hygienic true in
def cX(h:BS W){q:Int}(e:DS W.gs W.as q=g)(a:g.1=("to" : Str)):0<=g.2/\g.2<W.ss.length:=by
 unfold DS at e;split at e;split at e;split at e;rename_i k b;split at e;rename_i c;subst e;exact Xb (k:=k) h (A9 b) c;subst e;exact absurd a Gj;subst e;exact absurd a Gj;subst e;exact absurd a Gj;subst e;exact absurd a QL;subst e;exact absurd a Gj
set_option tactic.hygienic true in
def Uo(h:BS W)(b:p∈W.gs)(e:C4 W.gs W.as p=g)(a:g.1=("to" : Str)):0<=g.2/\g.2<W.ss.length:=by
 unfold C4 at e;split at e;rename_i c;subst e;exact Xb (k:=p) h b c;split at e;exact cX h e a;subst e;exact absurd a Gj
set_option tactic.hygienic true in
def cY(h:BS W)(c:s∈W.ss){p:B9}(d:p∈s.1)(e:BJ W.gs W.as p=g)(a:g.1=("to" : Str)):0<=g.2/\g.2<W.ss.length:=by
 unfold BJ at e;split at e;rename_i j;subst e;rcases h.kst s c p d with⟨_,f⟩|⟨b,_⟩;exact f;rw[j] at b;exact absurd b (by decide +kernel);split at e;split at e;split at e;rename_i k i;exact Uo h (A9 i) e a;subst e;exact absurd a Gj;subst e;exact absurd a Gj;subst e;exact absurd a QL;subst e;exact absurd a Gj
structure Cg (W:Wd) (b:AO):Prop where
 nd:(AU b).Nodup
 rng:∀x∈AU b,0<=x/\x<W.ss.length
 st:0<=b.2.2/\b.2.2<W.sts.length
set_option tactic.hygienic true in
def Xc{p:B9}(h:p∈BV W sc):∃s∈W.ss,p∈s.1:=by
 unfold BV at h;split at h;rename_i s a;exact⟨s,A9 a,h⟩;cases h
variable {st:Int}
set_option tactic.hygienic true in
def Xd(h:p∈D8 W st):∃s∈W.sts,p∈s.1:=by
 unfold D8 at h;split at h;rename_i s a;exact⟨s,A9 a,h⟩;cases h
def MD(h:r∈GI W sc st):∃(j:Nat)(p:B9)(a:Int),(BV W sc)[j]?=some p/\Ez (D8 W st) p.1=some a/\r=((sc,("step" : Str),(j:Int)),BJ W.gs W.as p,a):=by
 obtain⟨j,p,a,b,c,d⟩:=BR.mp h;exact⟨j,p,a,b,c,by rw[d,Nat.zero_add]⟩
def Xe(h:r∈GI W b.2.1 b.2.2):AU (b.1++[r.1],r.2.1.2,r.2.2)=AU b++[r.2.1.2]:=by
 obtain⟨j,p,a,_,_,rfl⟩:=MD h;unfold AU
 simp
def Cg.kid(ok:BS W){c:AO}(h:Cg W b)(k:c∈CC W b):Cg W c:=by
 obtain⟨r,e,g,i,rfl⟩:=AI.mp k;have f:=Xe e;obtain⟨j,p,a,l,m,rfl⟩:=MD e;obtain⟨s,n,o⟩:=Xc (A9 l);refine⟨?_,?_,?_⟩;rw[f,List.nodup_append]
 exact⟨h.nd,by simp,λx d y q=>by
  rw[AW.mp q]
  exact λz=>i (z▸d)⟩
 rw[f];intro x d;rcases BI.mp d with d|d;exact h.rng x d;rw[AW.mp d];exact cY ok n o rfl g;obtain⟨t,u,v⟩:=Xd (Um m);exact ok.go t u _ v
def AQ.ok{W:Wd}(ok:BS W){sc st:Int}(d:0<=sc/\sc<W.ss.length)(e:0<=st/\st<W.sts.length){b:AO}(h:AQ W sc st b):Cg W b:=by
 induction h with
 |root=>exact⟨by simp[AU],λx a=>by simp[AU] at a;rw[a];exact d,e⟩
 |kid _ k c=>exact c.kid ok k
def AQ.uniq(h:AQ W sc st b):∀{c:AO},AQ W sc st c->b.1=c.1->b=c:=by
 induction h with
 |root =>
   intro c a e
   cases a with
   |root=>rfl
   |kid _ k =>
     obtain⟨r,_,_,_,rfl⟩:=AI.mp k;simp at e
 |@kid o p q k d =>
   intro c a e;obtain⟨r,f,s,t,rfl⟩:=AI.mp k
   cases a with
   |root=>simp at e
   |@kid u _ m g =>
     obtain⟨v,n,w,x,rfl⟩:=AI.mp g;simp only at e;obtain⟨i,j⟩:=List.append_inj' e rfl;have l:=d m i;subst l;have:=W9 f n (by simpa using j);subst this;rfl
theorem HZ:∀(n:Nat)(l:List Int),l.Nodup->(∀x∈l,0<=x/\x<(n:Int))->l.length<=n
 |0,[],_,_=>AG _
 |0,x::l,_,h=>by have:=h x Bn;lia
 |n+1,l,b,h=>by
   have e:(l.erase (n:Int)).Nodup:=b.erase _
   have c:∀x∈l.erase (n:Int),0<=x/\x<(n:Int):=λx d=>by
    obtain⟨f,a⟩:=(b.mem_erase_iff).mp d;have:=h x a;lia
   have:=HZ n _ e c
   have g:l.length<=(l.erase (n:Int)).length+1:=by
    by_cases a:(n:Int)∈l;rw[List.length_erase_of_mem a];lia;rw[List.erase_of_not_mem a];lia
   lia
set_option tactic.hygienic true in
def QM(ok:BS W)(sc:Int):(BV W sc).length<=8:=by
 unfold BV;split;rename_i s a;exact ok.st s (A9 a);exact Di _
structure G5 (W:Wd) (sc st:Int) (F:List AO) (p:Nat):Prop where
 root:([],sc,st)∈F
 is:∀b∈F,AQ W sc st b
 nd:F.Nodup
 done:∀(j:Nat)(b:AO),j<p->F[j]?=some b->∀c∈CC W b,c∈F
 src:∀c∈F,c=([],sc,st)\/∃(j:Nat)(b:AO),j<p/\F[j]?=some b/\c∈CC W b
 le:p<=F.length
def G5.start(W:Wd)(sc st:Int):G5 W sc st [([],sc,st)] 0 where
 root:=Bn
 is b a:=by rw[AW.mp a];exact .root
 nd:=by simp
 done j b e:=by lia
 src c d:=.inl (AW.mp d)
 le:=Di _
def G5.turn{F:List AO}{p:Nat}(h:G5 W sc st F p)(g:F[p]?=some b):G5 W sc st (F++CC W b) (p+1):=by
 have x:p<F.length:=(AY.mp g).1;have y:=A9 g;have q:=h.is b y;have o:∀(j:Nat),j<F.length->(F++CC W b)[j]?=F[j]?:=λj f=>Ei f
 have one:∀(j:Nat)(c:AO),j<p+1->(F++CC W b)[j]?=some c->(j<p/\F[j]?=some c)\/c=b:=λj c f e=>by
  rw[o j (by lia)] at e;by_cases z:j<p;exact .inl ⟨z,e⟩;have:j=p:=(by lia);subst this;rw[g] at e;exact .inr (Bz e).symm
 refine⟨Eu _ h.root,λc a=>?_,?_,λj c f e d hd=>?_,λc a=>?_,by rw[AS];lia⟩;rcases BI.mp a with a|a;exact h.is c a;exact .kid q a;refine List.nodup_append.mpr ⟨h.nd,JU W b,λc a d hd e=>?_⟩;subst e;obtain⟨r,C,_,_,l⟩:=AI.mp hd;rcases h.src c a with m|⟨j,i,f,k,n⟩;rw[m] at l;have:=Bq Prod.fst l;simp at this;obtain⟨D,H,_,_,A⟩:=AI.mp n
 have s:i.1=b.1:=by
  have:=Bq Prod.fst (A.symm.trans l);simp only at this;exact(List.append_inj' this rfl).1
 have t:=(h.is i (A9 k)).uniq q s;subst t;obtain⟨E,u⟩:=AY.mp k;obtain⟨G,v⟩:=AY.mp g;have:=(List.getElem_inj h.nd).mp (u.trans v.symm);lia;rcases one j c f e with⟨B,w⟩|rfl;exact Eu _ (h.done j c B w d hd);exact Du _ hd;rcases BI.mp a with a|a;rcases h.src c a with m|⟨j,i,f,k,n⟩;exact .inl m;exact .inr ⟨j,i,by lia,by rw[o j (by lia)];exact k,n⟩;exact .inr ⟨p,b,by lia,by rw[o p x];exact g,a⟩
def G5.few{W:Wd}(ok:BS W){sc st:Int}(a:0<=sc/\sc<W.ss.length)(b:0<=st/\st<W.sts.length){F:List AO}{p:Nat}(h:G5 W sc st F p):F.length<=62:=ok.few sc st F a b h.nd h.is
abbrev N2:Enc:=Lg F3 Uh F3
abbrev DX:Enc:=Lg (EG N2) F3 F3
structure Dq (W:Wd) (sc st:Int) (bs:List AO):Prop where
 mem:∀b,b∈bs↔AQ W sc st b
 nd:bs.Nodup
 srt:bs.Pairwise DX.O.kle
 few:bs.length<=62
def Dq.uniq{l m:List AO}(h:Dq W sc st l)(k:Dq W sc st m):l=m:=
 Mv (O:=DX.O) ((List.perm_ext_iff_of_nodup h.nd k.nd).mpr λb=>(h.mem b).trans (k.mem b).symm) h.srt k.srt
def G5.all(ok:BS W)(g:0<=sc/\sc<W.ss.length)(i:0<=st/\st<W.sts.length){F l:List AO}(h:G5 W sc st F F.length)(a:l.Perm F)(d:l.Pairwise DX.O.kle):Dq W sc st l:=by
 refine⟨λb=>?_,a.nodup_iff.mpr h.nd,d,by rw[a.length_eq];exact h.few ok g i⟩;rw[a.mem_iff];refine⟨h.is b,λe=>?_⟩
 induction e with
 |root=>exact h.root
 |kid _ k f =>
   obtain⟨j,c⟩:=List.getElem?_of_mem f;exact h.done j _ (AY.mp c).1 c _ k
def DU (F:Addr->Prop) (H:Hp) (t:Addr) (b:AO):Prop:=∃(l:Addr)(ms:List Addr),H t=some (.tup [.ref l,.int b.2.1,.int b.2.2])/\H l=some (.lst (ms.map V.ref))/\RT G4 H ms b.1/\F l
def DU.same{F:Addr->Prop}{H H':Hp}{t:Addr}{b:AO}(e:Ac H H')(h:DU F H t b):DU F H' t b:=by
 obtain⟨l,a,c,d,f,g⟩:=h;exact⟨l,a,e _ _ c,e _ _ d,f.same e,g⟩
def DU.mono{G:Addr->Prop}{t:Addr}(e:∀x,F x->G x)(h:DU F H t b):DU G H t b:=by
 obtain⟨l,a,c,d,f,g⟩:=h;exact⟨l,a,c,d,f,e _ g⟩
def DU.keeps{M F:Addr->Prop}{H H':Hp}{t:Addr}{b:AO}(k:Keeps M H H')(c:∀x,F x->¬M x)(h:DU F H t b):DU F H' t b:=by
 obtain⟨l,d,e,f,g,a⟩:=h;exact⟨l,d,k.tup e,k.at_ _ _ f (c _ a),g.keeps k,a⟩
abbrev QN (m:Aq):Dt:=.tup [.int m.1,.str m.2.1,.int m.2.2]
def H1{K:Ah}(r:Aq)(t:Addr)(h:H t=some (.tup (G4 r))):Ap K H (.ref t) (QN r):=.tup (Ar.of h) (.cons (.int _) (.cons (.str _) (.cons (.int _) .nil)))
def DU.dt{K:Ah}{t:Addr}(h:DU F H t b):Ap K H (.ref t) (DX.D b):=by
 obtain⟨l,e,a,c,d,f⟩:=h;exact .tup (Ar.of a) (.cons (.lst (Ae.of c) (d.dts H1)) (.cons (.int _) (.cons (.int _) .nil)))
def Lh (H:Hp) (t:Addr) (r:Gn):Prop:=∃m,H t=some (.tup [.ref m,.str r.2.1.1,.int r.2.1.2,.int r.2.2])/\H m=some (.tup (G4 r.1))
def Lh.same{t:Addr}(e:Ac H H')(h:Lh H t r):Lh H' t r:=by
 obtain⟨m,a,b⟩:=h;exact⟨m,e _ _ a,e _ _ b⟩
def Lh.keeps{t:Addr}(k:Keeps M H H')(h:Lh H t r):Lh H' t r:=by
 obtain⟨m,a,b⟩:=h;exact⟨m,k.tup a,k.tup b⟩
structure Bw (K:Ah) (H:Hp) (nt A t:Addr) (W:Wd):Prop where
 net:∃(S T R:Addr)(us Gs Es ts qt:List Addr)(qs:List Qu),H nt=some (.tup [.ref S,.ref T,.ref R])/\FH H S T R us Gs Es ts qt W.ss W.gs qs
 ans:Hl K H A W.as
 tab:∃(a o:Addr)(inn:V),Ar K H t [.ref a,inn,.ref o]/\HQ K H a W.sts
def Bw.same{K:Ah}{H H':Hp}{b A t:Addr}{W:Wd}(e:Ac H H')(h:Bw K H b A t W):Bw K H' b A t W:=by
 obtain⟨S,T,R,us,Gs,Es,ts,c,qs,d,f⟩:=h.net;obtain⟨a,o,k,g,vs,i,j⟩:=h.tab;exact⟨⟨S,T,R,us,Gs,Es,ts,c,qs,e _ _ d,f.same e⟩,h.ans.same e,⟨a,o,k,e.seqT g,vs,e.seq i,j.same e⟩⟩
def DU.mono'{G:Addr->Prop}{t:Addr}(e:∀x o,H x=some o->F x->G x)(h:DU F H t b):DU G H t b:=by
 obtain⟨l,c,d,a,f,g⟩:=h;exact⟨l,c,d,a,f,e _ _ a g⟩
theorem Xf{H:Hp}:∀{ts:List Addr}{ps:A'},Cf H ts ps->∃zs:List (Row EX EX),zs.map (·.1)=ts.map V.ref/\zs.map (·.2)=ps/\∀z∈zs,∃t,z.1=.ref t/\H t=some (.tup [.str z.2.1,.str z.2.2])
 |[],[],_=>⟨[],rfl,rfl,λz hz=>by cases hz⟩
 |[],_::_,h=>by have:=h.len;simp at this
 |_::_,[],h=>by have:=h.len;simp at this
 |a::ts,p::ps,h=>by
   obtain⟨zs,b,c,d⟩:=Xf (ts:=ts) (ps:=ps) ⟨by simpa using h.len,λn t p f g=>h.at_ (n+1) t p (by simpa using f) (by simpa using g)⟩;refine⟨(V.ref a,p)::zs,by rw[Eh,b];rfl,by rw[Eh,c],λz hz=>?_⟩;rcases B5.mp hz with e|hz;rw[e];exact⟨a,rfl,h.at_ 0 a p rfl rfl⟩;exact d z hz
theorem Xg{H:Hp}:∀{zs:List (Row EX EX)},(∀z∈zs,∃t,z.1=.ref t/\H t=some (.tup [.str z.2.1,.str z.2.2]))->∃ts:List Addr,zs.map (·.1)=ts.map V.ref/\Cf H ts (zs.map (·.2))
 |[],_=>⟨[],rfl,Cf.nil⟩
 |z::zs,h=>by
   obtain⟨ts,d,c⟩:=Xg (zs:=zs) λy f=>h y (B6 _ f);obtain⟨t,e,g⟩:=h z Bn;refine⟨t::ts,by rw[Eh,d,e];rfl,by simp[c.len],λn u p a b=>?_⟩
   cases n with
   |zero=>simp at a b;subst a;subst b;exact g
   |succ n=>exact c.at_ n u p (by simpa using a) (by simpa using b)
def F1.caseT{K:Ah}{t:Addr}{n:Int}{ord:A'}(h:F1 K F H t rs n ord):∃(a o:Addr)(inn:V),Ar K H t [.ref a,inn,.ref o]/\HQ K H a rs:=by
 obtain⟨a,o,us,ts,b,_,_,_,c,d,_⟩:=h.ex;exact⟨a,o,_,Ar.of b,d.stts c⟩
def GJ{x:Int}{l:List Int}:Dt.int x∈l.map Dt.int↔x∈l:=⟨λh=>by
 obtain⟨y,a,z⟩:=AZ.mp h
 rw[<-Dt.int.inj z];exact a,λh=>AZ.mpr ⟨x,h,rfl⟩⟩
theorem ME{K:Ah}{H:Hp}:∀(l:List Int),Aj K H (l.map V.int) (l.map Dt.int)
 |[]=>.nil
 |x::l=>.cons (.int x) (ME l)
def Up(xs:List α)(x:α):Bl (xs++[x]) (-1)=some x:=by
 have e:Hd (xs++[x]).length (-1)=some xs.length:=by
  unfold Hd;rw[An (by decide),Al (by rw[AS,CZ];lia),AS,CZ];congr 1;lia
 unfold Bl;rw[e];show(xs++[x])[xs.length]?=some x
 simp
abbrev Pb (sts:List Cu) (inn:Int) (ord:A'):Dt:=.tup [.lst (sts.map Lf),.int inn,.lst (ord.map WP)]
def JV(s r:Cu):Dl 4 (Lf s) (Lf r):=by
 refine .tup (.cons (.lst (Bx.of λd hd e a=>?_)) (.cons (.lst (Bx.of λd hd e a=>?_)) (.nil _)));obtain⟨p,_,rfl⟩:=AZ.mp hd;obtain⟨q,_,rfl⟩:=AZ.mp a;exact HS p q;obtain⟨p,_,rfl⟩:=AZ.mp hd;obtain⟨q,_,rfl⟩:=AZ.mp a;exact .str _ _
def cZ(s r:List Cu)(m n:Int)(o u:A'):Dl 6 (Pb s m o) (Pb r n u):=by
 refine .tup (.cons (.lst (Bx.of λd hd e a=>?_)) (.cons (.int _ _) (.cons (.lst (Bx.of λd hd e a=>?_)) (.nil _))));obtain⟨p,_,rfl⟩:=AZ.mp hd;obtain⟨q,_,rfl⟩:=AZ.mp a;exact JV p q;obtain⟨p,_,rfl⟩:=AZ.mp hd;obtain⟨q,_,rfl⟩:=AZ.mp a;exact .tup (.cons (.str _ _) (.cons (.str _ _) (.nil _)))
def F1.dt{K:Ah}{t:Addr}{b:List Cu}{inn:Int}{ord:A'}(h:F1 K F H t b inn ord):Ap K H (.ref t) (Pb b inn ord):=by
 obtain⟨a,o,us,ts,c,_,_,_,d,e,f,TO⟩:=h.ex;exact .tup (Ar.of c) (.cons (.lst (Ae.of d) e.dts) (.cons (.int _) (.cons (.lst (Ae.of f) TO.dts) .nil)))
def dA(x y:C'):Dl 2 (BU x) (BU y):=by
 cases x with
 |none=>cases y with
   |none=>exact .non
   |some q=>exact .apart rfl
 |some p=>cases y with
   |none=>exact .apart rfl
   |some q=>exact HS p q
def dB(l m:List (C')):Dl 3 (Dt.lst (l.map BU)) (Dt.lst (m.map BU)):=.lst (Bx.of λd hd e a=>by
 obtain⟨b,_,rfl⟩:=AZ.mp hd;obtain⟨c,_,rfl⟩:=AZ.mp a
 exact dA b c)
abbrev CK:Enc:=EG N2
def Gy (W:Wd) (sc:Int):List DT:=match W.ss[sc.toNat]? with
 |some s=>s.2
 |none=>[]
def Ho (W:Wd) (st:Int):List Str:=match W.sts[st.toNat]? with
 |some s=>s.2
 |none=>[]
def FI (W:Wd) (b:AO) (x:Str) (q:DT) (i:Nat):List (List Aq):=if q.2.1=x/\q.1∈Ho W b.2.2 then[b.1++[(b.2.1,("told" : Str),(i:Int))]] else[]
def DV (W:Wd) (b:AO) (x:Str):List DT->Nat->List (List Aq)
 |[],_=>[]
 |q::r,i=>FI W b x q i++DV W b x r (i+1)
def D9 (W:Wd) (x:Str) (bs:List AO):List (List Aq):=bs.flatMap λb=>DV W b x (Gy W b.2.1) 0
theorem Xh(W:Wd)(b:AO)(x:Str)(q:DT):∀(l:List DT)(i:Nat),DV W b x (l++[q]) i=DV W b x l i++FI W b x q (i+l.length)
 |[],i=>by simp[DV]
 |p::l,i=>by
   show FI W b x p i++DV W b x (l++[q]) (i+1)=(FI W b x p i++DV W b x l (i+1))++_;rw[Xh W b x q l (i+1),Gf,Ej,show i+1+l.length=i+(l.length+1) by lia]
theorem Xi(W:Wd)(b:AO)(x:Str):∀(l:List DT)(i:Nat),(DV W b x l i).length<=l.length
 |[],i=>AG _
 |q::l,i=>by
   show(FI W b x q i++DV W b x l (i+1)).length<=_;have a:(FI W b x q i).length<=1:=by unfold FI;split<;>simp
   have c:=Xi W b x l (i+1);rw[AS,Ej];lia
set_option tactic.hygienic true in
theorem Pc{W:Wd}{b:AO}{x:Str}{w:List Aq}:∀{l:List DT}{i:Nat},w∈DV W b x l i->∃(j:Nat)(q:DT),l[j]?=some q/\q.2.1=x/\q.1∈Ho W b.2.2/\w=b.1++[(b.2.1,("told" : Str),((i+j:Nat):Int))]
 |[],i,h=>by cases h
 |q::l,i,h=>by
   rcases BI.mp (show w∈FI W b x q i++DV W b x l (i+1) from h) with h|h
   unfold FI at h;split at h;rename_i a;exact⟨0,q,rfl,a.1,a.2,AW.mp h⟩;cases h;obtain⟨j,c,d,e,f,g⟩:=Pc h;exact⟨j+1,c,by simpa using d,e,f,by rw[g,show i+1+j=i+(j+1) by lia]⟩
def Uq{bs:List AO}{w:List Aq}(h:w∈D9 W x bs):∃b∈bs,∃(j:Nat)(q:DT),(Gy W b.2.1)[j]?=some q/\q.2.1=x/\q.1∈Ho W b.2.2/\w=b.1++[(b.2.1,("told" : Str),(j:Int))]:=by
 obtain⟨b,a,c⟩:=List.mem_flatMap.mp h;obtain⟨j,q,d,e,f,g⟩:=Pc c;exact⟨b,a,j,q,d,e,f,by rw[g,Nat.zero_add]⟩
theorem Ur{α:Type}{f:AO->List α}{k:Nat}:∀(bs:List AO),(∀b,(f b).length<=k)->(bs.flatMap f).length<=bs.length*k
 |[],_=>by simp
 |b::bs,h=>by
   rw[List.flatMap_cons,AS,Ej,Nat.succ_mul];have:=h b;have:=Ur bs h;lia
structure N4 (W:Wd) (x:Str) (bs:List AO) (ws:List (List Aq)):Prop where
 perm:ws.Perm (D9 W x bs)
 srt:ws.Pairwise CK.O.kle
def N4.uniq{bs:List AO}{l m:List (List Aq)}(h:N4 W x bs l)(k:N4 W x bs m):l=m:=Mv (O:=CK.O) (h.perm.trans k.perm.symm) h.srt k.srt
def CV (F:Addr->Prop) (H:Hp) (l:Addr) (w:List Aq):Prop:=∃ms:List Addr,H l=some (.lst (ms.map V.ref))/\RT G4 H ms w/\F l
def CV.same{F:Addr->Prop}{H H':Hp}{t:Addr}{b:List Aq}(e:Ac H H')(h:CV F H t b):CV F H' t b:=by
 obtain⟨a,c,d,f⟩:=h;exact⟨a,e _ _ c,d.same e,f⟩
def CV.mono'{G:Addr->Prop}{t:Addr}{b:List Aq}(e:∀x o,H x=some o->F x->G x)(h:CV F H t b):CV G H t b:=by
 obtain⟨c,a,d,f⟩:=h;exact⟨c,a,d,e _ _ a f⟩
def CV.keeps{M F:Addr->Prop}{H H':Hp}{t:Addr}{b:List Aq}(k:Keeps M H H')(c:∀x,F x->¬M x)(h:CV F H t b):CV F H' t b:=by
 obtain⟨d,e,f,a⟩:=h;exact⟨d,k.at_ _ _ e (c _ a),f.keeps k,a⟩
def CV.dt{K:Ah}{t:Addr}{b:List Aq}(h:CV F H t b):Ap K H (.ref t) (CK.D b):=by
 obtain⟨d,a,c,_⟩:=h;exact .lst (Ae.of a) (c.dts H1)
def Xj{c:Enc}{zs:List (Addr×c.O.α)}{d:List (DW c)}(a:d.Perm (zs.map λz=>((V.ref z.1,z.2):DW c))) :
 ∃ws:List (Addr×c.O.α),d.map (·.1)=(ws.map λz=>V.ref z.1)/\d.map (·.2)=ws.map (·.2)/\(ws.map (·.2)).Perm (zs.map (·.2))/\∀z∈ws,z∈zs:=by
 have:∀{l:List (DW c)},(∀y∈l,y∈zs.map λz=>((V.ref z.1,z.2):DW c))->∃ws:List (Addr×c.O.α),l=ws.map λz=>(V.ref z.1,z.2):=by
  intro l
  induction l with
  |nil=>exact λζ=>⟨[],rfl⟩
  |cons y l f =>
    intro h;obtain⟨ws,rfl⟩:=f λz g=>h z (B6 _ g);obtain⟨z,_,rfl⟩:=AZ.mp (h y Bn);exact⟨z::ws,rfl⟩
 obtain⟨ws,rfl⟩:=this λy b=>a.mem_iff.mp b;refine⟨ws,by rw[DR];rfl,by rw[DR];rfl,?_,λz k=>?_⟩;have:=a.map (·.2);rw[DR,DR] at this;exact this;have:=a.mem_iff.mp (AZ.mpr ⟨z,k,rfl⟩);obtain⟨y,b,e⟩:=AZ.mp this;injection e with i j;have:y=z:=Prod.ext (V.ref.inj i) j;rw[<-this];exact b
abbrev QO:Enc:=MB (EG N2) F3
abbrev Ow:Type:=List Aq×Int
def ow (b:AO) (r:Gn):Option Ow:=if r.2.1.1=("open" : Str) then some (b.1++[r.1],r.2.1.2) else none
def F4 (W:Wd) (bs:List AO):List Ow:=bs.flatMap λb=>(GI W b.2.1 b.2.2).filterMap (ow b)
set_option tactic.hygienic true in
def Us{bs:List AO}{w:Ow}(h:w∈F4 W bs):∃b∈bs,∃(j:Nat)(p:B9)(a:Int),(BV W b.2.1)[j]?=some p/\Ez (D8 W b.2.2) p.1=some a/\(BJ W.gs W.as p).1=("open" : Str)/\w=(b.1++[(b.2.1,("step" : Str),(j:Int))],(BJ W.gs W.as p).2):=by
 obtain⟨b,c,d⟩:=List.mem_flatMap.mp h;obtain⟨r,f,e⟩:=List.mem_filterMap.mp d;obtain⟨j,p,a,g,i,rfl⟩:=MD f;unfold ow at e;split at e;rename_i k;exact⟨b,c,j,p,a,g,i,k,(Bz e).symm⟩;cases e
structure Pd (W:Wd) (bs:List AO) (ws:List Ow):Prop where
 perm:ws.Perm (F4 W bs)
 srt:ws.Pairwise QO.O.kle
def Pd.uniq{bs:List AO}{l m:List Ow}(h:Pd W bs l)(k:Pd W bs m):l=m:=Mv (O:=QO.O) (h.perm.trans k.perm.symm) h.srt k.srt
def FU (F:Addr->Prop) (H:Hp) (t:Addr) (p:Ow):Prop:=∃(l:Addr)(ms:List Addr),H t=some (.tup [.ref l,.int p.2])/\H l=some (.lst (ms.map V.ref))/\RT G4 H ms p.1/\F l
def FU.same{F:Addr->Prop}{H H':Hp}{t:Addr}{b:Ow}(e:Ac H H')(h:FU F H t b):FU F H' t b:=by
 obtain⟨l,a,c,d,f,g⟩:=h;exact⟨l,a,e _ _ c,e _ _ d,f.same e,g⟩
def FU.mono'{G:Addr->Prop}{t:Addr}{b:Ow}(e:∀x o,H x=some o->F x->G x)(h:FU F H t b):FU G H t b:=by
 obtain⟨l,c,d,a,f,g⟩:=h;exact⟨l,c,d,a,f,e _ _ a g⟩
def FU.keeps{M F:Addr->Prop}{H H':Hp}{t:Addr}{b:Ow}(k:Keeps M H H')(c:∀x,F x->¬M x)(h:FU F H t b):FU F H' t b:=by
 obtain⟨l,d,e,f,g,a⟩:=h;exact⟨l,d,k.tup e,k.at_ _ _ f (c _ a),g.keeps k,a⟩
def FU.dt{K:Ah}{t:Addr}{b:Ow}(h:FU F H t b):Ap K H (.ref t) (QO.D b):=by
 obtain⟨l,e,a,c,d,_⟩:=h;exact .tup (Ar.of a) (.cons (.lst (Ae.of c) (d.dts H1)) (.cons (.int _) .nil))
def dC{bs:List AO}(h:bs[i]?=some b):F4 W (bs.take (i+1))=F4 W (bs.take i)++(GI W b.2.1 b.2.2).filterMap (ow b):=by
 rw[D0,h];show(bs.take i++[b]).flatMap _=_;rw[List.flatMap_append];simp[F4]
def MF{β:Type}(f:α->Option β)(l:List α)(x:α):(l++[x]).filterMap f=l.filterMap f++(f x).toList:=by
 rw[List.filterMap_append];cases e:f x<;>simp[e]
def JW(h:r.2.1.1=("open" : Str)):ow b r=some (b.1++[r.1],r.2.1.2):=Al h
def JX(h:r.2.1.1≠("open" : Str)):ow b r=none:=An h
structure Bd (W:Wd):Prop where
 tl:∀s∈W.ss,∀p∈s.2,FG W.gs.length W.as.length p
 fnd:∀(x:Str)(sc st:Int)(bs:List AO),(0<=sc/\sc<W.ss.length)->(0<=st/\st<W.sts.length)->Dq W sc st bs->(D9 W x bs).length<=62
 owd:∀(sc st:Int)(bs:List AO),(0<=sc/\sc<W.ss.length)->(0<=st/\st<W.sts.length)->Dq W sc st bs->(F4 W bs).length<=62
def F5 (ss:List Bh) (m:Aq):Str:=match ss[m.1.toNat]? with
 |some s=>if m.2.1=("step" : Str) then(match s.1[m.2.2.toNat]? with
   |some p=>p.1
   |none=>default) else(match s.2[m.2.2.toNat]? with
   |some p=>p.1
   |none=>default)
 |none=>default
def EH (ss:List Bh) (m:Aq):Prop:=∃(n k:Nat)(s:Bh),m.1=(n:Int)/\m.2.2=(k:Int)/\ss[n]?=some s/\((m.2.1=("step" : Str)/\k<s.1.length)\/(m.2.1=("told" : Str)/\k<s.2.length))
def dD{m:Aq}{k:Nat}{p:B9}(a:m.1=(n:Int))(b:m.2.2=(k:Int))(c:ss[n]?=some s)(d:m.2.1=("step" : Str))(e:s.1[k]?=some p):F5 ss m=p.1:=by
 unfold F5;rw[a,b,Bo,Bo,c];dsimp only;rw[Al d,e]
def dE{m:Aq}{k:Nat}{p:DT}(a:m.1=(n:Int))(b:m.2.2=(k:Int))(c:ss[n]?=some s)(d:m.2.1≠("step" : Str))(e:s.2[k]?=some p):F5 ss m=p.1:=by
 unfold F5;rw[a,b,Bo,Bo,c];dsimp only;rw[An d,e]
def Ut:("told" : Str)≠("step" : Str):=by decide +kernel
open Classical in
noncomputable def B7 (ss:List Bh) (ord:A'):List Aq->List Aq->Bool
 |m::ms,q::qs=>if m=q then B7 ss ord ms qs else dec ((F5 ss m,F5 ss q)∈ord)
 |_,_=>false
def Pe(ss:List Bh)(ord:A')(m:Aq)(a qs:List Aq):B7 ss ord (m::a) (m::qs)=B7 ss ord a qs:=by
 rw[B7];exact Al rfl
def Li(ss:List Bh)(ord:A'){m q:Aq}(a qs:List Aq)(h:m≠q):B7 ss ord (m::a) (q::qs)=dec ((F5 ss m,F5 ss q)∈ord):=by
 rw[B7];exact An h
theorem Lj(ss:List Bh)(ord:A'):∀{l m:List Aq},l=[]\/m=[]->B7 ss ord l m=false
 |[],_,_=>by rw[B7];intros;simp at *
 |_::_,[],_=>by rw[B7];intros;simp at *
 |_::_,_::_,h=>by simp at h
def Xk(ok:BS W)(u:0<=sc/\sc<W.ss.length)(v:0<=st/\st<W.sts.length)(h:AQ W sc st b):∀m∈b.1,EH W.ss m:=by
 induction h with
 |root=>intro m c;cases c
 |@kid d x i k l =>
   obtain⟨r,o,_,_,rfl⟩:=AI.mp k;intro m c;rcases BI.mp c with c|c;exact l m c;rw[AW.mp c];have q:=i.ok ok u v;have s:=q.rng d.2.1 (by unfold AU;simp);obtain⟨j,p,a,e,_,rfl⟩:=MD o;obtain⟨n,f⟩:=Dx s.1;have w:n<W.ss.length:=(by lia);have g:=AC w;have t:BV W d.2.1=W.ss[n].1:=by unfold BV;rw[f,Bo,g]
   rw[t] at e;exact⟨n,j,_,f,rfl,g,.inl ⟨rfl,(AY.mp e).1⟩⟩
def QP(ok:BS W)(h:0<=sc/\sc<W.ss.length)(i:0<=st/\st<W.sts.length){bs:List AO}(k:Dq W sc st bs){w:List Aq}(l:w∈D9 W x bs):(∀m∈w,EH W.ss m)/\w.length<=100:=by
 obtain⟨b,o,j,q,d,_,_,rfl⟩:=Uq l;have e:=(k.mem b).mp o;have c:=e.ok ok h i;have p:=c.rng b.2.1 (by unfold AU;simp);refine⟨λm a=>?_,?_⟩;rcases BI.mp a with a|a;exact Xk ok h i e m a;rw[AW.mp a];obtain⟨n,f⟩:=Dx p.1;have s:n<W.ss.length:=(by lia);have g:=AC s;have r:Gy W b.2.1=W.ss[n].2:=by unfold Gy;rw[f,Bo,g]
 rw[r] at d;exact⟨n,j,_,f,rfl,g,.inr ⟨rfl,(AY.mp d).1⟩⟩;have:=HZ W.ss.length (AU b) c.nd c.rng;rw[show(AU b).length=b.1.length+1 by unfold AU;simp] at this;have:=ok.s5;rw[AS,CZ];lia
def Xl(ok:BS W)(i:0<=sc/\sc<W.ss.length)(k:0<=st/\st<W.sts.length){bs:List AO}(l:Dq W sc st bs){w:Ow}(o:w∈F4 W bs):(∀m∈w.1,EH W.ss m)/\w.1.length<=100:=by
 obtain⟨b,q,j,p,a,e,_,_,rfl⟩:=Us o;have f:=(l.mem b).mp q;have d:=f.ok ok i k;have r:=d.rng b.2.1 (by unfold AU;simp);refine⟨λm c=>?_,?_⟩;rcases BI.mp c with c|c;exact Xk ok i k f m c;rw[AW.mp c];obtain⟨n,g⟩:=Dx r.1;have t:n<W.ss.length:=(by lia);have h:=AC t;have s:BV W b.2.1=W.ss[n].1:=by unfold BV;rw[g,Bo,h]
 rw[s] at e;exact⟨n,j,_,g,rfl,h,.inl ⟨rfl,(AY.mp e).1⟩⟩;have:=HZ W.ss.length (AU b) d.nd d.rng;rw[show(AU b).length=b.1.length+1 by unfold AU;simp] at this;have:=ok.s5;show(b.1++[(b.2.1,("step" : Str),(j:Int))]).length<=100;rw[AS,CZ];lia
def dG(h:n<=40000):n<sizeLine:=Nat.lt_of_le_of_lt h (by decide)
def JY (ss:List Bh) (w:List Aq):Prop:=(∀m∈w,EH ss m)/\w.length<=100
end L2
namespace PySem
section
variable {prog:Program} {w:World} {K:Type} [DecidableEq K] {knd:HeapKind prog w K} {A:Around} {E:D'} {s:Shared}
def dH{d a:Addr}{xs:List (K×Addr×Value)}{k:K}{v:Value}{Q:D'}(l:knd.room A)(i:knd.is s.heap k a)(r:s.heap.DictOfH knd d xs)
 (t:∀p,atKey xs k=some p->Q p.2 {s with toks:=s.toks+knd.draws k})
 (u:atKey xs k=none->∀h',h'.DictOfH knd d (storedH xs k a v)->Heap.SameBut d s.heap h'->Q v {s with heap:=h',toks:=s.toks+knd.draws k})
 (hsz:xs.length<=sizeLine:=by size_fits) :
 wpAny (model prog w) A (dictSetDefault d (.ref a) v) Q E s:=by
 obtain⟨o,D,z,c,B,hd,g,q,h⟩:=r;unfold dictSetDefault
 try with_reducible refine FA ?_
 refine Ad (knd.pyHash l i ?_);refine Ad (wpAny_dictFind_heap (s:={s with toks:=s.toks+knd.draws k}) l i c hd g q h ?_ ?_);intro f;have C:k∉xs.map (·.1):=not_mem_keys_of_get f
 refine Ad (Ht (Ad (wpAny_updateDictKeys (hz:=by have e:=size_of_entries g;lia) (s:={s with toks:=s.toks+knd.draws k}) c hd (Aw (u (atKey_none_of_get f) _ ⟨_,_,z+1,Heap.get?_update_self _ c (Obj.isFreed_of_dict (Obj.data_mapDictKeys hd _)),
  B.mapDictKeys _,Obj.data_mapDictKeys hd _,?_,?_,?_⟩ (Heap.SameBut.update ..))))))
 rw[storedH_new (atKey_none_of_get f)];simp[g,entryOfKey];rw[storedH_new (atKey_none_of_get f)];intro x b;rcases BI.mp b with b|b;exact knd.keeps (q x b) c hd (Heap.SameBut.update ..);simp only[AW] at b;subst b;exact knd.keeps i c hd (Heap.SameBut.update ..);rw[storedH_new (atKey_none_of_get f)];rw[Bk,List.nodup_append];refine⟨h,by simp,?_⟩;intro x b y m;simp only[Eh,Om,AW] at m;subst m;exact λe=>C (e▸b);intro j p n;refine Ad (wpAny_dictEntries (s:={s with toks:=s.toks+knd.draws k}) c hd ?_);rw[entry_at g j,n];exact Ad (Ht (Aw (t p (atKey_of_get h n))))
def dI(d a:Addr)(hd:(d==sysModules)=false)(b:Value) :
 MeetsIn prog w (Builtin.«dict.setdefault» ⟨[.ref d,.ref a,b],[]⟩) (λA R s=>knd.room A.in1/\∃k xs,knd.is s.heap k a/\s.heap.DictOfH knd d xs/\xs.length<=sizeLine /\
  (∀p,atKey xs k=some p->R (.ok (.ret p.2)) {s with toks:=s.toks+knd.draws k}) /\
  (atKey xs k=none->∀h',h'.DictOfH knd d (storedH xs k a b)->Heap.SameBut d s.heap h'->R (.ok (.ret b)) {s with heap:=h',toks:=s.toks+knd.draws k})):=
 .of_wp λA R s l=>by
  obtain⟨e,k,xs,o,c,f,g,h⟩:=l;unfold Builtin.«dict.setdefault»;refine Ad ?_;unfold Builtin.Dict.keyAndDefault;refine Ad (wpAny_notOrdered_dict c.typeIs ?_);show wpAny _ _ (pure (d,Value.ref a,some b)) _ _ s;refine Aw ?_;show wpAny _ _ (if(d==sysModules)=true then _ else(dictSetDefault d (.ref a) b >>= _)) _ _ s;rw[An (by rw[hd];exact Ct)];exact Ad (dH (hsz:=f) e o c (λp i=>Aw ⟨p.2,rfl,g p i⟩) λj h' m n=>Aw ⟨b,rfl,h j h' m n⟩)
end
section
variable {prog:Program} {w:World} {A:Around} {E:D'} {s:Shared}
variable {d:Addr}{es:Array DictEntry}{ep:Nat}
theorem dJ{o:Obj}{Q:D'}(hd:(d==sysModules)=false)(a:s.heap.get? d=some o)(e:o.ExactDict)(c:o.data=.dict es ep)
 (f:Q (.ref s.heap.objs.size) {s with heap:=s.heap.push {cls:=.type "dict_keyiterator",data:=.fields #[.ref d,.int 0 0,.int es.size 0,.int ep 0]}}) :
 wpAny (model prog w) A (pyIter (.ref d)) Q E s:=by
 have b:s.TypeIs (.ref d) "dict" :=⟨o,a,e.1⟩;refine wpAny_pyIter_slot b F.slot_dict_iter (wpAny_call_entry F.slot_dict_iter b F.entry_dict_iter ?_ (F.args_dict_iter_1 _));unfold Builtin.«dict.__iter__»;refine Ad ?_;unfold Builtin.Dict.dictSlotNone;refine Ad (wpAny_notOrdered_dict b ?_);show wpAny _ _ (pure (Value.ref d)) _ _ s;refine Aw ?_;show wpAny _ _ (Builtin.Dict.showsAll d >>= _) _ _ s;unfold Builtin.Dict.showsAll;rw[An (by rw[hd];exact Ct)];refine Ad (Aw ?_);refine Ad (wpAny_dictEntries a c ?_);refine Ad (wpAny_dictEpoch a c ?_);refine Ad (wpAny_newObj_type (Aw ⟨_,rfl, "dict_keyiterator",_,⟨_,Cd _ rfl,rfl⟩,F.slot_dict_keyiterator_next.lookup,?_⟩));simpa [rawInt] using f
theorem dL{it:Addr}{i:Nat}{b:Obj}{Q:Option Value->Shared->Prop}(hit:s.heap.IsKeyIter it d i es.size ep)
 (c:s.heap.get? d=some b) (e:b.data=.dict es ep) (j:i<es.size)
 (g:∀h',h'.IsKeyIter it d (i+1) es.size ep->Heap.SameBut it s.heap h'->Q (some es[i].key) {s with heap:=h'}) :
 wpAny (model prog w) A (pyNext (.ref it)) Q E s:=by
 obtain⟨o,a,h,hd⟩:=id hit;unfold pyNext
 refine Ad (wpAny_attempt (wpAny_callSpecial?_slot (name:=Str.ofString "__next__") hit.typeIs F.slot_dict_keyiterator_next
  (wpAny_call_entry F.slot_dict_keyiterator_next hit.typeIs F.entry_dict_keyiterator_next ?_ (F.args_dict_keyiterator_next_1 _))))
 refine Ad (Aw ?_);refine Ad ?_;refine Ad ?_
 first|refine Ad (wpAny_typeNameOfWhole_keyiter hit.typeIs (Aw ?_))|refine Ad (wpAny_typeNameOf_keyiter hit.typeIs (Aw ?_))
 refine Ad (wpAny_fieldsOf a hd ?_);have k:Builtin.Dict_items.ownsTuple "dict_keyiterator" = false:=(by decide)
 simp only[k,Fz,if_false];show wpAny _ _ (if(Value.ref d==Value.none)=true then _ else _) _ _ s;rw[An (show ¬((Value.ref d==Value.none)=true) from Ct)];refine Ad (Aw ?_);refine Ad (wpAny_dictEntries c e ?_);rw[An (by simp)];refine Ad (Aw ?_);refine Ad (wpAny_dictEpoch c e ?_);rw[An (by simp)];refine Aw ?_;simp only[show ¬((i:Int)<0) from by lia,if_false,Bo,Array.getElem?_eq_getElem j];refine Ad ?_
 first|refine Ad (wpAny_typeNameOfWhole_keyiter hit.typeIs (Aw ?_))|refine Ad (wpAny_typeNameOf_keyiter hit.typeIs (Aw ?_))
 refine Ad (wpAny_isOneOf_keyiter hit.typeIs ?_);show wpAny _ _ (setField (.ref it) 1 (rawInt ((i:Int)+1)) >>= _) _ _ s;refine Ad (wpAny_setField a hd (by simp) ?_)
 have f:(s.heap.update it (Obj.mapFields (·.setIfInBounds 1 (rawInt ((i:Int)+1))))).IsKeyIter it d (i+1) es.size ep:=
  ⟨_,Heap.get?_update_self _ a (Obj.isFreed_of_fields (Obj.data_mapFields hd _)),(Obj.cls_mapFields ..).trans h,by rw[Obj.data_mapFields hd];simp[rawInt]⟩
 refine Ad (FA ?_);refine Ad (wpAny_isOneOf_keyiter (s:={s with heap:=s.heap.update it (Obj.mapFields (·.setIfInBounds 1 (rawInt ((i:Int)+1))))}) f.typeIs ?_);show wpAny _ _ (pure es[i].key) _ _ _;exact Aw (Aw ⟨_,rfl,Aw (g _ f (Heap.SameBut.update ..))⟩)
theorem dM{it:Addr}{i:Nat}{c:Obj}{Q:Option Value->Shared->Prop}(h:A.handled=none)(hit:s.heap.IsKeyIter it d i es.size ep)
 (f:s.heap.get? d=some c) (g:c.data=.dict es ep) (k:es.size<=i)
 (j:∀h',Heap.ExtBut it s.heap h'->Q none {s with heap:=h'}):wpAny (model prog w) A (pyNext (.ref it)) Q E s:=by
 obtain⟨o,e,n,hd⟩:=id hit;unfold pyNext
 refine Ad (wpAny_attempt (wpAny_callSpecial?_slot (name:=Str.ofString "__next__") hit.typeIs F.slot_dict_keyiterator_next
  (wpAny_call_entry F.slot_dict_keyiterator_next hit.typeIs F.entry_dict_keyiterator_next ?_ (F.args_dict_keyiterator_next_1 _))))
 refine Ad (Aw ?_);refine Ad ?_;refine Ad ?_
 first|refine Ad (wpAny_typeNameOfWhole_keyiter hit.typeIs (Aw ?_))|refine Ad (wpAny_typeNameOf_keyiter hit.typeIs (Aw ?_))
 refine Ad (wpAny_fieldsOf e hd ?_);have l:Builtin.Dict_items.ownsTuple "dict_keyiterator" = false:=(by decide)
 simp only[l,Fz,if_false];show wpAny _ _ (if(Value.ref d==Value.none)=true then _ else _) _ _ s;rw[An (show ¬((Value.ref d==Value.none)=true) from Ct)];refine Ad (Aw ?_);refine Ad (wpAny_dictEntries f g ?_);rw[An (by simp)];refine Ad (Aw ?_);refine Ad (wpAny_dictEpoch f g ?_);rw[An (by simp)];refine Aw ?_;simp only[show ¬((i:Int)<0) from by lia,if_false,Bo,Array.getElem?_eq_none k];refine Ad ?_
 first|refine Ad (wpAny_typeNameOfWhole_keyiter hit.typeIs (Aw ?_))|refine Ad (wpAny_typeNameOf_keyiter hit.typeIs (Aw ?_))
 show wpAny _ _ (setField (.ref it) 0 .none >>= _) _ _ s;refine Ad (wpAny_setField e hd (by simp) ?_);show wpAny _ _ (newExc (.type "StopIteration") [] >>= _) _ _ _
 refine Ad ?_;simp only[newExc,newTuple];refine Ad (wpAny_newObj_type ?_ (by size_fits));refine Ad (m:=firstArgMember _ _) (wpAny_of_eq (a:=Value.none) (by first|rfl|(simp only[firstArgMember];rfl)) ?_);refine wpAny_newObj_type ?_ (by size_fits);simp only[raiseNew];refine Ad (wpAny_handled ?_);rw[show A.in1.handled=none from h];refine Ad (Aw (wpAny_throw ?_))
 refine Ad (wpAny_isInstance (T:= "StopIteration") (b:=true) ⟨_,Cd _ rfl,rfl⟩ isSubtype_stop ?_);exact Aw (j _ (((Heap.SameBut.update ..).extBut.push _).push _))
end
end PySem
namespace L2
open PySem PySem.Spec PyProof.Rows
section
variable {X:Cx}
def Pf:V->List V->Hp->VK->Prop:=λx vs H Q=>∃a kvs k b d,x=.ref a/\vs=[.ref b,d]/\H a=some (.dT kvs)/\H b=some (.tup (k.map kV))/\kvs.length<sizeLine/\(∀v,AJ kvs k=some v->Q v H)/\(AJ kvs k=none->Q d (upd H a (.dT (A1 kvs k d))))
def dN(A:X.A.units+1<cLine):K8 X "dict.setdefault" Pf:=by
 intro Z s σ H x T v U Q I B C h;obtain⟨a,g,k,b,d,rfl,rfl,hd,l,V,D,E⟩:=h;cases B;obtain⟨u,r,rfl,F,m⟩:=Jw C;cases(show u=Value.ref b from F);obtain⟨z,n,o,j,p⟩:=HI I.hok hd
 have i:o.length<=sizeLine:=by rw[<-Paired.length j];exact z
 have f:=j.val k
 refine call_meetsIn PySem.F.slot_dict_setdefault p.typeIs PySem.F.entry_dict_setdefault (PySem.F.args_dict_setdefault_3 _ _ _) (dI (knd:=tupleKind (ES X.prog X.w)) a b n r)
  ⟨tupleKind_room_in1 A,k,o,Mj I.hok l,p,i,λy G=>?_,λJ W S K=>?_⟩
 rw[G] at f
 cases e:AJ g k with
 |none=>rw[e] at f;exact False.elim f
 |some v0 =>
   rw[e] at f;exact⟨v0,H,I.tok _,f,D v0 e⟩
 rw[J] at f
 cases e:AJ g k with
 |some v0=>rw[e] at f;exact False.elim f
 |none =>
   have i:(A1 g k d).length<=sizeLine:=by have:=OW g k d;lia
   obtain⟨q,L,M,t,N,O,P,_,R⟩:=S;refine⟨d,_,OX (ob:=.dT (A1 g k d)) I (by rw[hd];exact True.intro) K ⟨q,t⟩ ⟨i,n,_,(j.put k l m).keeps λc Y w=>?_,q,L,M,t,N,O,P,R⟩,m,E e⟩;rw[AD (NN w hd (λz=>nomatch z))];exact w
def QQ (H Y H2:Hp):Prop:=∀b,H2 b=Y b\/H b=none/\∃kvs o,Y b=some (.dT kvs)/\H2 b=some (.frz o (.dT kvs))
def Inv.frz{pins:B'}{s:Shared}{σ:St}{H d:Hp}(I:Inv X pins σ H s)(h:∀b,d b=H b\/∃a o,s.heap.get? b=some o/\H b=some (.dT a)/\d b=some (.frz o (.dT a))):Inv X pins σ d s:=by
 have same:∀b u,H b=some u->(∀a,u≠.dT a)->d b=some u:=λb u e n=>by
  rcases h b with z|⟨a,o,_,z,_⟩;rw[z];exact e;rw[e] at z;cases z;exact absurd rfl (n a)
 refine I.step (g':=s.gens) (t':=s.toks) (d':=s.drawn) (h':=s.heap) (ch:=[]) (λb i=>nomatch i) (λb o ζ ζ ζ z ζ=>z) (λb o ζ ζ ζ z ζ=>⟨o.slots,z⟩) (λb o ζ ζ n=>?_) (λb o ζ z=>⟨o,z⟩)
  (λb j z=>same b _ z λζ q=>nomatch q) (λb o u z=>same b _ z λζ q=>nomatch q) (λb p z=>⟨#[],by rw[same b _ z λζ q=>nomatch q];simp⟩) (λm k=>k) (λb u z=>?_) I.bare
 rcases h b with z|⟨a,o,_,z,_⟩;rw[z];exact n;rw[n] at z;cases z;have f:∀{v:HO},H b=some v->AB X.prog X.w d s.heap b v:=λ{v}e=>(I.hok b v e).stay (λζ ζ ζ q=>q) (λc q=>same c _ q λζ q=>nomatch q) λc j q=>same c _ q λζ q=>nomatch q;rcases h b with y|⟨a,o,g,y,l⟩;rw[y] at z;exact f z;rw[l] at z;cases z;exact⟨g,f y⟩
def Uu (t:TE):TE:=λσ H Q=>t σ H λv Y=>∀H2,QQ H Y H2->(∀b kvs,H b=none->Y b=some (.dT kvs)->∃o,H2 b=some (.frz o (.dT kvs)))->Q v H2
set_option tactic.hygienic true in
def Ia{e:Expr}{t:TE}(n:PE X e t):PE X e (Uu t):=by
 intro v s σ H Q I h;refine AV (n v s σ H _ I h) λu j⟨x,Y,l,p,q⟩=>?_
 classical
 let d:Hp:=λb=>if H b=none then(match Y b,j.heap.get? b with
  |some (.dT a),some o=>some (.frz o (.dT a))
  |z,_=>z) else Y b
 have k:∀b,d b=Y b\/H b=none /\ ∃a o,j.heap.get? b=some o/\Y b=some (.dT a)/\d b=some (.frz o (.dT a)):=λb=>by
  by_cases c:H b=none
  have e:d b=(match Y b,j.heap.get? b with
   |some (.dT a),some o=>some (.frz o (.dT a))
   |z,_=>z):=Al c
  by_cases hd:∃a o,Y b=some (.dT a)/\j.heap.get? b=some o;obtain⟨a,o,f,i⟩:=hd;rw[f,i] at e;exact .inr ⟨c,a,o,i,f,e⟩;refine .inl ?_;rw[e];split;rename_i a o f i;exact absurd ⟨a,o,f,i⟩ hd;rfl;exact .inl (An c)
 refine⟨x,d,l.frz λb=>(k b).imp id λ⟨_,z⟩=>z,p,q d (λb=>(k b).imp id λ⟨c,a,o,_,f,i⟩=>⟨c,a,o,f,i⟩) λb a c z=>?_⟩;rcases k b with y|⟨_,w,o,_,m,r⟩;exfalso
 obtain⟨_,_,_,_,o,A,B,g,_⟩:=(show AB X.prog X.w Y j.heap b (.dT a) from l.hok b _ z)
 have e:d b=some (.frz o (.dT a)):=by
  show(if H b=none then _ else _)=_;rw[Al c,z,g]
 rw[e,z] at y;cases y;rw[z] at m;cases m;exact⟨o,r⟩
def Uv (a:Addr) (o:Obj) (kvs:List (List AN×V)):It:=
 ⟨λi H=>H a=some (.frz o (.dT kvs))/\i<kvs.length,λi H x H'=>H'=H/\∃k v b,kvs[i]?=some (k,v)/\x=.ref b/\H b=some (.tup (k.map kV)),λi H=>H a=some (.frz o (.dT kvs))/\kvs.length<=i⟩
def MG{α β:Type}{F:α->β->Prop}{l:List α}{m:List β}(h:Paired F l m):∀{i:Nat}(a:i<l.length),∃y,m[i]?=some y/\F l[i] y:=by
 induction h with
 |nil=>intro i a;exact absurd a (Nat.not_lt_zero _)
 |cons r t b =>
   intro i a
   cases i with
   |zero=>exact⟨_,rfl,r⟩
   |succ i=>exact b (i:=i) (by simpa using a)
def dO{P:Program}{w:World}{K:Ah}{S:Expr}{a it:Addr}{o:Obj}{n:List (List AN×V)}{es:Array DictEntry}{ep:Nat}(hd:o.data=.dict es ep) :
 Gw P w K S (Uv a o n) [it] it (λi h=>h.IsKeyIter it a i es.size ep) where
 mem:=by simp
 obj:=λi h f b j=>by
  have e:b=it:=(by simpa using j);subst e;obtain⟨o,e,c,d⟩:=f;exact⟨o,e,λah z=>by rw[d] at z;cases z⟩
 keep:=λi h p f k=>f.at λo e=>k it (by simp) o e
 item:=by
  intro X t u v N i R s σ H E I r f x;subst t u v;obtain⟨A,B⟩:=x;obtain⟨l,z,y,T,M,U,ab,ae,g,W,m,C,Y⟩:=(show AB X.prog X.w H s.heap a (.frz o (.dT n)) from I.hok a _ A);rw[l] at g;cases g;rw[hd] at m;cases m;obtain⟨q,Z,e1,e2,e3⟩:=MG M B;have O:=entry_at (knd:=tupleKind (ES X.prog X.w)) C i;rw[Z] at O;obtain⟨af,ag⟩:=Array.getElem?_eq_some_iff.mp O;obtain⟨D,F,aa,G,J,L⟩:=r it (by simp);refine dL f l hd af λp Q sb=>?_;have I1:Inv X R σ H {s with heap:=p}:=I.turned (t':=s.toks) (λb o j e=>(sb.2 b j).trans e) D F G J L;obtain⟨oi,e,c,d⟩:=id Q;refine⟨_,rfl,Hw (s:={s with heap:=p}) e c d (by decide) ⟨.ref q.2.1,H,I1,?_,⟨rfl,n[i].1,n[i].2,q.2.1,by simp[B],rfl,e2⟩,Q,λb j=>(r b j).1⟩⟩;rw[ag];rfl
 done:=by
  intro X t u v N i R s σ H E I r f x;subst t u v;obtain⟨A,B⟩:=x;obtain⟨l,z,y,T,M,U,ab,ae,g,W,m,C,Y⟩:=(show AB X.prog X.w H s.heap a (.frz o (.dT n)) from I.hok a _ A);rw[l] at g;cases g;rw[hd] at m;cases m;have ai:=size_of_entries C;have hl:=Paired.length M;obtain⟨D,F,aa,G,J,L⟩:=r it (by simp);exact dM (I.ok.hd N) f l hd (by lia) λp eb=>⟨rfl,I.turned (t':=s.toks) (λb o j e=>eb b o j e) D F G J L⟩
 self:=λζ ζ ζ ζ ζ f h=>wpAny_pyIter_keyiter f h
def Pg (tl:TE):TI:=λσ H R=>tl σ H λx Y=>∃a kvs,x=.ref a/\Rd Y a (.dT kvs)/\∀o,(Y a=some (.dT kvs)\/Y a=some (.frz o (.dT kvs)))->R (Uv a o kvs) (upd Y a (.frz o (.dT kvs)))
def JZ{r l:Expr}{k:TE}(t:PE X l k):PI X r l (Pg k):=by
 intro p s σ H R I h;refine AV (t p s σ H _ I h) λv c⟨x,Y,i,u,w⟩=>?_;obtain⟨a,d,e,m,q⟩:=w;subst e;cases u;obtain⟨_,y,C,_,o,D,E,g,A,n,_⟩:=(show AB X.prog X.w Y c.heap a (.dT d) from HH i.hok m)
 have f:Y a=some (.dT d)\/Y a=some (.frz o (.dT d)):=by
  rcases m with z|⟨B,z⟩;exact .inl z
  have:=(show AB X.prog X.w Y c.heap a (.frz B (.dT d)) from i.hok a _ z).1
  rw[g] at this;cases this;exact .inr z
 have j:Inv X p σ (upd Y a (.frz o (.dT d))) c:=i.frz λb=>by
  by_cases e:b=a;subst e;rcases f with z|z;exact .inr ⟨d,o,g,z,Aa⟩;exact .inl (Aa.trans z.symm);exact .inl (AD e)
 refine dJ y g A n ?_;refine⟨c.heap.objs.size,[c.heap.objs.size],_,_,_,rfl,j.kept (t':=c.toks) λb o e=>Bf _ e,dO n,⟨_,Cd _ rfl,rfl,rfl⟩,λb f=>?_,q o f⟩;have e:b=c.heap.objs.size:=(by simpa using f);subst e;exact j.fpOk (AG _) (j.hok.fresh (AG _))
def dP{a:Addr}{o:Obj}{c:List (List AN×V)}{g:TG}{tb:TS}{D:Ends}{σ:St}{H:Hp}(Pv:Nat->St->Hp->Prop)(f:Pv 0 σ H)(e:∀i σ H,i<=c.length->Pv i σ H->H a=some (.frz o (.dT c)))
 (h:∀i k v b σ H,c[i]?=some (k,v)->H b=some (.tup (k.map kV))->Pv i σ H->g (.ref b) σ H λσ2 j=>tb {D with nx:=Pv (i+1),ct:=Pv (i+1),bk:=D.nx} σ2 j) (hd:∀σ H,Pv c.length σ H->D.nx σ H):FZ (Uv a o c) g tb D σ H:=OI c.length Pv f (λi σ H p d=>⟨e i σ H (CI d) p,d⟩) (λσ H p=>⟨e _ σ H (AG _) p,AG _⟩) (λi x σ H n p d y=>by obtain⟨rfl,k,v,b,l,rfl,m⟩:=y;exact h i k v b σ _ l m p) hd
end
end L2
namespace PySem
section
variable {prog:Program} {w:World} {A:Around} {E:D'} {s:Shared}
theorem Xm{a:Addr}{o:Obj}{xs:Array Value}{k:Nat}{Q:Option Value->Shared->Prop}
 (f:s.heap.get? a=some o) (i:o.cls=.type "list") (n:o.data=.seq xs k) (hd:o.dict=none) (p:A.handled=none)
 (h:∀h' tk,(∀b o,s.heap.get? b=some o->h'.get? b=some o)->Q none {s with heap:=h',toks:=tk}):wpAny (model prog w) A (getAttr? (.ref a) "keys") Q E s:=by
 obtain⟨c,dct,G,q⟩:=o;simp only at i n hd;subst i n hd;obtain⟨r,g,d,tk,t⟩:=s;have j:∀l,(⟨r,g,d,l,t⟩:Shared).TypeIs (.ref a) "list" :=λζ=>⟨_,f,rfl⟩;have v:=sub_AttributeError;have x:=F.slot_list_getattribute.lookup;have y:=F.slot_list_getattribute.bind (.ref a);have z:=am_list_getattr_none;have u:typeLookup (.type "list") "keys" = pure none:=by rw[typeLookup_type,builtinLookup_eq_fast];kernel_rfl
 unfold getAttr? getAttrBy? getAttrBy
 repeat (any_goals (first|assumption|exact j _|((with_reducible show wpAny _ _ (call (Value.builtin "list.__getattribute__") _ _) _ _ _);refine call_meets F.slot_list_getattribute (j _) am_entry_list_getattribute (F.args_list_getattribute_2 _ _) (meets_getattribute_miss_list a xs k q "keys" _ u (by decide) (by size_fits)) ⟨f,p,λh' l e m=>?_⟩)|wp_step))
 obtain⟨B,C,D⟩:=m.there;show wpAny _ _ (getattributeRaised _ _ _ _ _ _ _) _ _ _;unfold getattributeRaised
 repeat (any_goals (first|assumption|wp_step))
 exact h _ _ m.keeps
namespace F
def args_minD(a v:Value):argsOk "min" ⟨[a],[(Str.ofString "default",v)]⟩:=by unfold argsOk;kernel_rfl
def entry_upd_loop:entryFor table "dict.update.loop" = some Builtin.«dict.update.loop»:=entryFor_of_tree (by kernel_rfl)
def plain_upd_loop:plainId "dict.update.loop" = true:=by decide +kernel
end F
variable {R:Result->Shared->Prop} {I:Addr} {fp u:List Addr} {n:Nat} {P:Nat->Value->Prop} {St:Nat->Heap->Prop}
def QR:(toString "min" ++ toString ".loop" : String) = "min.loop" :=by decide
theorem Uw(W:Walks prog w A.in1 I fp u n P St)(d:Nat->Nat->Bool)(E:CmpOf prog w A.in1 .Lt P d)(S:Addr)(m:S∉fp)(r:List (Str×Value)) :
 ∀(k j:Nat)(s:Shared)(a:Value)(c:Nat),n=j+1+k->St (j+1) s.heap->P (argBest d j) a->s.heap.get? S=some {cls:=.type "list",data:=.seq #[a,a] c} ->
 (∀v h' tk,P (argBest d (n-1)) v->(∀b o,b∉u->b≠S->s.heap.get? b=some o->h'.get? b=some o)->R (.ok (.ret v)) {s with heap:=h',toks:=tk}) ->
 codeAny (model prog w) A (.builtin "min.loop" ⟨[.ref I,.none,.ref S],r⟩) R s
 |0,j,s,a,c,G,y,q,l,p=>by
   subst G;refine codeAny_builtin F.entry_min_loop ?_;rw[Around.under_plainId F.plain_min_loop _];show wpAny _ A.in1 (seqItems? (.ref S) >>= _) _ _ s;refine Ad (Gr l rfl ?_);show wpAny _ A.in1 (tryCatch (pyNext (.ref I)) _ >>= _) _ _ s;refine Ad (wpAny_tryCatch (W.done s _ _ y λh' tk g=>?_));show wpAny _ A.in1 (updateSeq S (λ_=>#[]) >>= _) _ _ _;refine Ad (wpAny_updateSeq (g S _ (λh=>m (W.sub _ h)) l) rfl (Ad (wpAny_letGo (Aw (p a _ tk q λb o f i e=>?_)))));exact(Heap.get?_update_other _ _ (Ne.symm i)).trans (g b o f e)
 | k + 1,j,s,a,c,G,y,q,l,p=>by
   refine codeAny_builtin F.entry_min_loop ?_;rw[Around.under_plainId F.plain_min_loop _];show wpAny _ A.in1 (seqItems? (.ref S) >>= _) _ _ s;refine Ad (Gr l rfl ?_);show wpAny _ A.in1 (tryCatch (pyNext (.ref I)) _ >>= _) _ _ s;refine Ad (wpAny_tryCatch (W.item (j+1) s _ _ (by lia) y λv h' tk H K g=>?_));have z:=g S _ (λh=>m (W.sub _ h)) l;show wpAny _ A.in1 (tryCatch (holding [v,v] (richCompare .Lt v a >>= _)) _ >>= _) _ _ _;refine Ad (wpAny_tryCatch (FA (Ad (E (j+1) (argBest d j) v a _ _ _ H q (Ad (FA (FX (Ad (wpAny_letGo (Aw ?_))))))))))
   cases J:d (j+1) (argBest d j) with
   |true =>
     simp only[if_true];refine Ad (wpAny_updateSeq z rfl (Ad (wpAny_letGo ?_)));rw[QR];refine Aw ⟨plainId_quiet F.plain_min_loop _,Uw W d E S m r k (j+1) _ v _ (by lia) (W.frame _ _ _ K λb L o e=>?_) (by simp only[argBest,J,if_true];exact H) (Heap.get?_update_self _ z rfl) λt x B C D=>?_⟩;exact(Heap.get?_update_other _ _ (λh:S=b=>m (by rw[h];exact L))).trans e;exact p t x B C λb o f i e=>D b o f i ((Heap.get?_update_other _ _ (Ne.symm i)).trans (g b o f e))
   |false =>
     simp only[Fz,if_false];refine Ad (wpAny_letGo ?_);rw[QR]
     exact Aw ⟨plainId_quiet F.plain_min_loop _,Uw W d E S m r k (j+1) _ a c (by lia) K (by simp only[argBest,J,Fz,if_false];exact q) z λt x B C D =>
      p t x B C λb o f i e=>D b o f i (g b o f e)⟩
theorem dQ{x d:Value}{Q:D'}
 (h:wpAny (model prog w) A.in1 (pyIter x) (λit c=>∃I fp u n P St f,it=.ref I/\Walks prog w A.in1 I fp u n P St/\St 0 c.heap/\(∀b∈fp,b<c.heap.objs.size)/\CmpOf prog w A.in1 .Lt P f /\
  ∀v h' tk,(if n=0 then v=d else P (argBest f (n-1)) v)->(∀b o,b∉u->c.heap.get? b=some o->h'.get? b=some o)->Q v {c with heap:=h',toks:=tk}) E s) :
 wpAny (model prog w) A (call (.builtin "min") [x] [(Str.ofString "default",d)]) Q E s:=by
 refine wpAny_call (codeAny_call_builtin F.plain_min F.entry_min (wpAny_of_eq (a:=()) (by
  have j:=F.args_minD x d;simp only[checkBuiltinCall,F.kind_min];unfold argsOk at j
  cases N:Manifest.signature? "min" with
  |none=>rfl
  |some S=>rw[N] at j;exact j) ?_))
 show wpAny _ A.in1 (Builtin.Builtins.bindParams "min" ["key", "default"] 0 ⟨[],[(Str.ofString "default",d)]⟩ >>= _) _ _ s
 refine Ad (wpAny_of_eq (show Builtin.Builtins.bindParams "min" ["key", "default"] 0 ⟨[],[(Str.ofString "default",d)]⟩=pure [none,some d] from rfl) ?_)
 refine Ad (Aw ?_);refine Ad (FY h (λit c t=>?_) λ_ _ e=>e);obtain⟨I,fp,u,n,P,St,f,rfl,W,D,G,O,l⟩:=t;refine Ad (wpAny_newObj_type ?_);have k:c.heap.objs.size∉fp:=λy=>Hs _ (G _ y);have H:c.heap.objs.size∉u:=λh=>k (W.sub _ h);rw[QR];have m:(c.heap.push {cls:=.type "list",data:=.seq #[]}).get? c.heap.objs.size=some {cls:=.type "list",data:=.seq #[]}:=Cd _ rfl;have r:=W.frame _ _ (c.heap.push {cls:=.type "list",data:=.seq #[]}) D λb _ o e=>Bf _ e;refine Aw ⟨plainId_quiet F.plain_min_loop _,codeAny_builtin F.entry_min_loop ?_⟩;rw[Around.under_plainId F.plain_min_loop _];show wpAny _ A.in1 (seqItems? (.ref c.heap.objs.size) >>= _) _ _ _;refine Ad (Gr m rfl ?_);show wpAny _ A.in1 (tryCatch (pyNext (.ref I)) _ >>= _) _ _ _
 cases n with
 |zero =>
   refine Ad (wpAny_tryCatch (W.done _ _ _ r λh' tk g=>?_));exact Ad (Ht (Aw (l d _ tk (by rw[Al rfl]) λb o i e=>g b o i (Bf _ e))))
 |succ n =>
   refine Ad (wpAny_tryCatch (W.item 0 _ _ _ (Nat.succ_pos _) r λv h' tk z R g=>?_));have q:=g _ _ H m;show wpAny _ A.in1 (updateSeq c.heap.objs.size (λ_=>#[v,v]) >>= _) _ _ _;refine Ad (wpAny_updateSeq q rfl ?_);rw[QR];refine Aw ⟨plainId_quiet F.plain_min_loop _,Uw W f O _ k _ n 0 _ v _ (by lia) (W.frame _ _ _ R λb J o e=>?_) z (Heap.get?_update_self _ q rfl) λB C K L M=>?_⟩;exact(Heap.get?_update_other _ _ (λh:c.heap.objs.size=b=>k (by rw[h];exact J))).trans e;refine l B C K (by rw[An (Nat.succ_ne_zero n)];exact L) λb o i e=>?_;have p:b≠c.heap.objs.size:=CF (Br e);exact M b o i p ((Heap.get?_update_other _ _ (Ne.symm p)).trans (g b o i (Bf _ e)))
end
end PySem
namespace L2
open PySem PySem.Spec PyProof.Rows
section
variable {X:Cx}
def MH:List Int->V
 |[]=>.non
 |n::ns=>.int (ns.foldl min n)
theorem Ux(f:Nat->Int):∀n,f (argBest (λi j=>decide (f i<f j)) n)=((List.range n).map λi=>f (i+1)).foldl min (f 0)
 |0=>rfl
 |n+1=>by
   have a:=Ux f n;rw[List.range_succ,Bk,KY];show f (if _ then _ else _)=min _ (f (n+1));rw[<-a]
   by_cases h:f (n+1)<f (argBest (λi j=>decide (f i<f j)) n);rw[Al (Ba h)];lia;rw[An (by simpa using h)];lia
def Xn(n:Int)(ns:List Int):((List.range ns.length).map λi=>(n::ns).getD (i+1) 0)=ns:=by
 apply List.ext_getElem?;intro i;rw[A8];by_cases h:i<ns.length;rw[List.getElem?_range h,Option.map_some,B1,List.getElem?_cons_succ,AC h];rfl;rw[Gg (by simpa using h),Gg (by lia)];rfl
def Ph (ta:TA):TE:=λσ H Q=>ta σ H λvs Y=>∃p ns,vs=[.ref p]/\Y p=some (.lst (ns.map V.int))/\Q (MH ns) Y
def J1{e:Expr}{r:TA}{p L B J:Pos}{j:Nat}(C:X.calm=true)(D:Gl X "min")(E:X.mg "min" = none)(F:PA X [e] r)
 (f:backTo L (starEach [e] X.env)=(false,eval e X.env)::backTo L (starEach [] X.env):=by rfl) (R:(backTo L (starEach [e] X.env)).any (·.1)=false:=by rfl) :
 PE X (.Call (.Name "min" p) [e] [⟨some "default",.Constant .none j B,J⟩] L) (Ph r):=by
 intro T s σ H Q I h;refine wpAny_Call_Name_kw (K2 I D E (u:=.builtin "min") (by decide +kernel) (callWith_kw (AV (F L T s σ H _ I h) λW c⟨Z,Y,k,G,K⟩=>kws_cons (Constant_none (kws_nil ?_))) f R))
 obtain⟨l,a,rfl,M,q⟩:=K;obtain⟨u,rfl,N⟩:=Fa G;cases N;obtain⟨z,g,n,w,e⟩:=(show AB X.prog X.w Y c.heap l (.lst (a.map V.int)) from k.hok l _ M);have x:=Wm w;have y:c.heap.IsList l g.toArray:=⟨_,e,rfl,n,rfl⟩
 have U:g.length=a.length:=by have:=w.length;rw[Ak] at this;exact this.symm
 refine dQ (wpAny_pyIter_list y ⟨_,[c.heap.objs.size,l],[c.heap.objs.size],_,λi v=>g.toArray[i]?=some v,λi h=>h.IsListIter c.heap.objs.size l i/\h.IsList l g.toArray,λi j=>decide (a.getD i 0<a.getD j 0),rfl,Walks.list (A:=X.A.in1) (k.ok.hd C) c.heap.objs.size l (CF (Br e)) g.toArray,
  ⟨⟨_,Cd _ rfl,rfl,rfl⟩,y.push _⟩,λb f=>?_,CmpOf.ints_lt (λi=>a.getD i 0) (λi v d=>x.int_at i v (by simpa using d)),λv O tk d P=>?_⟩)
 show b<(c.heap.push _).objs.size;rw[Heap.size_push];rcases B5.mp f with rfl|f;exact Qh _;rw[AW.mp f];exact Nat.lt_succ_of_lt (Br e);have S:∀b o,c.heap.get? b=some o->O.get? b=some o:=λb o z=>P b o (by simpa using CF (Br z)) (Bf _ z);refine⟨MH a,Y,k.kept S,?_,q⟩;rw[Ce,U] at d
 cases a with
 |nil=>exact d
 |cons m a =>
   rw[Ej,An (Nat.succ_ne_zero _),Nat.add_sub_cancel] at d;obtain⟨t,rfl⟩:=x.int_at (argBest (λi j=>decide ((m::a).getD i 0<(m::a).getD j 0)) a.length) v (by rw[<-List.getElem?_toArray];exact d);refine⟨t,?_⟩;rw[Ux λi=>(m::a).getD i 0,Xn];rfl
def Ll (acc:List (List AN×V)) (ps:List (List AN×V)):List (List AN×V):=ps.foldl (λa kv=>A1 a kv.1 kv.2) acc
def Fg (H:Hp) (xs:List V) (ps:List (List AN×V)):Prop:=Paired (λx(p:List AN×V)=>∃t b,x=.ref t/\H t=some (.tup [.ref b,p.2])/\H b=some (.tup (p.1.map kV))) xs ps
def dR{pins:B'}{σ:St}{A:Around}{R:Result->Shared->Prop}{H:Hp}{p l it:Addr}(Y:A.units+1<cLine)(hh:A.in1.handled=none)(j:H p=none)(E:it≠p) :
 ∀(xs:List V)(ps:List (List AN×V))(d:List V)(acc:List (List AN×V))(s:Shared),Fg H xs ps->H l=some (.lst (d++xs))->acc.length+xs.length<=sizeLine->Inv X pins σ (upd H p (.dT acc)) s ->
 s.heap.IsListIter it l d.length->Dj X pins H it->(∀Z,Inv X pins σ (upd H p (.dT (Ll acc ps))) Z->R (.ok (.ret .none)) Z)->∀n:Int,
 codeAny (model X.prog X.w) A (.builtin "dict.update.loop" ⟨[.ref p,.ref it,rawInt n,.none],[]⟩) R s:=by
 intro xs ps d acc s hx
 induction hx generalizing d acc s with
 |nil =>
   intro f J I r k u n;have F:upd H p (.dT acc) l=some (.lst (d++[])):=(AD (AX f j)).trans f;obtain⟨v,w,aa,y,B,C⟩:=k;have G:upd H p (.dT acc) it=none:=(AD E).trans v;obtain⟨z,S,c,D,e⟩:=(show AB X.prog X.w _ s.heap l (.lst (d++[])) from I.hok l _ F);have an:=D.length;rw[E7] at an;refine codeAny_builtin PySem.F.entry_upd_loop ?_;rw[Around.under_plainId PySem.F.plain_upd_loop _];show wpAny _ A.in1 (pyNext (.ref it) >>= _) _ _ s;refine Ad (wpAny_pyNext_list_end hh r ⟨_,e,rfl,c,rfl⟩ (by simp;lia) λh eb=>?_);exact Ad (Aw (Aw (u _ (I.turned (t':=s.toks) (λb o g e=>eb b o g e) G w y B C))))
 |@cons x q xs ps hq tl ih =>
   intro f J I r k u n;obtain⟨t,b,rfl,K,g⟩:=hq;have F:upd H p (.dT acc) l=some (.lst (d++.ref t::xs)):=(AD (AX f j)).trans f;have af:upd H p (.dT acc) t=some (.tup [.ref b,q.2]):=(AD (AX K j)).trans K;have U:upd H p (.dT acc) b=some (.tup (q.1.map kV)):=(AD (AX g j)).trans g;obtain⟨v,w,aa,y,B,C⟩:=id k;have G:upd H p (.dT acc) it=none:=(AD E).trans v;obtain⟨z,S,c,D,e⟩:=(show AB X.prog X.w _ s.heap l (.lst (d++.ref t::xs)) from I.hok l _ F);obtain⟨ao,ag,ru⟩:=D.get (i:=d.length) (x:=.ref t) (by simp);cases ru;refine codeAny_builtin PySem.F.entry_upd_loop ?_;rw[Around.under_plainId PySem.F.plain_upd_loop _];show wpAny _ A.in1 (pyNext (.ref it) >>= _) _ _ s;refine Ad (wpAny_pyNext_list_item r (⟨_,e,rfl,c,rfl⟩:s.heap.IsList l S.toArray) (x:=.ref t) (by simpa using ag) λh ah sb=>?_);have m:Inv X pins σ (upd H p (.dT acc)) {s with heap:=h}:=I.turned (t':=s.toks) (λb o g e=>(sb.2 b g).trans e) G w y B C;obtain⟨_,ts,rt,ot,L,ct,nt,dt⟩:=(show AB X.prog X.w _ h t (.tup [.ref b,q.2]) from m.hok t _ af);obtain⟨u1,M,rfl,r1,r2⟩:=Jw rt;cases(show u1=Value.ref b from r1);obtain⟨zd,hm,es,W,dd⟩:=HI m.hok (Aa (H:=H) (a:=p) (o:=.dT acc))
   have ai:es.length<=sizeLine:=by rw[<-Paired.length W];exact zd
   have aq:(A1 acc q.1 q.2).length<=acc.length+1:=OW acc q.1 q.2;rw[Ej] at J;refine Ad (FA (Ad (wpAny_tryCatch ?_)));show wpAny _ A.in1 (Builtin.Dict.pairItems (.ref t)) _ _ _;unfold Builtin.Dict.pairItems;refine Ad (NJ (s:={s with heap:=h}) (T:= "tuple") ⟨ot,L,ct⟩ ?_);rw[Al (by decide)];refine Ad (Gr (s:={s with heap:=h}) L dt (Aw ?_));show wpAny _ A.in1 (holding [Value.ref b,M] (dictSet p (.ref b) M)) _ _ _;refine FA (wpAny_dictSet_heap (hsz:=ai) (knd:=tupleKind (ES X.prog X.w)) (tupleKind_room_in1 Y) (Mj m.hok U) dd λh2 aj N=>?_);obtain⟨O,ak,al,P,ab,ae,g4,_,g5⟩:=aj
   have I2:Inv X pins σ (upd H p (.dT (A1 acc q.1 q.2))) {s with heap:=h2,toks:=s.toks+(tupleKind (ES X.prog X.w)).draws q.1}:=by
    have:=OX (t':=s.toks+(tupleKind (ES X.prog X.w)).draws q.1) (ob:=.dT (A1 acc q.1 q.2)) m (by rw[Aa];exact True.intro) N ⟨O,P⟩ ⟨by lia,hm,_,(W.put q.1 U r2).keeps λc ys Q=>?_,O,ak,al,P,ab,ae,g4,g5⟩;rw[V0] at this;exact this;rw[AD (NN Q Aa (λz=>nomatch z))];exact Q
   refine Aw ⟨plainId_quiet PySem.F.plain_upd_loop _,?_⟩;have:=ih (d++[.ref t]) (A1 acc q.1 q.2) _ (by rw[Gf];exact f) (by lia) I2 (by rw[AS];exact ah.at λo e=>(N.2 it E).trans e) k u (n+1);exact this
def J2:List V->Hp->VK->Prop:=λvs H Q=>∃l xs ps,vs=[.ref l]/\H l=some (.lst xs)/\xs.length<sizeLine/\Fg H xs ps/\∀p,H p=none->Q (.ref p) (upd H p (.dT (Ll [] ps)))
def dS(j:X.calm=true)(y:X.A.units+2<cLine):A6 X (.type "dict") J2:=by
 intro pins s σ H K L Q I r h;obtain⟨l,k,B,rfl,m,M,C,q⟩:=h;obtain⟨u,rfl,D⟩:=Fa r;cases D;have n:H s.heap.objs.size=none:=I.hok.fresh (AG _);refine callType_codes (Q₁:=λw p=>w=.ref s.heap.objs.size/\p={s with heap:=s.heap.push {cls:=.type "dict",data:=.dict #[]}}) PySem.F.kt_called_dict (PySem.F.kt_typeCall_dict_1 _) PySem.F.entry_dict_init (kt_code_dict_new _ ⟨rfl,rfl⟩) ?_;rintro w p ⟨rfl,rfl⟩;have E:=I.laid (a:=s.heap.objs.size) (o:=.dT []) (t':=s.toks) (h':=s.heap.push {cls:=.type "dict",data:=.dict #[]}) (λ_ _ q=>Bf _ q) (AG _) (Wz s.heap I.big)
 obtain⟨z,O,c,N,e⟩:=(show AB X.prog X.w _ s.heap l (.lst k) from I.hok l _ m)
 have f:=Bf {cls:=.type "dict",data:=.dict #[]} e;have t:Shared.TypeIs {s with heap:=s.heap.push {cls:=.type "dict",data:=.dict #[]}} (.ref s.heap.objs.size) "dict" :=⟨_,Cd _ rfl,rfl⟩;refine⟨t,PySem.F.args_dict_init_2 _ _,?_⟩;unfold Builtin.«dict.__init__»;refine Ad ?_;unfold Builtin.Dict.selfAndRest;refine Ad (wpAny_notOrdered_dict t ?_);show wpAny _ _ (pure (s.heap.objs.size,[Value.ref l])) _ _ _;refine Aw ?_;show wpAny _ _ (Builtin.Dict.updateFrom "dict.__init__" s.heap.objs.size (.ref l) [] .none) _ _ _;unfold Builtin.Dict.updateFrom;refine Ad (NJ (T:= "list") ⟨_,f,rfl⟩ ?_)
 rw[Al (by decide)];refine Ad (Xm f rfl rfl rfl (I.ok.hd j) λd tk v=>?_);rw[Al (show(none:Option Value).isNone=true from rfl)];have g:=E.kept (t':=tk) v;refine Ad (Ht (Ad (wpAny_pyIter_list (s:={s with heap:=d,toks:=tk}) ⟨_,v _ _ f,rfl,c,rfl⟩ ?_)))
 have F:=g.kept (t':=tk) (h':=d.push {cls:=.type "list_iterator",data:=.fields #[.ref l,.int 0 0]}) λb o e=>Bf _ e;obtain⟨i,G⟩:=g.fpOk (AG d.objs.size) (g.hok.fresh (AG _));have x:d.objs.size≠s.heap.objs.size:=λz=>by rw[z,Aa] at i;cases i
 refine Aw ⟨plainId_quiet PySem.F.plain_upd_loop _,dR (A:=X.A.in1) (X:=X) (pins:=pins) (σ:=σ) (l:=l) (H:=H) y (I.ok.hd j) n x k B [] [] _ C m (by rw[GF];lia) F ⟨_,Cd _ rfl,rfl,rfl⟩ ⟨(AD x).symm.trans i,G⟩ (λZ J=>⟨rfl,.ref _,_,J,rfl,q _ n⟩) 0⟩
end
open Ord
def dU{bs:List Bool}:(List.range bs.length).any (λi=>bs.getD i false)=bs.any id:=by
 rw[Bool.eq_iff_iff,GG,GG];constructor;rintro⟨i,a,h⟩;have c:=List.mem_range.mp a;rw[B1,AC c] at h;exact⟨_,EC c,h⟩;rintro⟨b,d,h⟩;obtain⟨i,a,e⟩:=Qf.mp d;refine⟨i,List.mem_range.mpr a,?_⟩;rw[B1,AC a,e];exact h
def Uy (K:Ah):List V->Hp->VK->Prop:=λvs H Q=>∃(a:Addr)(bs:List Bool),vs=[.ref a]/\Ae K H a (bs.map V.bl)/\Q (.bl (bs.any id)) H
def Xo{X:Cx}(g:X.calm=true):A6 X (.builtin "any") (Uy X.K):=by
 intro B s σ H t w Q I r h;obtain⟨a,bs,rfl,j,q⟩:=h;obtain⟨u,rfl,k⟩:=Fa r;obtain rfl:u=Value.ref a:=k;obtain⟨c,d,p,x⟩:=I.list j;have f:=d.length;rw[Ak] at f;have n:a<s.heap.objs.size:=by obtain⟨_,e,_⟩:=p.isList;exact Br e
 refine call_any_walk (wpAny_pyIter_list p.isList ?_);refine⟨s.heap.objs.size,[s.heap.objs.size,a],[s.heap.objs.size],c.toArray.size,(λi v=>c.toArray[i]?=some v),(λi h=>h.IsListIter s.heap.objs.size a i/\h.IsList a c.toArray),(λi=>bs.getD i false),rfl,Walks.list (A:=X.A.in1) (I.ok.hd g) s.heap.objs.size a (CF n) c.toArray,⟨⟨_,Cd _ rfl,rfl,rfl⟩,p.isList.push _⟩,WB d,λy tk l=>?_⟩;refine⟨.bl (bs.any id),H,I.kept λb o e=>l b o (λz=>?_) (Bf _ e),?_,q⟩;have m:b=s.heap.objs.size:=(by simpa using z);exact absurd (Br e) (by rw[m];exact Hs _);have e:c.toArray.size=bs.length:=(by rw[Ce,f]);show Value.bool _=Value.bool _;rw[e,dU]
section
variable {prog:Program} {w:World} {A:Around} {E:D'} {s:Shared}
end
section
variable {X:Cx}
end
end L2
namespace TreeM
def Uz{β:Type}{P:List β->Prop}(nil:P [])(snoc:∀l x,P l->P (l++[x]))(l:List β):P l:=by
 have:∀l:List β,P l.reverse:=λl=>by
  induction l with
  |nil=>exact nil
  |cons x l a=>rw[List.reverse_cons];exact snoc _ _ a
 rw[<-List.reverse_reverse l];exact this _
variable {α:Type} [DecidableEq α]
abbrev Ws (α:Type):=List (Nat×List α)
def nxt (p:List α) (w:List α):Option α:=if p <+: w then w[p.length]? else none
def keysAt (ws:Ws α) (p:List α):List (α×Nat):=ws.foldl (λks kw=>match nxt p kw.2 with
 |some m=>if m∈ks.map (·.1) then ks else ks++[(m,kw.1)]
 |none=>ks) []
theorem Lm(ws:Ws α)(k:Nat)(w p:List α):keysAt (ws++[(k,w)]) p=match nxt p w with
 |some m=>if m∈(keysAt ws p).map (·.1) then keysAt ws p else keysAt ws p++[(m,k)]
 |none=>keysAt ws p:=by
 unfold keysAt;rw[KY];rfl
def J3(p:List α):nxt p p=none:=by
 unfold nxt;rw[Al (List.prefix_refl p)];exact Gg (AG _)
def dV(p:List α)(m:α):nxt p (p++[m])=some m:=by
 unfold nxt;rw[Al (IR p [m]),ED (AG _),Nat.sub_self];rfl
variable {p:List α}{m:α}
def dX{q:List α}(h:p≠q):nxt p (q++[m])=nxt p q:=by
 unfold nxt;by_cases a:p <+: q;rw[Al a,Al (a.trans (IR q [m]))]
 have l:p.length<q.length:=by
  rcases Nat.lt_or_ge p.length q.length with x|x;exact x;exact absurd (a.eq_of_length_le x) h
 exact Ei l;rw[An a];by_cases b:p <+: q++[m];rw[Al b];rcases List.prefix_concat_iff.mp b with e|e;rw[e];exact Gg (AG _);exact absurd e a;rw[An b]
def dY(ws:Ws α)(k:Nat)(p:List α):keysAt (ws++[(k,[])]) p=keysAt ws p:=by
 rw[Lm]
 have:nxt p ([]:List α)=none:=by
  unfold nxt;by_cases a:p <+: [];rw[Al a];rfl;rw[An a]
 rw[this]
variable {ws:Ws α}
def UA{k:Nat}{q:List α}(h:p≠q):keysAt (ws++[(k,q++[m])]) p=keysAt (ws++[(k,q)]) p:=by
 rw[Lm,Lm,dX h]
def Xp(ws:Ws α)(k:Nat)(q:List α)(m:α):keysAt (ws++[(k,q++[m])]) q =
 if m∈(keysAt (ws++[(k,q)]) q).map (·.1) then keysAt (ws++[(k,q)]) q else keysAt (ws++[(k,q)]) q++[(m,k)]:=by
 rw[Lm,Lm,dV,J3]
def F6{w:List α}:nxt p w=some m↔p++[m] <+: w:=by
 unfold nxt;by_cases a:p <+: w;rw[Al a];obtain⟨t,rfl⟩:=a;rw[ED (AG _),Nat.sub_self]
 cases t with
 |nil =>
   refine⟨λe=>(nomatch e),λe=>?_⟩;have:=e.length_le;rw[E7,AS] at this;exact absurd this (by show ¬p.length+1<=p.length;lia)
 |cons x t =>
   refine⟨λe=>?_,λe=>?_⟩;cases e;exact⟨t,by simp⟩;obtain⟨u,e⟩:=e;rw[Gf] at e;have:=List.append_cancel_left e;simp at this;rw[this.1];rfl
 rw[An a];exact⟨λe=>(nomatch e),λe=>absurd ((IR p [m]).trans e) a⟩
def keysAt_mem:m∈(keysAt ws p).map (·.1)↔∃a∈ws,p++[m] <+: a.2:=by
 induction ws using Uz with
 |nil=>exact⟨λh=>(nomatch h),λ⟨_,h,_⟩=>(nomatch h)⟩
 |snoc ws a c =>
   obtain⟨k,w⟩:=a;rw[Lm]
   have both:(∃a∈ws++[(k,w)],p++[m] <+: a.2)↔(∃a∈ws,p++[m] <+: a.2)\/p++[m] <+: w:=by
    constructor;rintro⟨x,b,e⟩;rcases BI.mp b with y|y;exact .inl ⟨x,y,e⟩;rw[AW.mp y] at e;exact .inr e;rintro(⟨x,b,e⟩|e);exact⟨x,Eu _ b,e⟩;exact⟨_,Du _ (AW.mpr rfl),e⟩
   rw[both,<-c,<-F6]
   cases b:nxt p w with
   |none=>exact⟨.inl,λz=>z.elim id λe=>(nomatch e)⟩
   |some x =>
     dsimp only;by_cases d:x∈(keysAt ws p).map (·.1);rw[Al d];exact⟨.inl,λz=>z.elim id λe=>by cases e;exact d⟩;rw[An d,Bk,BI];refine or_congr Iff.rfl ?_;simp[eq_comm]
def Xq{k:Nat}(l:(ws.map (·.1)).Pairwise (· < ·))(h:(m,k)∈keysAt ws p):(∃w,(k,w)∈ws/\p++[m] <+: w)/\∀j w,(j,w)∈ws->p++[m] <+: w->k<=j:=by
 induction ws using Uz with
 |nil=>cases h
 |snoc ws o q =>
   obtain⟨n,v⟩:=o;rw[Bk,List.pairwise_append] at l;obtain⟨r,-,s⟩:=l;have z:∀j w,(j,w)∈ws->j<n:=λj w e=>s j (AZ.mpr ⟨_,e,rfl⟩) n (AW.mpr rfl);rw[Lm] at h
   have i:(m,k)∈keysAt ws p->(∃w,(k,w)∈ws++[(n,v)]/\p++[m] <+: w)/\∀j w,(j,w)∈ws++[(n,v)]->p++[m] <+: w->k<=j:=λt=>by
    obtain⟨⟨w,a,b⟩,c⟩:=q r t;refine⟨⟨w,Eu _ a,b⟩,λj u e f=>?_⟩;rcases BI.mp e with y|y;exact c j u y f;cases AW.mp y;exact CI (z _ _ a)
   cases g:nxt p v with
   |none=>rw[g] at h;exact i h
   |some x =>
     rw[g] at h;dsimp only at h;by_cases d:x∈(keysAt ws p).map (·.1);rw[Al d] at h;exact i h;rw[An d] at h;rcases BI.mp h with y|y;exact i y;cases AW.mp y;refine⟨⟨v,Du _ (AW.mpr rfl),F6.mp g⟩,λj u e f=>?_⟩;rcases BI.mp e with y|y;exact absurd (keysAt_mem.mpr ⟨_,y,f⟩) d;cases AW.mp y;exact AG _
section
variable (bet:α->α->Bool)
def AM:List α->List α->Bool
 |x::s,m::t=>if x=m then AM s t else bet x m
 |_,_=>false
def gat (ws:Ws α):List α->List α->List Nat
 |_,[]=>[]
 |a,m::t=>((keysAt ws a).filter λxk=>bet xk.1 m).map (·.2)++gat ws (a++[m]) t
end
variable {bet:α->α->Bool}
def MI{a b:List α}{x:α}{t:List α}(h:a++[x] <+: b)(c:x≠m):AM bet b (a++m::t)=bet x m:=by
 obtain⟨u,rfl⟩:=h
 induction a with
 |nil=>show(if x=m then _ else bet x m)=_;rw[An c]
 |cons y a d=>show(if y=y then _ else _)=_;rw[Al rfl];exact d
theorem Xr{ws:Ws α}(g:(ws.map (·.1)).Pairwise (· < ·))(irr:∀m,bet m m=false):∀(b a:List α)(k:Nat),k∈gat bet ws a b->∃w,(k,w)∈ws/\AM bet w (a++b)=true
 |[],_,_,h=>nomatch h
 |m::t,a,k,h=>by
   rcases BI.mp h with y|y;obtain⟨⟨x,j⟩,z,rfl⟩:=AZ.mp y;obtain⟨i,d⟩:=KW.mp z;obtain⟨⟨w,f,c⟩,-⟩:=Xq g i;refine⟨w,f,?_⟩;rw[MI c (λe=>?_)];exact d;rw[e,irr] at d;cases d;obtain⟨w,f,c⟩:=Xr g irr t (a++[m]) k y;refine⟨w,f,?_⟩;rw[Gf] at c;exact c
theorem Xs:∀{b w:List α},AM bet w b=true->∃a x m t,b=a++m::t/\a++[x] <+: w/\x≠m/\bet x m=true
 |m::t,x::s,h=>by
   by_cases e:x=m;subst e;have h':AM bet s t=true:=(by simpa [AM] using h);obtain⟨a,y,n,u,rfl,c,d,f⟩:=Xs h';exact⟨x::a,y,n,u,rfl,List.cons_prefix_cons.mpr ⟨rfl,c⟩,d,f⟩;have h':bet x m=true:=(by simpa [AM,e] using h);exact⟨[],x,m,t,rfl,List.cons_prefix_cons.mpr ⟨rfl,List.nil_prefix⟩,e,h'⟩
 |[],[],h=>nomatch h
 |[],_::_,h=>nomatch h
 |_::_,[],h=>nomatch h
theorem Xu{ws:Ws α}:∀{a b c:List α}{m x:α}{t:List α}{k:Nat},(x,k)∈keysAt ws (c++a)->bet x m=true->b=a++m::t->k∈gat bet ws c b
 |[],b,c,m,x,t,k,d,e,f=>by
   subst f;rw[E7] at d;exact Eu _ (AZ.mpr ⟨_,KW.mpr ⟨d,e⟩,rfl⟩)
 |y::a,b,c,m,x,t,k,d,e,f=>by
   subst f;refine Du _ (Xu (a:=a) (m:=m) (x:=x) (t:=t) ?_ e rfl);rw[Gf];exact d
def dZ(i:(ws.map (·.1)).Pairwise (· < ·)){b w:List α}{j:Nat}(h:(j,w)∈ws)(l:AM bet w b=true):∃k∈gat bet ws [] b,k<=j:=by
 obtain⟨a,x,m,t,e,d,-,n⟩:=Xs l;obtain⟨⟨y,k⟩,f,g⟩:=AZ.mp (keysAt_mem.mpr ⟨_,h,d⟩);dsimp only at g;subst g;exact⟨k,Xu (a:=a) (c:=[]) f n e,(Xq i f).2 j w h d⟩
end TreeM
namespace L2
open PySem PySem.Spec PyProof.Rows Ord TreeM
variable {A:Around}
def MJ{k:Nat}(a:B2 k A):A.units+2<cLine:=Nat.lt_of_le_of_lt (Nat.add_le_add_left (by decide:2<=64) _) a.units
abbrev Gk (m:Aq):List AN:=[.inl m.1,.inr m.2.1,.inl m.2.2]
def d3{a b:Aq}(h:Gk a=Gk b):a=b:=by
 obtain⟨c,d,e⟩:=a;obtain⟨f,g,i⟩:=b;simp only[Gk,List.cons.injEq,Sum.inl.injEq,Sum.inr.injEq,and_true] at h;rw[h.1,h.2.1,h.2.2]
def DY (ws:Ws Aq) (c:List Aq->Aq->Addr) (p:List Aq):List (List AN×V):=(keysAt ws p).map λmk=>(Gk mk.1,V.ref (c p mk.1))
theorem Xv{c:Aq->Addr}{m:Aq}:∀{ks:List (Aq×Nat)},AJ (ks.map λmk=>(Gk mk.1,V.ref (c mk.1))) (Gk m)=if m∈ks.map (·.1) then some (.ref (c m)) else none
 |[]=>rfl
 | (x,k) :: ks=>by
   rw[Eh];by_cases h:x=m;subst h;rw[He rfl,Al (by simp)];rw[Hf (λz=>h (d3 z)),Xv]
   have:(m∈List.map (·.1) ((x,k)::ks))↔m∈ks.map (·.1):=by
    rw[Eh,B5];exact⟨λz=>z.elim (λe=>absurd e.symm h) id,.inr⟩
   by_cases a:m∈ks.map (·.1);rw[Al a,Al (this.mpr a)];rw[An a,An (λz=>a (this.mp z))]
variable {ws:Ws Aq}{c:List Aq->Aq->Addr}{p:List Aq}{m:Aq}
def Pj:AJ (DY ws c p) (Gk m)=if m∈(keysAt ws p).map (·.1) then some (.ref (c p m)) else none:=Xv (c:=c p)
def Eo (ws:Ws Aq) (p:List Aq):Prop:=p=[]\/∃kw∈ws,p <+: kw.2
def Xw(h:¬Eo ws p):keysAt ws p=[]:=by
 cases e:keysAt ws p with
 |nil=>rfl
 |cons x l =>
   exfalso;obtain⟨a,b,c⟩:=keysAt_mem.mp (show x.1∈(keysAt ws p).map (·.1) by rw[e];simp);exact h (.inr ⟨a,b,(IR p _).trans c⟩)
def FJ:Eo ws (p++[m])↔m∈(keysAt ws p).map (·.1):=by
 rw[keysAt_mem];exact⟨λh=>h.elim (λe=>absurd e (by simp)) id,.inr⟩
structure Bi (φ:Hp->Addr->List (List AN×V)->Prop) (H:Hp) (ws:Ws Aq) (d:List Aq->Addr) (c:List Aq->Aq->Addr):Prop where
 dct:∀p,Eo ws p->φ H (d p) (DY ws c p)
 tup:∀p m k,(m,k)∈keysAt ws p->H (c p m)=some (.tup [.int (k:Int),.ref (d (p++[m]))])
 inj:∀p q,Eo ws p->Eo ws q->d p=d q->p=q
abbrev dW:Hp->Addr->List (List AN×V)->Prop:=λH a kvs=>H a=some (.dT kvs)
abbrev dF:Hp->Addr->List (List AN×V)->Prop:=λH a kvs=>∃o,H a=some (.frz o (.dT kvs))
variable {H H':Hp}{d:List Aq->Addr}
def Bi.same(e:Ac H H')(h:Bi dF H ws d c):Bi dF H' ws d c:=
 ⟨λp a=>let ⟨o,x⟩:=h.dct p a;⟨o,e _ _ x⟩,λp m k b=>e _ _ (h.tup p m k b),h.inj⟩
def Bi.sameW(e:Ac H H')(h:Bi dW H ws d c):Bi dW H' ws d c:=
 ⟨λp a=>e _ _ (h.dct p a),λp m k b=>e _ _ (h.tup p m k b),h.inj⟩
variable {n:Nat}{g:List Aq}
def QS(d:m∈(keysAt (ws++[(n,g)]) g).map (·.1)):Eo (ws++[(n,g++[m])]) p↔Eo (ws++[(n,g)]) p:=by
 constructor;rintro(h|⟨b,c,a⟩);exact .inl h;rcases BI.mp c with y|y;exact .inr ⟨b,Eu _ y,a⟩;rw[AW.mp y] at a;rcases List.prefix_concat_iff.mp a with e|e;rw[e];exact FJ.mpr d;exact .inr ⟨_,Du _ (AW.mpr rfl),e⟩;rintro(h|⟨b,c,a⟩);exact .inl h;rcases BI.mp c with y|y;exact .inr ⟨b,Eu _ y,a⟩;rw[AW.mp y] at a;exact .inr ⟨_,Du _ (AW.mpr rfl),a.trans (IR g [m])⟩
def Bi.stay{φ:Hp->Addr->List (List AN×V)->Prop}(h:Bi φ H (ws++[(n,g)]) d c)(a:m∈(keysAt (ws++[(n,g)]) g).map (·.1)):Bi φ H (ws++[(n,g++[m])]) d c:=by
 have f:∀p,keysAt (ws++[(n,g++[m])]) p=keysAt (ws++[(n,g)]) p:=λp=>by
  by_cases e:p=g;subst e;rw[Xp,Al a];exact UA e
 refine⟨λp b=>?_,λp x k i=>h.tup p x k (by rw[<-f];exact i),λp q b j=>h.inj p q ((QS a).mp b) ((QS a).mp j)⟩;have:=h.dct p ((QS a).mp b);unfold DY at this ⊢;rw[f];exact this
variable {v:V}
def d4{a:List (List AN×V)}{k:List AN}(h:AJ a k=none):A1 a k v=a++[(k,v)]:=by
 unfold A1;rw[An (by rw[OU,h];simp)]
variable {e T:Addr}
def Bi.grow{u:Hp}(h:Bi dW H (ws++[(n,g)]) d c)(j:m∉(keysAt (ws++[(n,g)]) g).map (·.1))
 (G:H e=none) (I:∀p,Eo (ws++[(n,g)]) p->u (d p)=none) (U:u e=none) (s:Ac H H') (J:H' e=some (.dT [])) (C:H' T=some (.tup [.int (n:Int),.ref e])) :
 ∃d' K,Bi dW (upd H' (d g) (.dT (A1 (DY (ws++[(n,g)]) c g) (Gk m) (.ref T)))) (ws++[(n,g++[m])]) d' K/\d' (g++[m])=e/\(∀p,Eo (ws++[(n,g++[m])]) p->u (d' p)=none)/\d' []=d []:=by
 have r:Eo (ws++[(n,g)]) g:=.inr ⟨_,Du _ (AW.mpr rfl),List.prefix_refl g⟩;have L:AJ (DY (ws++[(n,g)]) c g) (Gk m)=none:=(by rw[Pj,An j])
 have w:∀{p},Eo (ws++[(n,g++[m])]) p->p=g++[m]\/p≠g++[m]/\Eo (ws++[(n,g)]) p:=λ{p}a=>by
  by_cases e:p=g++[m];exact .inl e;refine .inr ⟨e,?_⟩;rcases a with z|⟨M,N,A⟩;exact .inl z;rcases BI.mp N with y|y;exact .inr ⟨M,Eu _ y,A⟩;rw[AW.mp y] at A;rcases List.prefix_concat_iff.mp A with z|z;exact absurd z e;exact .inr ⟨_,Du _ (AW.mpr rfl),z⟩
 have B:∀p,Eo (ws++[(n,g)]) p->d p≠e:=λp a z=>by have this:H (d p)=some _:=h.dct p a;rw[z,G] at this;cases this
 have W:T≠d g:=λz=>by
  have:=s _ _ (h.dct g r);rw[<-z,C] at this;cases this
 have O:¬Eo (ws++[(n,g)]) (g++[m]):=λz=>j (FJ.mp z)
 have P:keysAt (ws++[(n,g++[m])]) (g++[m])=[]:=by
  rw[UA (by simp)];exact Xw O
 have D:∀p,p≠g->keysAt (ws++[(n,g++[m])]) p=keysAt (ws++[(n,g)]) p:=λp a=>UA a;have F:keysAt (ws++[(n,g++[m])]) g=keysAt (ws++[(n,g)]) g++[(m,n)]:=(by rw[Xp,An j])
 refine⟨λp=>if p=g++[m] then e else d p,λp x=>if p=g/\x=m then T else c p x,⟨λp a=>?_,λp x k o=>?_,λp q a Q X=>?_⟩,Al rfl,λp a=>?_,An (by simp)⟩
 show upd _ _ _ (if p=g++[m] then e else d p)=some _
 rcases w a with z|⟨z,f⟩;subst z;rw[Al rfl,AD (Ne.symm (B g r)),J];unfold DY;rw[P];rfl;rw[An z];by_cases b:p=g;subst b;rw[Aa,d4 L];unfold DY;rw[F,Bk]
 have:∀l:List (Aq×Nat),m∉l.map (·.1)->(l.map λmk=>(Gk mk.1,V.ref (c p mk.1)))=l.map λmk=>(Gk mk.1,V.ref (if p=p/\mk.1=m then T else c p mk.1)):=λl R=>List.map_congr_left λmk Y=>by
  rw[An (λz=>R (AZ.mpr ⟨mk,Y,z.2⟩))]
 rw[this _ j,Eh,Om];dsimp only;rw[Al ⟨rfl,rfl⟩];rw[AD (λS=>b (h.inj p g f r S))];have:=s _ _ (h.dct p f);unfold DY at this ⊢;rw[D p b,this]
 congr 2
 exact List.map_congr_left λmk _=>by
  show _=(Gk mk.1,V.ref (if p=g/\mk.1=m then T else c p mk.1));rw[An (λz=>b z.1)]
 show upd _ _ _ (if p=g/\x=m then T else c p x)=some (.tup [_,.ref (if p++[x]=g++[m] then e else d (p++[x]))])
 by_cases b:p=g;subst b;rw[F] at o;by_cases v:x=m;subst v;rw[Al ⟨rfl,rfl⟩,Al rfl,AD W,C];rcases BI.mp o with y|y;exact absurd (AZ.mpr ⟨_,y,rfl⟩) j;cases AW.mp y;rfl;rcases BI.mp o with y|y;rw[An (λz=>v z.2),An (λz=>v (by simpa using z))];have t:=h.tup p x k y;rw[AD (λz=>by have this:H (d p)=some _:=h.dct p r;rw[<-z,t] at this;cases this)];exact s _ _ t;cases AW.mp y;exact absurd rfl v;rw[D p b] at o
 rw[An (λz=>b z.1),An (show ¬(p++[x]=g++[m]) from λz=>b (List.append_inj_left' z rfl))];have t:=h.tup p x k o;rw[AD (λz=>by have this:H (d g)=some _:=h.dct g r;rw[<-z,t] at this;cases this)];exact s _ _ t
 have i:(if p=g++[m] then e else d p)=(if q=g++[m] then e else d q):=X
 rcases w a with z|⟨z,f⟩<;>rcases w Q with y|⟨y,E⟩;rw[z,y];rw[Al z,An y] at i;exact absurd i.symm (B q E);rw[An z,Al y] at i;exact absurd i (B p f);rw[An z,An y] at i;exact h.inj p q f E i
 show u (if p=g++[m] then e else d p)=none
 rcases w a with z|⟨z,f⟩;rw[Al z];exact U;rw[An z];exact I p f
def Xx(ws:Ws Aq)(n:Nat)(p:List Aq):keysAt (ws++[(n,[])]) p=keysAt ws p:=dY ws n p
def Bi.begin{φ:Hp->Addr->List (List AN×V)->Prop}(h:Bi φ H ws d c):Bi φ H (ws++[(n,[])]) d c:=by
 have i:∀{p},Eo (ws++[(n,[])]) p->Eo ws p:=λ{p}a=>by
  rcases a with z|⟨e,f,b⟩;exact .inl z;rcases BI.mp f with y|y;exact .inr ⟨e,y,b⟩;rw[AW.mp y] at b;exact .inl (List.prefix_nil.mp b)
 refine⟨λp a=>?_,λp m k g=>h.tup p m k (by rw[<-Xx];exact g),λp q a j=>h.inj p q (i a) (i j)⟩;have:=h.dct p (i a);unfold DY at this ⊢;rw[Xx];exact this
def Bi.frz{H Y a:Hp}{ws:Ws Aq}{d:List Aq->Addr}{c:List Aq->Aq->Addr}(h:Bi dW Y ws d c)(i:∀p,Eo ws p->H (d p)=none)(f:QQ H Y a)(j:∀b e,H b=none->Y b=some (.dT e)->∃o,a b=some (.frz o (.dT e))):Bi dF a ws d c:=by
 refine⟨λp g=>j _ _ (i p g) (h.dct p g),λp m k l=>?_,h.inj⟩;have t:=h.tup p m k l;rcases f (c p m) with z|⟨_,e,o,z,_⟩;rw[z];exact t;rw[t] at z;cases z
variable {Y:Hp}
def QQ.same{a:Hp}(s:Ac H Y)(f:QQ H Y a):Ac H a:=λb o e=>by
 rcases f b with z|⟨z,_⟩;rw[z];exact s _ _ e;rw[e] at z;cases z
def UB(ws:Ws Aq)(p:List Aq):(keysAt ws p).length<=ws.length:=by
 induction ws using Uz with
 |nil=>exact AG _
 |snoc ws a b =>
   obtain⟨k,w⟩:=a;rw[Lm,AS];split;split;lia;rw[AS];simp;exact b;lia
abbrev FK (p:Str×Str):List AN:=[.inr p.1,.inr p.2]
def Fg.tups(e:∀b xs,H b=some (.tup xs)->H' b=some (.tup xs)):∀{xs:List V}{ps:List (List AN×V)},Fg H xs ps->Fg H' xs ps:=λh =>
 Paired.mapP h λ_ _⟨t,b,a,c,d⟩=>⟨t,b,a,e _ _ c,e _ _ d⟩
theorem Xy{k:List AN}:∀{ps acc:List (List AN×V)},(AJ (Ll acc ps) k).isSome=true↔(AJ acc k).isSome=true\/k∈ps.map (·.1)
 |[],acc=>by simp[Ll]
 |p::ps,acc=>by
   show(AJ (Ll (A1 acc p.1 p.2) ps) k).isSome=true↔_;rw[Xy,OV,Eh,B5];by_cases h:k=p.1;rw[Al h];simp[h];rw[An h];simp[h]
def Ib (H:Hp) (p:Addr) (ord:A'):Prop:=∃kvs,H p=some (.dT kvs)/\∀a b,(AJ kvs (FK (a,b))).isSome=dec ((a,b)∈ord)
variable {ord:A'}
def Ib.same{p:Addr}(e:Ac H H')(h:Ib H p ord):Ib H' p ord:=let ⟨k,a,b⟩:=h;⟨k,e _ _ a,b⟩
def d5(a b:Str):(AJ (Ll [] (ord.map λp=>(FK p,V.bl true))) (FK (a,b))).isSome=dec ((a,b)∈ord):=by
 have:(AJ (Ll [] (ord.map λp=>(FK p,V.bl true))) (FK (a,b))).isSome=true ↔ (a,b)∈ord:=by
  rw[Xy];constructor;rintro(h|h);simp[AJ] at h;rw[DR] at h;obtain⟨q,c,e⟩:=AZ.mp h;obtain⟨d,f⟩:=q;simp at e;rw[<-e.1,<-e.2];exact c;intro h;refine .inr ?_;rw[DR];exact AZ.mpr ⟨_,h,rfl⟩
 by_cases h:(a,b)∈ord;rw[Ey h];exact this.mpr h;rw[FS h]
 cases e:(AJ (Ll [] (ord.map λp=>(FK p,V.bl true))) (FK (a,b))).isSome with
 |false=>rfl
 |true=>exact absurd (this.mp e) h
def Be (l:List (List Aq)):Ws Aq:=l.zipIdx.map λp=>(p.2,p.1)
def d6(l:List (List Aq))(w:List Aq):Be (l++[w])=Be l++[(l.length,w)]:=by
 unfold Be;rw[List.zipIdx_append,Bk]
 simp
variable {l:List (List Aq)}{i:Nat}{w:List Aq}
def d7(h:l[i]?=some w):Be (l.take (i+1))=Be (l.take i)++[(i,w)]:=by
 have a:=(AY.mp h).1;rw[D0,h];show Be (l.take i++[w])=_;rw[d6,FP,Nat.min_eq_left (CI a)]
def Xz(l:List (List Aq)):((Be l).map (·.1)).Pairwise (· < ·):=by
 have:(Be l).map (·.1)=List.range l.length:=by
  unfold Be;rw[DR,List.range_eq_range'];exact List.zipIdx_map_snd 0 l
 rw[this];exact List.pairwise_lt_range
def DB{k:Nat}:(k,w)∈Be l↔l[k]?=some w:=by
 unfold Be;rw[AZ];constructor;rintro⟨⟨a,b⟩,h,e⟩;cases e;exact List.mem_zipIdx_iff_getElem?.mp h;intro h;exact⟨(w,k),List.mem_zipIdx_iff_getElem?.mpr h,rfl⟩
noncomputable def Ch (ss:List Bh) (ord:A') (x m:Aq):Bool:=dec ((F5 ss x,F5 ss m)∈ord)
variable {ss:List Bh}
def d8(h:∀x,(x,x)∉ord)(m:Aq):Ch ss ord m m=false:=FS (h _)
theorem UC(ss:List Bh)(ord:A'):∀(a b:List Aq),AM (Ch ss ord) a b=B7 ss ord a b
 |x::s,m::t=>by
   show(if x=m then _ else Ch ss ord x m)=_
   by_cases e:x=m;subst e;rw[Al rfl,Pe];exact UC ss ord s t;rw[An e,Li ss ord s t e];rfl
 |[],m=>by rw[Lj ss ord (.inl rfl)];rfl
 |_::_,[]=>by rw[Lj ss ord (.inr rfl)];rfl
def J4(h:∀x,(x,x)∉ord):gat (Ch ss ord) (Be l) [] w=[]↔∀v∈l,B7 ss ord v w=false:=by
 constructor;intro e v b;obtain⟨k,d⟩:=List.mem_iff_getElem?.mp b
 cases a:B7 ss ord v w with
 |false=>rfl
 |true =>
   obtain⟨j,c,_⟩:=dZ (Xz l) (DB.mpr d) (by rw[UC];exact a);rw[e] at c;cases c
 intro f
 cases e:gat (Ch ss ord) (Be l) [] w with
 |nil=>rfl
 |cons k g =>
   exfalso;obtain⟨v,b,a⟩:=Xr (Xz l) (d8 h) w [] k (by rw[e];simp);rw[List.nil_append,UC] at a;rw[f v (List.mem_iff_getElem?.mpr ⟨k,DB.mp b⟩)] at a;cases a
noncomputable def CH (ss:List Bh) (ord:A') (all l:List (List Aq)):List (List Aq):=l.filter λw=>!all.any λv=>B7 ss ord v w
def XA{all:List (List Aq)}(h:l[i]?=some w):CH ss ord all (l.take (i+1))=if(all.any λv=>B7 ss ord v w)=true then CH ss ord all (l.take i) else CH ss ord all (l.take i)++[w]:=by
 unfold CH;rw[D0,h,KX];show _++List.filter _ [w]=_;rw[Jn]
 cases all.any λv=>B7 ss ord v w with
 |true=>rw[Al rfl];simp
 |false=>simp
def d9{all:List (List Aq)}:(CH ss ord all l).length<=l.length:=Oo _ _
def CW{ks:List Nat}:MH (ks.map λk:Nat=>(k:Int))=.non↔ks=[]:=by
 cases ks with
 |nil=>exact⟨λ_=>rfl,λ_=>rfl⟩
 |cons k ks=>exact⟨λh=>(nomatch h),λh=>(nomatch h)⟩
def QU(h:∀x,(x,x)∉ord):gat (Ch ss ord) (Be l) [] w=[]↔(l.any λv=>B7 ss ord v w)=false:=by
 rw[J4 h,List.any_eq_false];exact⟨λz v a=>by rw[z v a];simp,λz v a=>by have:=z v a;simpa using this⟩
section
variable {prog:Program} {w:World} {A:Around} {E:D'} {s:Shared}
theorem QV{j p:Addr}{k:Nat}{vs:Array Value}{y:Value}{Q:D'}(c:s.heap.IsTupleIter j p k)(d:s.heap.IsTuple p vs)(e:vs[k]?=some y)
 (q:∀g,g.IsTupleIter j p (k+1)->Heap.SameBut j s.heap g->Q y {s with heap:=g}):wpAny (model prog w) A (Builtin.SmallTypes.nextOf (.ref j)) Q E s:=by
 obtain⟨l,b,f,a⟩:=id c;obtain⟨m,h,_,_,i⟩:=d;unfold Builtin.SmallTypes.nextOf;refine Ad (wpAny_callSpecial?_slot (name:=Str.ofString "__next__") c.typeIs F.slot_tuple_iterator_next (wpAny_call_entry F.slot_tuple_iterator_next c.typeIs F.entry_tuple_iterator_next ?_ (F.args_tuple_iterator_next_1 _)))
 show wpAny _ _ (field (.ref j) 0 >>= _) _ _ s;refine Ad (wpAny_field b a (x:=.ref p) rfl ?_);show wpAny _ _ (if(Value.ref p==Value.none)=true then _ else _) _ _ s;rw[An (show ¬((Value.ref p==Value.none)=true) from Ct)];show wpAny _ _ (field (.ref j) 1 >>= _) _ _ s;refine Ad (wpAny_field b a (x:=.int k 0) rfl ?_);show wpAny _ _ (seqItems? (.ref p) >>= _) _ _ s;refine Ad (Gr h i ?_);simp only[Bo,e];refine Ad (wpAny_setField b a (by simp) (Aw ⟨y,rfl,Aw (q _ ⟨_,Heap.get?_update_self _ b (Obj.isFreed_of_fields (Obj.data_mapFields a _)),(Obj.cls_mapFields ..).trans f,by rw[Obj.data_mapFields a];simp[rawInt]⟩ (Heap.SameBut.update ..))⟩))
theorem UD{j p:Addr}{k:Nat}{vs:Array Value}{Q:D'}(e:A.handled=none)(b:s.heap.IsTupleIter j p k)(f:s.heap.IsTuple p vs)(h:vs[k]?=none)
 (q:∀g x,Heap.ExtBut j s.heap g->(∃o,g.get? x=some o/\o.cls=.type "StopIteration")->E (.ref x) {s with heap:=g}):wpAny (model prog w) A (Builtin.SmallTypes.nextOf (.ref j)) Q E s:=by
 obtain⟨n,c,r,d⟩:=id b;obtain⟨t,i,_,_,l⟩:=f;unfold Builtin.SmallTypes.nextOf;refine Ad (wpAny_callSpecial?_slot (name:=Str.ofString "__next__") b.typeIs F.slot_tuple_iterator_next (wpAny_call_entry F.slot_tuple_iterator_next b.typeIs F.entry_tuple_iterator_next ?_ (F.args_tuple_iterator_next_1 _)))
 show wpAny _ _ (field (.ref j) 0 >>= _) _ _ s;refine Ad (wpAny_field c d (x:=.ref p) rfl ?_);show wpAny _ _ (if(Value.ref p==Value.none)=true then _ else _) _ _ s;rw[An (show ¬((Value.ref p==Value.none)=true) from Ct)];show wpAny _ _ (field (.ref j) 1 >>= _) _ _ s;refine Ad (wpAny_field c d (x:=.int k 0) rfl ?_);show wpAny _ _ (seqItems? (.ref p) >>= _) _ _ s;refine Ad (Gr i l ?_);simp only[Bo,h];refine Ad (Ht (Ad (wpAny_setField c d (by simp) ?_)))
 show wpAny _ _ (newExc (.type "StopIteration") [] >>= _) _ _ _
 refine Ad ?_;simp only[newExc,newTuple];refine Ad (wpAny_newObj_type (Ad (m:=firstArgMember _ _) (wpAny_of_eq (a:=Value.none) (by first|rfl|(simp only[firstArgMember];rfl)) (wpAny_newObj_type ?_ (by size_fits)))) (by size_fits));simp only[raiseNew];refine Ad (wpAny_handled ?_)
 first|rw[show A.in1.handled=none from e]|rw[e]
 exact Ad (Aw (wpAny_throw (q _ _ (((Heap.SameBut.update ..).extBut.push _).push _) ⟨_,Cd _ rfl,rfl⟩)))
end
variable {prog:Program}
def Ic{w:World}(c:A.handled=none)(j p:Addr)(d:p≠j)(vs:Array Value):Draws prog w A j [j,p] vs.size (λi v=>vs[i]?=some v) (λi h=>h.IsTupleIter j p i/\h.IsTuple p vs) where
 live _ _ st:=let ⟨o,e,_⟩:=st.1;⟨o,e⟩
 frame _ _ _ st k:=by
  obtain⟨⟨o,f,l⟩,u,m,n⟩:=st;exact⟨⟨o,k j (by simp) _ f,l⟩,u,k p (by simp) _ m,n⟩
 item i s Q E a st q:=QV st.1 st.2 (y:=vs[i]) (by simp[a]) λg r b=>q _ g s.toks (by simp[a]) ⟨r,st.2.extBut b.extBut d⟩ b
 done s Q E st q:=UD c st.1 st.2 (by simp) q
set_option tactic.hygienic true in
def eF(p:Addr)(vs:Array Value)(n:Nat)(dct:Option Addr)(e:Array (Option Value)) :
 Meets (Builtin.«enumerate.__new__» ⟨[.type "enumerate",.ref p],[]⟩) (λ_ R s=>s.heap.get? p=some {cls:=.type "tuple",dict:=dct,data:=.seq vs n,slots:=e}/\R (.ok (.ret (.ref (s.heap.push {cls:=.type "tuple_iterator",data:=.fields #[.ref p,.int 0 0]}).objs.size))) {s with heap:=(s.heap.push {cls:=.type "tuple_iterator",data:=.fields #[.ref p,.int 0 0]}).push {cls:=.type "enumerate",data:=.fields #[.none,.bool false,.ref s.heap.objs.size,rawInt 0,.none,.none]}}):=
 .of_wp λprog w A R s h=>by
  obtain⟨f,g,d,tk,i⟩:=s;obtain⟨a,h⟩:=h;have k:=sub_enumerate;have b:Heap.IsTuple (Shared.heap ⟨f,g,d,tk,i⟩) p vs:=⟨_,a,rfl,n,rfl⟩
  wp_walk using AutoSeq1.wpAny_loadPart' a
  refine wpAny_stack_any λj=>Aw ?_;split;rename_i c _ _ _ _ _;cases(c==Value.type "enumerate")<;>(wp_walk using AutoSeq1.wpAny_loadPart' a,wpAny_pyIter_tuple b;exact⟨_,rfl,h⟩)
  wp_walk using AutoSeq1.wpAny_loadPart' a,wpAny_pyIter_tuple b
  exact⟨_,rfl,h⟩
variable {E Q:D'}{s:Shared}
theorem eH{w:World}{p:Addr}{vs:Array Value}(i:s.heap.IsTuple p vs)
 (h:∀g,IsEnum g (s.heap.objs.size+1) s.heap.objs.size 0 .none->g.IsTupleIter s.heap.objs.size p 0->g.objs.size=s.heap.objs.size+2->(∀b o,s.heap.get? b=some o->g.get? b=some o)->Q (.ref (s.heap.objs.size+1)) {s with heap:=g}) :
 wpAny (model prog w) A (call (.type "enumerate") [.ref p]) Q E s:=by
 obtain⟨⟨c,dct,dt,j⟩,k,a,n,hd⟩:=i
 replace a:c=.type "tuple" :=a
 replace hd:dt=.seq vs n:=hd
 subst a hd;refine callType_new F.called_enumerate (by decide) (F.typeCall_enumerate_1 _) (F.newCall_enumerate_1 _) (λl=>F.args_object_init_2 l _) F.entry_enumerate_new (eF p vs n dct j) ⟨k,?_⟩;have d:(s.heap.push {cls:=.type "tuple_iterator",data:=.fields #[.ref p,.int 0 0]}).objs.size=s.heap.objs.size+1:=Heap.size_push ..;show _/\_;rw[d]
 have f:IsEnum ((s.heap.push {cls:=.type "tuple_iterator",data:=.fields #[.ref p,.int 0 0]}).push {cls:=.type "enumerate",data:=.fields #[.none,.bool false,.ref s.heap.objs.size,rawInt 0,.none,.none]}) (s.heap.objs.size+1) s.heap.objs.size 0 .none:=by
  have e:=Cd (s.heap.push {cls:=.type "tuple_iterator",data:=.fields #[.ref p,.int 0 0]}) (o:={cls:=.type "enumerate",data:=.fields #[.none,.bool false,.ref s.heap.objs.size,rawInt 0,.none,.none]}) rfl
  rwa [d] at e
 exact⟨⟨_,f,rfl⟩,h _ f ⟨_,Bf _ (Cd _ rfl),rfl,rfl⟩ (by rw[Heap.size_push,d]) λb o x=>Bf _ (Bf _ x)⟩
section
variable {X:Cx}
end
section
variable {prog:Program} {w:World} {A:Around} {E:D'} {s:Shared}
def eI{z a o i j p q:Addr}{k m:Nat}{xs ys:Array Value}{x y u v:Value}(D:ZipApart z a o i j p q)(B:IsZip s.heap z a o .none)(ea:IsPair s.heap a (.ref i) (.ref j))(eo:IsPair s.heap o u v)
 (ei:s.heap.IsTupleIter i p k) (ej:s.heap.IsTupleIter j q m) (tp:s.heap.IsTuple p xs) (tq:s.heap.IsTuple q ys) (hx:xs[k]?=some x) (hy:ys[m]?=some y)
 (ah:∀g,IsZip g z a o (rawInt s.heap.objs.size)->IsPair g o x y->g.IsTupleIter i p (k+1)->g.IsTupleIter j q (m+1)->IsPair g s.heap.objs.size x y->g.objs.size=s.heap.objs.size+1->(∀c d,c≠z->c≠o->c≠i->c≠j->s.heap.get? c=some d->g.get? c=some d)->Q (.ref s.heap.objs.size) {s with heap:=g}) :
 wpAny (model prog w) A (Builtin.«zip.__next__» ⟨[.ref z],[]⟩) (λf t=>∃v,f=.done (.ret v)/\Q v t) E s:=by
 show wpAny _ _ (field (.ref z) 2 >>= _) _ _ _;refine Ad (wpAny_field B rfl (x:=.bool false) rfl ?_);show wpAny _ _ (field (.ref z) 3 >>= _) _ _ _;refine Ad (wpAny_field B rfl (x:=.ref a) rfl (Ad (Gr ea rfl ?_)));show wpAny _ _ (Builtin.SmallTypes.ownedTupleIsFree (.ref z) >>= _) _ _ _;refine Ad ?_;unfold Builtin.SmallTypes.ownedTupleIsFree;refine Ad (wpAny_field B rfl (x:=.none) rfl (Aw ?_));simp only[if_true];refine Ad (Ht (Ad (wpAny_field B rfl (x:=.ref o) rfl (Ad (wpAny_setField_rec B (by simp) λaa M h=>?_)))))
 replace M:IsZip aa z a o .ellipsis:=M
 refine Ad ?_;simp only[List.zipIdx_cons,List.zipIdx_nil,List.forIn_cons,List.forIn_nil];refine Ad (Ad (wpAny_onRaise ?_));show wpAny _ _ (Builtin.SmallTypes.nextOf (.ref i) >>= _) _ _ _;refine Ad (QV (ei.extBut h.extBut D.i1z) (tp.extBut h.extBut D.l1z) hx λab i2 l=>Aw ?_);have U:IsPair ab o u v:=l.extBut _ _ D.TOi1 (h.extBut _ _ D.TOz eo);refine Ad (Gr U rfl (Ad (wpAny_updateSeq_pair U λae N r=>Ad (wpAny_letGo (Aw ?_)))))
 replace N:IsPair ae o x v:=N
 refine Ad (Ad (wpAny_onRaise ?_));show wpAny _ _ (Builtin.SmallTypes.nextOf (.ref j) >>= _) _ _ _;refine Ad (QV (((ej.extBut h.extBut D.i2z).extBut l.extBut D.i12.symm).extBut r.extBut D.TOi2.symm) (((tq.extBut h.extBut D.l2z).extBut l.extBut D.l2i1).extBut r.extBut D.l2TO) hy λg4 j4 C=>Aw ?_);have V:IsPair g4 o x v:=C.extBut _ _ D.TOi2 N;refine Ad (Gr V rfl (Ad (wpAny_updateSeq_pair V λb H F=>Ad (wpAny_letGo (Aw (Aw ?_))))))
 replace H:IsPair b o x y:=H
 refine Ad (Gr H rfl (Ad (wpAny_newTuple ?_)));have sz:b.objs.size=s.heap.objs.size:=(by rw[F.1,C.1,r.1,l.1,h.1]);have W:IsZip b z a o .ellipsis:=F.extBut _ _ D.TOz.symm (C.extBut _ _ D.i2z.symm (r.extBut _ _ D.TOz.symm (l.extBut _ _ D.i1z.symm M)));have k5:∀c d,c≠z->c≠o->c≠i->c≠j->s.heap.get? c=some d->b.get? c=some d:=λc d I J O P e=>F.extBut _ _ J (C.extBut _ _ P (r.extBut _ _ J (l.extBut _ _ O (h.extBut _ _ I e))));have i5:b.IsTupleIter i p (k+1):=((i2.extBut r.extBut D.TOi1.symm).extBut C.extBut D.i12).extBut F.extBut D.TOi1.symm;have j5:b.IsTupleIter j q (m+1):=j4.extBut F.extBut D.TOi2.symm;have X:z<b.objs.size:=Br W;show wpAny _ _ (Builtin.SmallTypes.ownedTupleHandOut (.ref z) (.ref b.objs.size) >>= _) _ _ _;refine Ad ?_;unfold Builtin.SmallTypes.ownedTupleHandOut;have z6:IsZip (b.push {cls:=.type "tuple",data:=.seq #[x,y]}) z a o .ellipsis:=Bf _ W;refine Ad (wpAny_setField_rec z6 (by simp) λg7 R S=>?_)
 replace R:IsZip g7 z a o (rawInt b.objs.size):=R
 refine wpAny_setField_rec R (by simp) λG K T=>?_
 replace K:IsZip G z a o (rawInt b.objs.size):=K
 have L:∀c d,c≠z->b.get? c=some d->G.get? c=some d:=λc d n e=>T.extBut _ _ n (S.extBut _ _ n (Bf _ e));have Y:IsPair G b.objs.size x y:=T.extBut _ _ (Nat.ne_of_gt X) (S.extBut _ _ (Nat.ne_of_gt X) (Cd _ rfl));have Z:G.objs.size=b.objs.size+1:=(by rw[T.1,S.1,Heap.size_push]);rw[sz] at K Y Z;refine Aw ⟨_,rfl,?_⟩;show Q (.ref b.objs.size) _;rw[sz];obtain⟨oi,e1,e2⟩:=i5;obtain⟨oj,af,ag⟩:=j5;exact ah G K (L _ _ D.TOz H) ⟨oi,L _ _ D.i1z e1,e2⟩ ⟨oj,L _ _ D.i2z af,ag⟩ Y Z λc d I J O P e=>L c d I (k5 c d I J O P e)
def eJ{z a o i j p q:Addr}{k m:Nat}{xs ys:Array Value}{u v:Value}{Q:PySem.Fin->Shared->Prop}(J:A.handled=none)(D:ZipApart z a o i j p q)(r:IsZip s.heap z a o .none)(U:IsPair s.heap a (.ref i) (.ref j))(V:IsPair s.heap o u v)
 (K:s.heap.IsTupleIter i p k) (W:s.heap.IsTupleIter j q m) (L:s.heap.IsTuple p xs) (X:s.heap.IsTuple q ys) (aa:xs[k]?=none\/ys[m]?=none)
 (T:∀g e,(∀c d,c≠z->c≠o->c≠i->c≠j->s.heap.get? c=some d->g.get? c=some d)->(∃d,g.get? e=some d/\d.cls=.type "StopIteration")->E (.ref e) {s with heap:=g}) :
 wpAny (model prog w) A (Builtin.«zip.__next__» ⟨[.ref z],[]⟩) Q E s:=by
 show wpAny _ _ (field (.ref z) 2 >>= _) _ _ _;refine Ad (wpAny_field r rfl (x:=.bool false) rfl ?_);show wpAny _ _ (field (.ref z) 3 >>= _) _ _ _;refine Ad (wpAny_field r rfl (x:=.ref a) rfl (Ad (Gr U rfl ?_)));show wpAny _ _ (Builtin.SmallTypes.ownedTupleIsFree (.ref z) >>= _) _ _ _;refine Ad ?_;unfold Builtin.SmallTypes.ownedTupleIsFree;refine Ad (wpAny_field r rfl (x:=.none) rfl (Aw ?_));simp only[if_true];refine Ad (Ht (Ad (wpAny_field r rfl (x:=.ref o) rfl (Ad (wpAny_setField_rec r (by simp) λY C b=>?_)))))
 replace C:IsZip Y z a o .ellipsis:=C
 refine Ad ?_;simp only[List.zipIdx_cons,List.zipIdx_nil,List.forIn_cons,List.forIn_nil];refine Ad (Ad (wpAny_onRaise ?_));show wpAny _ _ (Builtin.SmallTypes.nextOf (.ref i) >>= _) _ _ _
 cases F:xs[k]? with
 |none =>
   refine Ad (UD J (K.extBut b.extBut D.i1z) (L.extBut b.extBut D.l1z) F λG e f H=>?_);obtain⟨d,l,y⟩:=H;have M:IsZip G z a o .ellipsis:=f _ _ D.i1z.symm C;have ne:e≠z:=λt=>by subst t;rw[M] at l;cases l;simp at y
   exact wpAny_setField_rec M (by simp) λN _ n=>T N e (λc d B _ I _ t=>n.extBut _ _ B (f _ _ I (b.extBut _ _ B t))) ⟨d,n.extBut _ _ ne l,y⟩
 |some x =>
   have Z:ys[m]?=none:=by
    rcases aa with h|h;rw[F] at h;cases h;exact h
   refine Ad (QV (K.extBut b.extBut D.i1z) (L.extBut b.extBut D.l1z) F λG i2 f=>Aw ?_);have O:IsPair G o u v:=f.extBut _ _ D.TOi1 (b.extBut _ _ D.TOz V);refine Ad (Gr O rfl (Ad (wpAny_updateSeq_pair O λN o3 n=>Ad (wpAny_letGo (Aw ?_)))));refine Ad (Ad (wpAny_onRaise ?_));show wpAny _ _ (Builtin.SmallTypes.nextOf (.ref j) >>= _) _ _ _;refine Ad (UD J (((W.extBut b.extBut D.i2z).extBut f.extBut D.i12.symm).extBut n.extBut D.TOi2.symm) (((X.extBut b.extBut D.l2z).extBut f.extBut D.l2i1).extBut n.extBut D.l2TO) Z λg4 e P H=>?_);obtain⟨d,l,y⟩:=H;have R:IsZip g4 z a o .ellipsis:=P _ _ D.i2z.symm (n.extBut _ _ D.TOz.symm (f.extBut _ _ D.i1z.symm C));have ne:e≠z:=λt=>by subst t;rw[R] at l;cases l;simp at y
   exact wpAny_setField_rec R (by simp) λg5 _ S=>T g5 e (λc d B n2 I n4 t=>S.extBut _ _ B (P _ _ n4 (n.extBut _ _ n2 (f.extBut _ _ I (b.extBut _ _ B t))))) ⟨d,S.extBut _ _ ne l,y⟩
end
abbrev QW (h:Heap) (p:Addr):Heap:=h.push {cls:=.type "tuple_iterator",data:=.fields #[.ref p,.int 0 0]}
abbrev QX (h:Heap) (p q:Addr):Heap:=(QW h p).push {cls:=.type "tuple_iterator",data:=.fields #[.ref q,.int 0 0]}
abbrev QY (h:Heap) (p q:Addr):Heap:=(QX h p q).push {cls:=.type "tuple",data:=.seq #[.ref h.objs.size,.ref (QW h p).objs.size]}
abbrev QZ (h:Heap) (p q:Addr):Heap:=(QY h p q).push {cls:=.type "tuple",data:=.seq #[.none,.none]}
abbrev MK (h:Heap) (p q:Addr):Heap:=(QZ h p q).push {cls:=.type "zip",data:=.fields #[.none,.bool false,.bool false,.ref (QX h p q).objs.size,.ref (QY h p q).objs.size]}
def eK(p q:Addr)(xs ys:Array Value):Meets (Builtin.«zip.__new__» ⟨[.type "zip",.ref p,.ref q],[]⟩) (λ_ R s=>s.heap.IsTuple p xs/\s.heap.IsTuple q ys/\R (.ok (.ret (.ref (QZ s.heap p q).objs.size))) {s with heap:=MK s.heap p q}):=
 .of_wp λprog w A R s h=>by
  obtain⟨a,g,d,tk,b⟩:=s;obtain⟨c,e,h⟩:=h;have j:=sub_zip;have f:Heap.IsTuple (Shared.heap ⟨a,g,d,tk,b⟩) p xs:=c;have i:Heap.IsTuple (Shared.heap ⟨a.push {cls:=.type "tuple_iterator",data:=.fields #[.ref p,.int 0 0]},g,d,tk,b⟩) q ys:=Heap.IsTuple.push e _
  wp_walk using wpAny_pyIter_tuple f,wpAny_pyIter_tuple i
  exact⟨_,rfl,h⟩
theorem eQ{w:World}{p q:Addr}{xs ys:Array Value}(m:s.heap.IsTuple p xs)(n:s.heap.IsTuple q ys)
 (h:∀g,IsZip g (s.heap.objs.size+4) (s.heap.objs.size+2) (s.heap.objs.size+3) .none->IsPair g (s.heap.objs.size+2) (.ref s.heap.objs.size) (.ref (s.heap.objs.size+1))->IsPair g (s.heap.objs.size+3) .none .none->g.IsTupleIter s.heap.objs.size p 0->g.IsTupleIter (s.heap.objs.size+1) q 0->g.objs.size=s.heap.objs.size+5->(∀c o,s.heap.get? c=some o->g.get? c=some o)->Q (.ref (s.heap.objs.size+4)) {s with heap:=g}) :
 wpAny (model prog w) A (call (.type "zip") [.ref p,.ref q]) Q E s:=by
 refine callType_new F.called_zip (by decide) (F.typeCall_zip_2 _ _) (F.newCall_zip_2 _ _) (λu=>F.args_object_init_3 u _ _) F.entry_zip_new (eK p q xs ys) ⟨m,n,?_⟩;have a:(QW s.heap p).objs.size=s.heap.objs.size+1:=Heap.size_push ..;have b:(QX s.heap p q).objs.size=s.heap.objs.size+2:=(by rw[Heap.size_push,a]);have d:(QY s.heap p q).objs.size=s.heap.objs.size+3:=(by rw[Heap.size_push,b]);have f:(QZ s.heap p q).objs.size=s.heap.objs.size+4:=(by rw[Heap.size_push,d]);have r:(MK s.heap p q).objs.size=s.heap.objs.size+5:=(by rw[Heap.size_push,f]);have i:(MK s.heap p q).get? (QZ s.heap p q).objs.size=some _:=Cd _ rfl;have j:(MK s.heap p q).get? (QY s.heap p q).objs.size=some _:=Bf _ (Cd _ rfl);have k:(MK s.heap p q).get? (QX s.heap p q).objs.size=some _:=Bf _ (Bf _ (Cd _ rfl));have l:(MK s.heap p q).get? (QW s.heap p).objs.size=some _:=Bf _ (Bf _ (Bf _ (Cd _ rfl)));have t:(MK s.heap p q).get? s.heap.objs.size=some _:=Bf _ (Bf _ (Bf _ (Bf _ (Cd _ rfl))));show _/\_;rw[b,d,f] at i;rw[a,b] at k;rw[d] at j;rw[a] at l;rw[f];exact⟨⟨_,i,rfl⟩,h _ i k j ⟨_,t,rfl,rfl⟩ ⟨_,l,rfl,rfl⟩ r λc o e=>Bf _ (Bf _ (Bf _ (Bf _ (Bf _ e))))⟩
section
variable {X:Cx} {pins:B'} {σ:St} {H:Hp} {s:Shared} {h':Heap} {t':Nat} {fp:List Addr}
def Inv.turnL(I:Inv X pins σ H s)(d:∀b∈fp,Dj X pins H b)(keep:∀b o,b∉fp->s.heap.get? b=some o->h'.get? b=some o):Inv X pins σ H {s with heap:=h',toks:=t'}:=by
 have g:∀b u,H b=some u->b∉fp:=λb u e z=>by rw[(d b z).1] at e;cases e
 refine I.step (g':=s.gens) (d':=s.drawn) (ch:=fp) (λb a=>⟨(d b a).2.2.2.1,(d b a).2.1,(d b a).2.2.2.2⟩) (λb o _ _ a e _=>keep b o a e) (λb o _ _ a e _=>⟨o.slots,keep b o a e⟩) (λ_ _ _ _ n=>n) (λb o a e=>⟨o,keep b o a e⟩) (λ_ _ e=>e) (λ_ _ _ e=>e) (λb l e=>⟨#[],by rw[e];simp⟩)
  (λm h=>?_) (λb u e=>(I.hok b u e).stay (λc v f q=>keep c v ?_ q) (λ_ q=>q) λ_ _ q=>q) I.bare
 obtain⟨o,i,j,k,r⟩:=h;exact⟨o,i,j,keep _ o (λz=>(d _ z).2.1 rfl) k,r⟩;rcases f with rfl|f;exact g _ _ e;exact g _ _ f
def Inv.turnP{a c:Value}{x y:V}(I:Inv X pins σ H s)(d:∀b∈fp,Dj X pins H b)(keep:∀b o,b∉fp->s.heap.get? b=some o->h'.get? b=some o)(ob:∀b∈fp,∃o,s.heap.get? b=some o/\∀v,o.data≠.cell v)
 (f:h'.get? s.heap.objs.size=some {cls:=.type "tuple",data:=.seq #[a,c]}) (i:RelV x a) (j:RelV y c) :
 Inv X pins σ (upd H s.heap.objs.size (.tup [x,y])) {s with heap:=h',toks:=t'}/\H s.heap.objs.size=none/\∀b∈fp,upd H s.heap.objs.size (.tup [x,y]) b=none:=by
 have h:H s.heap.objs.size=none:=I.hok.fresh (AG _);refine⟨(I.turnL (t':=t') d keep).track (I.fpOk (AG _) h) ⟨_,f⟩ ⟨by show 2<=sizeLine;decide,[a,c],.cons i (.cons j .nil),⟨_,f,rfl,_,rfl⟩⟩,h,λb g=>?_⟩;obtain⟨o,e,_⟩:=ob b g;rw[AD (CF (Br e))];exact(d b g).1
def Inv.newFp(I:Inv X pins σ H s)(a:∀b∈fp,s.heap.objs.size<=b):∀b∈fp,Dj X pins H b:=λb z=>I.fpOk (a b z) (I.hok.fresh (a b z))
end
structure UE where
 sq:Ah->Hp->Addr->List V->Prop
 ent:Ah->Hp->Addr->List V->Prop
 it:Heap->Addr->Addr->Nat->Prop
 is:Heap->Addr->Array Value->Prop
 obj:∀{h:Heap}{i l:Addr}{n:Nat},it h i l n->∃o,h.get? i=some o/\∀v,o.data≠.cell v
 keep:∀{h h':Heap}{i l:Addr}{n:Nat},it h i l n->(∀o,h.get? i=some o->h'.get? i=some o)->it h' i l n
 get:∀{X:Cx}{pins:B'}{σ:St}{H:Hp}{s:Shared}{l:Addr}{xs:List V},Inv X pins σ H s->sq X.K H l xs->∃its:List Value,At xs its/\is s.heap l its.toArray/\l<s.heap.objs.size
 uniq:∀{X:Cx}{pins:B'}{σ:St}{H:Hp}{s:Shared}{l:Addr}{xs ys:List V},Inv X pins σ H s->sq X.K H l xs->sq X.K H l ys->xs=ys
 entS:∀{K:Ah}{H:Hp}{l:Addr}{xs:List V},ent K H l xs->sq K H l xs
 zitem:∀{prog:Program}{w:World}{A:Around}{E:D'}{s:Shared}{z a o i j p q:Addr}{k m:Nat}{xs ys:Array Value}{x y u v:Value}{Q:Option Value->Shared->Prop},ZipApart z a o i j p q->IsZip s.heap z a o .none->IsPair s.heap a (.ref i) (.ref j)->IsPair s.heap o u v->it s.heap i p k->it s.heap j q m->is s.heap p xs->is s.heap q ys->xs[k]?=some x->ys[m]?=some y ->
  (∀g,IsZip g z a o (rawInt s.heap.objs.size)->IsPair g o x y->it g i p (k+1)->it g j q (m+1)->IsPair g s.heap.objs.size x y->g.objs.size=s.heap.objs.size+1->(∀c d,c≠z->c≠o->c≠i->c≠j->s.heap.get? c=some d->g.get? c=some d)->Q (some (.ref s.heap.objs.size)) {s with heap:=g})->wpAny (model prog w) A (pyNext (.ref z)) Q E s
 zend:∀{prog:Program}{w:World}{A:Around}{E:D'}{s:Shared}{z a o i j p q:Addr}{k m:Nat}{xs ys:Array Value}{u v:Value}{Q:Option Value->Shared->Prop},A.handled=none->ZipApart z a o i j p q->IsZip s.heap z a o .none->IsPair s.heap a (.ref i) (.ref j)->IsPair s.heap o u v->it s.heap i p k->it s.heap j q m->is s.heap p xs->is s.heap q ys->xs[k]?=none\/ys[m]?=none ->
  (∀g,(∀c d,c≠z->c≠o->c≠i->c≠j->s.heap.get? c=some d->g.get? c=some d)->Q none {s with heap:=g})->wpAny (model prog w) A (pyNext (.ref z)) Q E s
 zcall:∀{prog:Program}{w:World}{A:Around}{E:D'}{s:Shared}{p q:Addr}{xs ys:Array Value}{Q:D'},is s.heap p xs->is s.heap q ys ->
  (∀g,IsZip g (s.heap.objs.size+4) (s.heap.objs.size+2) (s.heap.objs.size+3) .none->IsPair g (s.heap.objs.size+2) (.ref s.heap.objs.size) (.ref (s.heap.objs.size+1))->IsPair g (s.heap.objs.size+3) .none .none->it g s.heap.objs.size p 0->it g (s.heap.objs.size+1) q 0->g.objs.size=s.heap.objs.size+5->(∀c o,s.heap.get? c=some o->g.get? c=some o)->Q (.ref (s.heap.objs.size+4)) {s with heap:=g})->wpAny (model prog w) A (call (.type "zip") [.ref p,.ref q]) Q E s
 eitem:∀{prog:Program}{w:World}{A:Around}{E:D'}{s:Shared}{e j l:Addr}{i:Nat}{xs:Array Value}{x old:Value}{Q:Option Value->Shared->Prop},A.handled=none->e≠j->e≠l->l≠j->IsEnum s.heap e j i old->it s.heap j l i->is s.heap l xs->xs[i]?=some x ->
  (∀g tk,IsEnumOut g e j ((i:Int)+1) x s.heap.objs.size->it g j l (i+1)->g.get? s.heap.objs.size=some {cls:=.type "tuple",data:=.seq #[.int i tk,x]}->(∀b o,b≠e->b≠j->s.heap.get? b=some o->g.get? b=some o)->Q (some (.ref s.heap.objs.size)) {s with heap:=g,toks:=tk+1})->wpAny (model prog w) A (pyNext (.ref e)) Q E s
 eend:∀{prog:Program}{w:World}{A:Around}{E:D'}{s:Shared}{e j l:Addr}{xs:Array Value}{old:Value}{Q:Option Value->Shared->Prop},A.handled=none->l≠j->IsEnum s.heap e j xs.size old->it s.heap j l xs.size->is s.heap l xs->(∀g,Heap.ExtBut j s.heap g->Q none {s with heap:=g})->wpAny (model prog w) A (pyNext (.ref e)) Q E s
 ecall:∀{X:Cx}{pins:B'}{σ:St}{H:Hp}{s:Shared}{A:Around}{E:D'}{l:Addr}{xs:List V}{Q:D'},Inv X pins σ H s->ent X.K H l xs ->
  (∀g,IsEnum g (s.heap.objs.size+1) s.heap.objs.size 0 .none->it g s.heap.objs.size l 0->g.objs.size=s.heap.objs.size+2->(∀b o,s.heap.get? b=some o->g.get? b=some o)->Q (.ref (s.heap.objs.size+1)) {s with heap:=g})->wpAny (model X.prog X.w) A (call (.type "enumerate") [.ref l]) Q E s
def LK:UE where
 sq:=Ae
 ent:=λ_ H l xs=>H l=some (.lst xs)
 it:=Heap.IsListIter
 is:=Heap.IsList
 obj:=λ⟨o,e,_,d⟩=>⟨o,e,λv q=>by rw[d] at q;cases q⟩
 keep:=λh k=>h.at k
 get:=λI h=>let ⟨its,r,p,_⟩:=I.list h;⟨its,r,p.isList,let ⟨_,e,_⟩:=p.isList;Br e⟩
 uniq:=λI h h'=>I.list_inj h h'
 entS:=Ae.of
 zitem:=wpAny_pyNext_zip_item
 zend:=wpAny_pyNext_zip_end
 zcall:=call_zip_2
 eitem:=λ_ n1 _ _ he hi hl hx q=>wpAny_pyNext_enum_item he hi hl hx n1 λg a b c _ k=>q g _ a b c k
 eend:=λhh _ he hi hl q=>wpAny_pyNext_enum_end hh he hi hl (by simp) q
 ecall:=λI hq q=>let ⟨_,_,_,_,e⟩:=I.hok _ _ hq;call_enumerate_1 e q
def TK:UE where
 sq:=Ar
 ent:=Ar
 it:=Heap.IsTupleIter
 is:=Heap.IsTuple
 obj:=λ⟨o,e,_,d⟩=>⟨o,e,λv q=>by rw[d] at q;cases q⟩
 keep:=λ⟨o,e,r⟩k=>⟨o,k o e,r⟩
 get:=λI h=>let ⟨its,r,p,_⟩:=I.tuple h;⟨its,r,p,let ⟨_,e,_⟩:=p;Br e⟩
 uniq:=λI h h'=>I.tuple_inj h h'
 entS:=id
 zitem:=λ{_ _ _ _ s z _ _ _ _ _ _ _ _ _ _ _ _ _ _ _}D ez ea eo ei ej tp tq hx hy fin=>by
  have tz:s.TypeIs (.ref z) "zip" :=⟨_,ez,rfl⟩;unfold pyNext;exact Ad (wpAny_attempt (wpAny_callSpecial?_slot (name:=Str.ofString "__next__") tz F.slot_zip_next (wpAny_call_entry F.slot_zip_next tz F.entry_zip_next (eI D ez ea eo ei ej tp tq hx hy λg a1 a2 a3 a4 a5 a6 a7=>Aw (fin g a1 a2 a3 a4 a5 a6 a7)) (F.args_zip_next_1 _))))
 zend:=λ{_ _ _ _ s z _ _ _ _ _ _ _ _ _ _ _ _ _}hh D ez ea eo ei ej tp tq hend fin=>by
  have tz:s.TypeIs (.ref z) "zip" :=⟨_,ez,rfl⟩;unfold pyNext;refine Ad (wpAny_attempt (wpAny_callSpecial?_slot (name:=Str.ofString "__next__") tz F.slot_zip_next (wpAny_call_entry F.slot_zip_next tz F.entry_zip_next (eJ hh D ez ea eo ei ej tp tq hend λg e hk he=>?_) (F.args_zip_next_1 _))));obtain⟨d,h1,h2⟩:=he;exact Ad (wpAny_isInstance (T:= "StopIteration") (b:=true) ⟨d,h1,h2⟩ isSubtype_stop (Aw (fin _ hk)))
 zcall:=eQ
 eitem:=λ{_ _ A _ _ e j l i xs x _ _}hh n1 n2 n3 he hi hl hx q=>by
  refine wpAny_pyNext_enum_itemD (Ic (A:=A.in1) hh j l n3 xs) he ⟨hi,hl⟩ (Array.getElem?_eq_some_iff.mp hx).1 n1 (by simp;exact⟨n1,n2⟩) λy g tk hy a b c _ k=>?_;rw[hx] at hy;cases hy;exact q g tk a b.1 c k
 eend:=λ{_ _ A _ _ _ j l xs _ _}hh n3 he hi hl q=>wpAny_pyNext_enum_endD (Ic (A:=A.in1) hh j l n3 xs) he ⟨hi,hl⟩ q
 ecall:=λI hq q=>let ⟨_,_,p,_⟩:=I.tuple hq;eH p q
section
variable (k:UE)
def Ie (K:Ah) (f lq:Addr):It:=
 ⟨λi H=>∃xs ys x y,k.sq K H f xs/\k.sq K H lq ys/\xs[i]?=some x/\ys[i]?=some y,
  λi H v H'=>∃T x y,H T=none/\v=.ref T/\H'=upd H T (.tup [x,y])/\(∀xs,k.sq K H f xs->xs[i]?=some x)/\∀ys,k.sq K H lq ys->ys[i]?=some y,
  λi H=>∃xs ys,k.sq K H f xs/\k.sq K H lq ys/\(xs.length<=i\/ys.length<=i)⟩
def Pk (z TI TO i1 i2 f lq:Addr) (i:Nat) (h:Heap):Prop:=IsZip h z TI TO .none/\IsPair h TI (.ref i1) (.ref i2)/\(∃a b,IsPair h TO a b)/\k.it h i1 f i/\k.it h i2 lq i
def Ig (K:Ah) (l:Addr):It:=
 ⟨λi H=>∃xs x,k.sq K H l xs/\xs[i]?=some x,
  λi H v H'=>∃T x,H T=none/\v=.ref T/\H'=upd H T (.tup [.int i,x])/\∀xs,k.sq K H l xs->xs[i]?=some x,
  λi H=>∃xs,k.sq K H l xs/\xs.length=i⟩
def Pl (e it l:Addr) (i:Nat) (h:Heap):Prop:=(∃old,IsEnum h e it i old)/\k.it h it l i
variable {k}
variable {f lq:Addr}
def XB{z TI TO d e:Addr}{h:Heap}(st:Pk k z TI TO d e f lq i h):∀b∈[z,TI,TO,d,e],∃o,h.get? b=some o/\∀v,o.data≠.cell v:=λb g=>by
 obtain⟨j,n,⟨a,c,p⟩,l,m⟩:=st;simp at g;rcases g with rfl|rfl|rfl|rfl|rfl;exact⟨_,j,λv q=>by cases q⟩;exact⟨_,n,λv q=>by cases q⟩;exact⟨_,p,λv q=>by cases q⟩;exact k.obj l;exact k.obj m
def XC{it l:Addr}{h:Heap}(st:Pl k e it l i h):∀b∈[e,it],∃o,h.get? b=some o/\∀v,o.data≠.cell v:=λb a=>by
 obtain⟨⟨f,c⟩,d⟩:=st;simp at a;rcases a with rfl|rfl;exact⟨_,c,λv q=>by cases q⟩;exact k.obj d
variable {P:Program} {w:World} {K:Ah} {es:List Expr} {U:Nat} {L:Pos}
def eS{z TI TO r t:Addr}(D:ZipApart z TI TO r t f lq):Gw P w K (.Tuple es U L) (Ie k K f lq) [z,TI,TO,r,t] z (Pk k z TI TO r t f lq) where
 mem:=by simp
 obj:=λ_ _ g b d=>XB g b d
 keep:=λi h h' g U=>by
  obtain⟨j,l,⟨a,c,q⟩,n,p⟩:=g;exact⟨U z (by simp) _ j,U TI (by simp) _ l,⟨a,c,U TO (by simp) _ q⟩,k.keep n λo e=>U r (by simp) o e,k.keep p λo e=>U t (by simp) o e⟩
 item:=by
  intro X B C F S i ai s σ H E I G g M;subst B C F;obtain⟨Z,ys,x,y,v,A,T,V⟩:=M;have ob:=XB g;obtain⟨j,l,⟨a,c,q⟩,n,p⟩:=g;obtain⟨aj,O,N,_⟩:=k.get I v;obtain⟨ak,Q,J,_⟩:=k.get I A;obtain⟨W,aa,ab⟩:=O.get T;obtain⟨Y,ae,af⟩:=Q.get V;refine k.zitem D j l q n p N J (x:=W) (y:=Y) (by simpa using aa) (by simpa using ae) λh' a1 a2 a3 a4 a5 a6 u=>?_;refine⟨_,rfl,wpAny_letOwnedTupleGo_zip (s:={s with heap:=h'}) a1 λag al m=>?_⟩;obtain⟨I2,ah,fr⟩:=I.turnP (t':=s.toks) (h':=ag) G (λb o d e=>by simp at d;exact(m.2 b d.1).trans (u b o d.1 d.2.2.1 d.2.2.2.1 d.2.2.2.2 e)) ob ((m.2 _ (Nat.ne_of_gt (Br j))).trans a5) ab af
  exact⟨.ref s.heap.objs.size,_,I2,rfl,⟨s.heap.objs.size,x,y,ah,rfl,rfl,λzs R=>by rw[k.uniq I R v];exact T,λzs R=>by rw[k.uniq I R A];exact V⟩,
   ⟨al,m.extBut _ _ D.TIz (u _ _ D.TIz D.TITO D.TIi1 D.TIi2 l),⟨W,Y,m.extBut _ _ D.TOz a2⟩,k.keep a3 λo e=>m.extBut _ _ D.i1z e,k.keep a4 λo e=>m.extBut _ _ D.i2z e⟩,fr⟩
 done:=by
  intro X B C F S i ai s σ H E I G g M;subst B C F;obtain⟨Z,ys,v,A,aq⟩:=M;obtain⟨j,l,⟨a,c,q⟩,n,p⟩:=g;obtain⟨aj,O,N,_⟩:=k.get I v;obtain⟨ak,Q,J,_⟩:=k.get I A;have an:=O.length;have ao:=Q.length;exact k.zend (I.ok.hd S) D j l q n p N J (by simp;lia) λh' u=>⟨rfl,I.turnL (t':=s.toks) G λb o d e=>by simp at d;exact u b o d.1 d.2.2.1 d.2.2.2.1 d.2.2.2.2 e⟩
 self:=λ_ _ _ _ _ g h=>wpAny_pyIter_zip g.1 h
def eV{it l:Addr}(D:e≠it)(V:e≠l)(F:l≠it):Gw P w K (.Tuple es U L) (Ig k K l) [e,it] e (Pl k e it l) where
 mem:=by simp
 obj:=λ_ _ a b c=>XC a b c
 keep:=λi h h' a U=>by
  obtain⟨⟨g,d⟩,f⟩:=a;exact⟨⟨g,U e (by simp) _ d⟩,k.keep f λo x=>U it (by simp) o x⟩
 item:=by
  intro X m n p q i ae s σ H E I r a t;subst m n p;obtain⟨A,x,j,B⟩:=t;have J:=XC a;obtain⟨⟨g,d⟩,f⟩:=a;obtain⟨G,v,u,_⟩:=k.get I j;obtain⟨C,W,Y⟩:=v.get B;refine k.eitem (I.ok.hd q) D V F d f u (x:=C) (by simpa using W) λh' tk M N O Q=>?_;refine⟨_,rfl,wpAny_letOwnedTupleGo_enum (s:={s with heap:=h',toks:=tk+1}) M λZ af z=>?_⟩;obtain⟨R,aa,S⟩:=I.turnP (t':=tk+1) (h':=Z) (x:=.int i) (y:=x) r (λb o c e=>by simp at c;exact(z.2 b c.1).trans (Q b o c.1 c.2 e)) J ((z.2 _ (Nat.ne_of_gt (Br d))).trans O) ⟨_,rfl⟩ Y;exact⟨.ref s.heap.objs.size,_,R,rfl,⟨s.heap.objs.size,x,aa,rfl,rfl,λzs ab=>by rw[k.uniq I ab j];exact B⟩,⟨⟨C,by simpa using af⟩,k.keep N λo e=>z.extBut _ _ (Ne.symm D) e⟩,S⟩
 done:=by
  intro X m n p q i ae s σ H E I r a t;subst m n p;obtain⟨A,j,rfl⟩:=t;obtain⟨⟨g,d⟩,f⟩:=a;obtain⟨G,v,u,_⟩:=k.get I j;rw[show A.length=G.toArray.size by rw[v.length];simp] at d f;exact k.eend (I.ok.hd q) F d f u λh' T=>⟨rfl,I.turnL (t':=s.toks) r λb o c e=>by simp at c;exact T b o c.2 e⟩
 self:=λ_ _ _ _ _ a h=>by
  obtain⟨⟨g,d⟩,_⟩:=a;exact wpAny_pyIter_enum d h
variable (k)
def ML (K:Ah) (ta:TA):TI:=λσ H R=>ta σ H λvs Y=>∃l,vs=[.ref l]/\(∃xs,k.ent K Y l xs)/\R (Ig k K l) Y
variable {X:Cx}
def N5{j:Pos}{a:Expr}{d:TA}{p:Pos}(i:Gl X "enumerate")(m:X.mg "enumerate" = none)(n:PA X [a] d)(o:starEach [a] X.env=[(false,eval a X.env)]:=by rfl) :
 PI X (.Tuple es U j) (.Call (.Name "enumerate" p) [a] [] L) (ML k X.K d):=by
 intro A s σ H R I h;refine Call_ (K2 I i m (u:=.type "enumerate") (by decide +kernel) (PyProof.Rows.callWith_type1 (AV (n L A s σ H _ I h) λB b⟨C,Y,c,r,t⟩=>?_) (by rw[o];rfl) (by rfl)));obtain⟨l,rfl,⟨D,e⟩,q⟩:=t;obtain⟨v,rfl,z⟩:=Fa r;obtain rfl:v=Value.ref l:=z;obtain⟨_,_,_,f⟩:=k.get c (k.entS e);refine k.ecall c e λw g x E y=>?_;refine wpAny_pyIter_enum (s:={b with heap:=w}) g ?_;exact⟨_,[b.heap.objs.size+1,b.heap.objs.size],_,_,Y,rfl,c.kept (t':=b.toks) y,eV (Nat.succ_ne_self _) (Nat.ne_of_gt (Nat.lt_succ_of_lt f)) (CF f),⟨⟨_,g⟩,x⟩,c.newFp (by simp),q⟩
variable {k}
def XD{pins:B'}{σ:St}{a:Shared}{c:Expr}{R:It->Hp->Prop}(e:∃es U L,c=.Tuple es U L)(b:Inv X pins σ Y a)(g:∃xs,k.sq X.K Y f xs)(h:∃ys,k.sq X.K Y lq ys)(q:R (Ie k X.K f lq) Y) :
 wpAny (model X.prog X.w) X.A (call (.type "zip") [.ref f,.ref lq]) (λv i=>wpAny (model X.prog X.w) X.A (pyIter v) (S6 X pins σ c R) E i) E a:=by
 obtain⟨es,U,L,rfl⟩:=e;obtain⟨xs,p⟩:=g;obtain⟨ys,r⟩:=h;obtain⟨_,_,j,l⟩:=k.get b p;obtain⟨_,_,J,m⟩:=k.get b r;refine k.zcall j J λn d t u w x y o=>?_;refine wpAny_pyIter_zip (s:={a with heap:=n}) d ?_;exact⟨_,[a.heap.objs.size+4,a.heap.objs.size+2,a.heap.objs.size+3,a.heap.objs.size,a.heap.objs.size+1],_,_,Y,rfl,b.kept (t':=a.toks) o,eS (zipApart_new l m),⟨d,t,⟨_,_,u⟩,w,x⟩,b.newFp (by simp),q⟩
def Po (K:Ah) (ta:TA):TI:=λσ H R=>ta σ H λvs Y=>∃f lq,vs=[.ref f,.ref lq]/\(((∃xs,Ae K Y f xs)/\(∃ys,Ae K Y lq ys)/\R (Ie LK K f lq) Y)\/((∃xs,Ar K Y f xs)/\(∃ys,Ar K Y lq ys)/\R (Ie TK K f lq) Y))
def J5{j:Pos}{a b:Expr}{e:TA}{p:Pos}(l:Gl X "zip")(m:X.mg "zip" = none)(n:PA X [a,b] e)(o:starEach [a,b] X.env=[(false,eval a X.env),(false,eval b X.env)]:=by rfl)(i:starEach [b] X.env=[(false,eval b X.env)]:=by rfl) :
 PI X (.Tuple es U j) (.Call (.Name "zip" p) [a,b] [] L) (Po X.K e):=by
 intro A s σ H R I h;refine Call_ (K2 I l m (u:=.type "zip") (by decide +kernel) (PyProof.Rows.callWith_type1 (AV (n L A s σ H _ I h) λB C⟨D,Y,g,r,t⟩=>?_) (by rw[o,i]) (by rw[i];rfl)));obtain⟨f,lq,rfl,v⟩:=t;obtain⟨w,x,rfl,y,z⟩:=Jw r;obtain rfl:w=Value.ref f:=y;obtain rfl:x=Value.ref lq:=z;rcases v with⟨c,d,q⟩|⟨c,d,q⟩;exact XD (k:=LK) ⟨_,_,_,rfl⟩ g c d q;exact XD (k:=TK) ⟨_,_,_,rfl⟩ g c d q
variable {g:TG} {tb:TS} {D:Ends} {σ:St} {H:Hp}
variable (k)
def XE{xs ys:List V}(Pv:Nat->St->Hp->Prop)(b:Pv 0 σ H)(a:∀i σ H,Pv i σ H->k.sq K H f xs/\k.sq K H lq ys)
 (c:∀i x y T σ H,xs[i]?=some x->ys[i]?=some y->H T=none->Pv i σ H->g (.ref T) σ (upd H T (.tup [x,y])) λσ2 d=>tb {D with nx:=Pv (i+1),ct:=Pv (i+1),bk:=D.nx} σ2 d) (hd:∀σ H,Pv (min xs.length ys.length) σ H->D.nx σ H):FZ (Ie k K f lq) g tb D σ H:=by
 refine OI (min xs.length ys.length) Pv b (λi σ H p e=>?_) (λσ H p=>⟨xs,ys,(a _ σ H p).1,(a _ σ H p).2,by lia⟩) (λi v σ H H' p e y=>?_) hd;have h:i<xs.length:=(by lia);have j:i<ys.length:=(by lia);exact⟨xs,ys,xs[i],ys[i],(a i σ H p).1,(a i σ H p).2,by simp[h],by simp[j]⟩;obtain⟨T,x,l,m,rfl,rfl,n,o⟩:=y;exact c i x l T σ H (n xs (a i σ H p).1) (o ys (a i σ H p).2) m p
def Q0{l:Addr}{xs:List V}(Pv:Nat->St->Hp->Prop)(c:Pv 0 σ H)(a:∀i σ H,Pv i σ H->k.sq K H l xs)
 (d:∀i x T σ H,xs[i]?=some x->H T=none->Pv i σ H->g (.ref T) σ (upd H T (.tup [.int i,x])) λσ2 e=>tb {D with nx:=Pv (i+1),ct:=Pv (i+1),bk:=D.nx} σ2 e) (hd:∀σ H,Pv xs.length σ H->D.nx σ H):FZ (Ig k K l) g tb D σ H:=by
 refine OI xs.length Pv c (λi σ H p b=>⟨xs,xs[i],a i σ H p,by simp[b]⟩) (λσ H p=>⟨xs,a _ σ H p,rfl⟩) (λi v σ H H' p b y=>?_) hd;obtain⟨T,x,f,rfl,rfl,h⟩:=y;exact d i x T σ H (h xs (a i σ H p)) f p
end
mutual
inductive Bj (F:Addr->Prop) (H:Hp):V->Dt->Prop where
 | non:Bj F H .non .non
 | bl (b:Bool):Bj F H (.bl b) (.bl b)
 | int (i:Int):Bj F H (.int i) (.int i)
 | str (x:Str):Bj F H (.str x) (.str x)
 | tup {a:Addr} {vs:List V} {ds:List Dt} (h:H a=some (.tup vs)) (t:AA F H vs ds):Bj F H (.ref a) (.tup ds)
 | lst {a:Addr} {vs:List V} {ds:List Dt} (h:H a=some (.lst vs)) (f:F a) (t:AA F H vs ds):Bj F H (.ref a) (.lst ds)
inductive AA (F:Addr->Prop) (H:Hp):List V->List Dt->Prop where
 | nil:AA F H [] []
 | cons {v:V} {d:Dt} {vs:List V} {ds:List Dt} (h:Bj F H v d) (t:AA F H vs ds):AA F H (v :: vs) (d :: ds)
end
mutual
theorem Bj.go {F G:Addr->Prop}{H H':Hp} (e:∀ a vs,H a=some (.tup vs)->H' a=some (.tup vs)) (l:∀ a vs,H a=some (.lst vs)->F a->H' a=some (.lst vs)/\G a) {v:V} {d:Dt} (h:Bj F H v d):Bj G H' v d:=by
 cases h with
 | non=>exact .non
 | bl b=>exact .bl b
 | int i=>exact .int i
 | str x=>exact .str x
 | tup h t=>exact .tup (e _ _ h) (AA.go e l t)
 | lst h f t=>exact .lst (l _ _ h f).1 (l _ _ h f).2 (AA.go e l t)
theorem AA.go {F G:Addr->Prop}{H H':Hp} (e:∀ a vs,H a=some (.tup vs)->H' a=some (.tup vs)) (l:∀ a vs,H a=some (.lst vs)->F a->H' a=some (.lst vs)/\G a) {vs:List V} {b:List Dt} (h:AA F H vs b):AA G H' vs b:=by
 cases h with
 | nil=>exact .nil
 | cons h t=>exact .cons (Bj.go e l h) (AA.go e l t)
end
mutual
theorem Bj.dt {K:Ah}{F:Addr->Prop}{H:Hp}{v:V}{d:Dt} (h:Bj F H v d):Ap K H v d:=by
 cases h with
 | non=>exact .non
 | bl b=>exact .bl b
 | int i=>exact .int i
 | str x=>exact .str x
 | tup h t=>exact .tup (Ar.of h) (AA.dts t)
 | lst h f t=>exact .lst (Ae.of h) (AA.dts t)
theorem AA.dts {K:Ah}{F:Addr->Prop}{H:Hp}{vs:List V}{a:List Dt} (h:AA F H vs a):Aj K H vs a:=by
 cases h with
 | nil=>exact .nil
 | cons h t=>exact .cons (Bj.dt h) (AA.dts t)
end
section
variable {F G M:Addr->Prop} {H H':Hp} {v:V} {d:Dt} {vs us:List V} {ds es:List Dt}
def Bj.same(s:Ac H H')(h:Bj F H v d):Bj F H' v d:=h.go (λ_ _ q=>s _ _ q) λ_ _ q f=>⟨s _ _ q,f⟩
def AA.same(s:Ac H H')(h:AA F H vs ds):AA F H' vs ds:=h.go (λ_ _ q=>s _ _ q) λ_ _ q f=>⟨s _ _ q,f⟩
def AA.keeps(k:Keeps M H H')(a:∀x,F x->¬M x)(h:AA F H vs ds):AA F H' vs ds:=h.go (λ_ _ q=>k.tup q) λ_ _ q f=>⟨k.at_ _ _ q (a _ f),f⟩
def Bj.mono(e:∀x o,H x=some o->F x->G x)(h:Bj F H v d):Bj G H v d:=h.go (λ_ _ q=>q) λ_ _ q f=>⟨q,e _ _ q f⟩
def AA.mono(e:∀x o,H x=some o->F x->G x)(h:AA F H vs ds):AA G H vs ds:=h.go (λ_ _ q=>q) λ_ _ q f=>⟨q,e _ _ q f⟩
theorem AA.length:∀{vs:List V}{ds:List Dt},AA F H vs ds->vs.length=ds.length
 |_,_,.nil=>rfl
 |_,_,.cons _ t=>by rw[Ej,Ej,AA.length t]
theorem AA.snoc:∀{vs:List V}{ds:List Dt},AA F H vs ds->Bj F H v d->AA F H (vs++[v]) (ds++[d])
 |_,_,.nil,h=>.cons h .nil
 |_,_,.cons a t,h=>.cons a (AA.snoc t h)
theorem AA.get:∀{vs:List V}{ds:List Dt}{i:Nat}{v:V},AA F H vs ds->vs[i]?=some v->∃d,ds[i]?=some d/\Bj F H v d
 |_,_,i,v,.nil,e=>by simp at e
 |_,_,0,v,.cons a t,e=>by simp at e;subst e;exact⟨_,rfl,a⟩
 |_,_,i+1,v,.cons a t,e=>by
   obtain⟨d,b,c⟩:=AA.get (i:=i) t (by simpa using e);exact⟨d,by simpa using b,c⟩
theorem AA.of_all{α:Type}{f:α->V}{g:α->Dt}:∀{l:List α},(∀x∈l,Bj F H (f x) (g x))->AA F H (l.map f) (l.map g)
 |[],_=>.nil
 |x::l,h=>.cons (h x Bn) (AA.of_all λy a=>h y (B6 _ a))
end
theorem UF{α:Type}{f:α->List V}{D:α->Dt}{F:Addr->Prop}{H:Hp}(d:∀(r:α)(t:Addr),H t=some (.tup (f r))->Bj F H (.ref t) (D r)):∀{ts:List Addr}{c:List α},RT f H ts c->AA F H (ts.map V.ref) (c.map D)
 |[],[],_=>.nil
 |[],_::_,h=>by have:=h.len;simp at this
 |_::_,[],h=>by have:=h.len;simp at this
 |t::ts,r::c,h=>.cons (d r t (h.at_ 0 t r rfl rfl)) (UF d ⟨by simpa using h.len,λn a b e g=>h.at_ (n+1) a b (by simpa using e) (by simpa using g)⟩)
variable {F:Addr->Prop}
def Ih(r:Aq)(t:Addr)(h:H t=some (.tup (G4 r))):Bj F H (.ref t) (QN r):=.tup h (.cons (.int _) (.cons (.str _) (.cons (.int _) .nil)))
def CV.own{t:Addr}(h:CV F H t w):Bj F H (.ref t) (CK.D w):=by
 obtain⟨d,a,b,c⟩:=h;exact .lst a c (UF Ih b)
variable {b:AO}
def DU.own{t:Addr}(h:DU F H t b):Bj F H (.ref t) (DX.D b):=by
 obtain⟨l,f,a,c,d,e⟩:=h;exact .tup a (.cons (.lst c e (UF Ih d)) (.cons (.int _) (.cons (.int _) .nil)))
def Ln (ss:List Bh) (m:Aq):DT:=match ss[m.1.toNat]? with
 |some s=>(match s.2[m.2.2.toNat]? with
   |some p=>p
   |none=>default)
 |none=>default
def XF{k:Nat}{s:Bh}{p:DT}(a:m.1=(n:Int))(b:m.2.2=(k:Int))(c:ss[n]?=some s)(d:s.2[k]?=some p):Ln ss m=p:=by
 unfold Ln;rw[a,b,Bo,Bo,c];dsimp only;rw[d]
def Cv (ss:List Bh) (w:List Aq):DT:=match w.getLast? with
 |some m=>Ln ss m
 |none=>default
def C5 (ss:List Bh) (w:List Aq):Prop:=∃(v:List Aq)(m:Aq),w=v++[m]/\EH ss m/\m.2.1=("told" : Str)
def Q1(ss:List Bh)(v:List Aq)(m:Aq):Cv ss (v++[m])=Ln ss m:=by
 unfold Cv;rw[List.getLast?_concat]
def EQ (W:Wd) (w:List Aq):Option Int:=if(Cv W.ss w).2.2.1=("by" : Str)/\W.as[(Cv W.ss w).2.2.2.toNat]?=some none then some (Cv W.ss w).2.2.2 else none
def Fh (W:Wd):List (List Aq)->Option Ow
 |[]=>none
 |w::ws=>match EQ W w with
   |some q=>some (w,q)
   |none=>Fh W ws
def Bt (W:Wd) (w:List Aq):Option Int:=if(Cv W.ss w).2.2.1=("thing" : Str) then some (Cv W.ss w).2.2.2 else match W.as[(Cv W.ss w).2.2.2.toNat]? with
 |some (some p)=>if p.1=("thing" : Str) then some p.2 else none
 |_=>none
noncomputable def Fi (ss:List Bh) (ord:A') (ws:List (List Aq)):List Ow->Option Ow
 |[]=>none
 |o::os=>if(ws.any λv=>B7 ss ord v o.1)=true then Fi ss ord ws os else some o
abbrev Wt:Type:=Int×List Aq×Int
abbrev Ii:Option Wt->Dt
 |none=>.non
 |some p=>.tup [.int p.1,CK.D p.2.1,.int p.2.2]
def J6:Option Int->Dt
 |none=>.non
 |some n=>.int n
noncomputable def Ea (W:Wd) (ord:A') (ws:List (List Aq)) (os:List Ow):Option Ow:=match Fi W.ss ord ws os with
 |some o=>some o
 |none=>Fh W (CH W.ss ord ws ws)
def Dr (W:Wd) (seen:List (List Aq)) (at_:Int):Str×Int:=if ∀w∈seen,Bt W w=none then("none",at_) else match seen with
 |[]=>("none",at_)
 |w::_=>(match Bt W w with
   |some n=>if ∀v∈seen,Bt W v=some n then("thing",n) else("torn",at_)
   |none=>("torn",at_))
noncomputable def Cb (W:Wd) (ord:A') (ws:List (List Aq)) (os:List Ow) (at_:Int):C'×Option Wt:=match Ea W ord ws os with
 |some o=>(none,some (at_,o.1,o.2))
 |none=>(some (Dr W (CH W.ss ord ws ws) at_),none)
variable {W:Wd}{os:List Ow}{at_:Int}{o:Ow}
def MM{ws:List (List Aq)}(h:Ea W ord ws os=some o):Cb W ord ws os at_=(none,some (at_,o.1,o.2)):=by unfold Cb;rw[h]
def Jc{ws:List (List Aq)}(h:Ea W ord ws os=none):Cb W ord ws os at_=(some (Dr W (CH W.ss ord ws ws) at_),none):=by unfold Cb;rw[h]
def XG{ws:List (List Aq)}(h:Ea W ord ws os=none):Fh W (CH W.ss ord ws ws)=none:=by
 unfold Ea at h
 cases e:Fi W.ss ord ws os with
 |some o=>rw[e] at h;cases h
 |none=>rw[e] at h;exact h
def Q2{a:List (List Aq)}(h:∀w∈a,Bt W w=none):Dr W a at_=(("none" : Str),at_):=Al h
variable {r:List (List Aq)}
def Q3(h:¬∀v∈w::r,Bt W v=none)(k:¬∀v∈w::r,Bt W v=Bt W w):Dr W (w::r) at_=(("torn" : Str),at_):=by
 unfold Dr;rw[An h];dsimp only
 cases e:Bt W w with
 |none=>rfl
 |some n =>
   rw[e] at k;exact An k
def Q4(h:¬∀v∈w::r,Bt W v=none)(k:∀v∈w::r,Bt W v=Bt W w):∃n,Bt W w=some n/\Dr W (w::r) at_=(("thing" : Str),n):=by
 cases e:Bt W w with
 |none=>exact absurd (λv a=>by rw[k v a,e]) h
 |some n =>
   refine⟨n,rfl,?_⟩;unfold Dr;rw[An h];dsimp only;rw[e];exact Al λv a=>by rw[k v a,e]
def XH{a b:Option Int}(h:En a=En b):a=b:=by
 cases a<;>cases b<;>first|rfl|(cases h;rfl)|cases h
def J7{a:Option Int}:En a=.non↔a=none:=⟨λh=>XH (b:=none) h,λh=>by rw[h];rfl⟩
def eW(a b:Option Int):L8 (En a) (En b)=true:=by cases a<;>cases b<;>rfl
def F7:(((l.map λw=>En (Bt W w)).map λv=>decide (v=V.non)).all id=true)↔∀w∈l,Bt W w=none:=by
 simp only[List.all_map,List.all_eq_true,Function.comp,id,decide_eq_true_eq,J7]
def Ij:(((l.map λw=>En (Bt W w)).map λv=>!decide (v=En (Bt W w))).any id=true)↔¬∀v∈l,Bt W v=Bt W w:=by
 simp only[List.any_map,GG,Function.comp,id,Bool.not_eq_true',decide_eq_false_iff_not];refine⟨λ⟨v,a,b⟩h=>b (by rw[h v a]),λh=>?_⟩;refine Classical.byContradiction λn=>h λv c=>?_;exact Classical.byContradiction λm=>n ⟨v,c,λz=>m (XH z)⟩
abbrev Lk:Type:=List AO×List (List Aq)×List (List Aq)
abbrev N6 (l:Lk):Dt:=.tup [.lst (l.1.map DX.D),.lst (l.2.1.map CK.D),.lst (l.2.2.map CK.D)]
structure Cs (W:Wd) (ord:A') (sc st:Int) (x:Str) (l:Lk) (os:List Ow):Prop where
 b:Dq W sc st l.1
 f:N4 W x l.1 l.2.1
 s:l.2.2=CH W.ss ord l.2.1 l.2.1
 o:Pd W l.1 os
abbrev Cc (W:Wd) (n:Int):Str×Int:=match W.gs[n.toNat]? with
 |some p=>C4 W.gs W.as p
 |none=>("no",0)
inductive LU (W:Wd) (inn:Int) (ord:A'):Int->Int->List Str->Int->C'->Option Wt->List Lk->List Int->Prop where
 |stop {sc st:Int} {x:Str} {r:List Str} {at_:Int} {l:Lk} {os:List Ow} {a:C'} {w:Option Wt} (h:Cs W ord sc st x l os) (e:Cb W ord l.2.1 os at_=(a,w)) (n:(∀k,a≠some (("thing" : Str),k))\/r=[]):LU W inn ord sc st (x::r) at_ a w [l] []
 |opn {sc st:Int} {x y:Str} {r:List Str} {at_:Int} {l:Lk} {os:List Ow} {n q:Int} {w:Option Wt} (h:Cs W ord sc st x l os) (e:Cb W ord l.2.1 os at_=(some (("thing" : Str),n),w)) (i:Cc W n=(("open" : Str),q)):LU W inn ord sc st (x::y::r) at_ none (some (at_,[],q)) [l] [n]
 |no {sc st:Int} {x y:Str} {r:List Str} {at_:Int} {l:Lk} {os:List Ow} {n q:Int} {w:Option Wt} (h:Cs W ord sc st x l os) (e:Cb W ord l.2.1 os at_=(some (("thing" : Str),n),w)) (i:Cc W n=(("no" : Str),q)):LU W inn ord sc st (x::y::r) at_ (some ("none",at_+1)) none [l] [n]
 |go {sc st:Int} {x y:Str} {r:List Str} {at_:Int} {l:Lk} {os:List Ow} {n q:Int} {w w':Option Wt} {a:C'} {ls:List Lk} {ts:List Int} (h:Cs W ord sc st x l os) (e:Cb W ord l.2.1 os at_=(some (("thing" : Str),n),w)) (i:Cc W n=(("to" : Str),q)) (k:LU W inn ord q inn (y::r) (at_+1) a w' ls ts):LU W inn ord sc st (x::y::r) at_ a w' (l::ls) (n::ts)
variable {sc st:Int}{x:Str}
def UG(ok:BS W)(e:0<=sc/\sc<W.ss.length)(f:0<=st/\st<W.sts.length){bs:List AO}(c:Dq W sc st bs)(a:w∈D9 W x bs):C5 W.ss w:=by
 have d:=(QP ok e f c a).1;obtain⟨b,g,j,q,h,_,_,rfl⟩:=Uq a;exact⟨b.1,_,rfl,d _ (by simp),rfl⟩
def N7{all:List (List Aq)}(h:w∈CH ss ord all l):w∈l:=(KW.mp h).1
def MN(c:Bd W)(h:C5 W.ss w):FG W.gs.length W.as.length (Cv W.ss w):=by
 obtain⟨v,m,rfl,⟨n,k,s,d,f,a,g⟩,i⟩:=h;rcases g with⟨e,_⟩|⟨_,b⟩;exact absurd (i.symm.trans e) Ut;rw[Q1,XF d f a (AC b)];exact c.tl s (A9 a) _ (EC b)
def XI{l:Addr}{v:List Aq}(h:CV F H l (v++[m])):∃(a:List Addr)(t:Addr),H l=some (.lst (a.map V.ref))/\Bl (a.map V.ref) (-1)=some (.ref t)/\H t=some (.tup (G4 m)):=by
 obtain⟨a,f,b,_⟩:=h;have g:=b.len;rw[AS,CZ] at g;have d:v.length<a.length:=(by lia);have i:=AC d;refine⟨a,a[v.length],f,?_,b.at_ v.length _ m i (by simp)⟩
 have e:a.map V.ref=(a.take v.length).map V.ref++[V.ref a[v.length]]:=by
  have:a=a.take v.length++[a[v.length]]:=by
   have c:=List.take_append_drop v.length a;rw[NH d,List.drop_eq_nil_of_le (by lia)] at c;exact c.symm
  conv=>lhs;rw[this]
  rw[Bk];rfl
 rw[e];exact Up _ _
def UH (F:Addr->Prop) (H:Hp) (v:V):Option Ow->Prop
 |none=>v=.non
 |some o=>∃p l,v=.ref p/\H p=some (.tup [.ref l,.int o.2])/\CV F H l o.1
def FU.way{t:Addr}{p:Ow}(h:FU F H t p):∃l,H t=some (.tup [.ref l,.int p.2])/\CV F H l p.1:=by
 obtain⟨l,a,b,c,d,e⟩:=h;exact⟨l,b,a,c,d,e⟩
variable {α:Type}
def UI{l:List α}{x:α}(h:l[i]?=some x):l.drop i=x::l.drop (i+1):=by
 obtain⟨a,rfl⟩:=AY.mp h;exact NH a
def UJ{ws:List (List Aq)}(h:(ws.any λv=>B7 ss ord v o.1)=false):Fi ss ord ws (o::os)=some o:=by
 unfold Fi;rw[h,An Ct]
def UK{ws:List (List Aq)}(h:(ws.any λv=>B7 ss ord v o.1)=true):Fi ss ord ws (o::os)=Fi ss ord ws os:=by
 conv=>lhs;unfold Fi
 rw[h,Al rfl]
variable {q:Int}
def UL{ws:List (List Aq)}(h:EQ W w=some q):Fh W (w::ws)=some (w,q):=by
 unfold Fh;rw[h]
def Pp{ws:List (List Aq)}(h:EQ W w=none):Fh W (w::ws)=Fh W ws:=by
 conv=>lhs;unfold Fh
 rw[h]
theorem UM{W:Wd}:∀{ws:List (List Aq)},Fh W ws=none->∀w∈ws,EQ W w=none
 |[],_,w,h=>by cases h
 | x :: ws,e,w,h=>by
   cases ex:EQ W x with
   |some q=>rw[UL ex] at e;cases e
   |none =>
     rw[Pp ex] at e;rcases B5.mp h with rfl|h;exact ex;exact UM e w h
def Bj.two{m:Addr}{d e:Dt}(h:Bj F H (.ref m) (.tup [d,e])):∃x y,H m=some (.tup [x,y])/\Bj F H x d/\Bj F H y e:=by
 cases h with
 | tup h t =>
   cases t with
   |cons a t =>
     cases t with
     |cons b t =>
       cases t with
       |nil=>exact⟨_,_,h,a,b⟩
def Bj.ansN(h:Bj F H v (BU none)):v=.non:=by cases h;rfl
def Bj.ansS{p:Str×Int}(h:Bj F H v (BU (some p))):∃t,v=.ref t/\H t=some (.tup [.str p.1,.int p.2]):=by
 have c:Bj F H v (.tup [.str p.1,.int p.2]):=h
 cases v with
 |ref m =>
   obtain⟨x,y,e,a,b⟩:=c.two;cases a;cases b;exact⟨m,rfl,e⟩
 |_=>cases c
def Q5:("none" : Str)≠("thing" : Str):=by decide +kernel
def UN:("torn" : Str)≠("thing" : Str):=by decide +kernel
set_option tactic.hygienic true in
def eX{a:List (List Aq)}{n:Int}(h:Dr W a at_=(("thing" : Str),n)):∃w∈a,Bt W w=some n:=by
 unfold Dr at h;split at h;exact absurd (Bq Prod.fst h) Q5;split at h;exact absurd (Bq Prod.fst h) Q5;rename_i w r _;split at h;rename_i m b;split at h;refine⟨w,Bn,?_⟩;have e:m=n:=Bq Prod.snd h;rw[b,e];exact absurd (Bq Prod.fst h) UN;exact absurd (Bq Prod.fst h) UN
set_option tactic.hygienic true in
def eY(ok:BS W)(b:Bd W)(c:C5 W.ss w){n:Int}(h:Bt W w=some n):0<=n/\n<W.gs.length:=by
 have tk:=MN b c;unfold Bt at h;split at h;rename_i d;have e:=Bz h;rcases tk with⟨_,f⟩|⟨a,_⟩;rw[<-e];exact f;rw[d] at a;exact absurd a (by decide +kernel);split at h;rename_i p g;split at h;rename_i i;rw[<-Bz h];exact ok.an p (A9 g) i;cases h;cases h
def Jd(ok:BS W)(a:Bd W){ws:List (List Aq)}{n:Int}{w:Option Wt}(b:∀w∈ws,C5 W.ss w)(h:Cb W ord ws os at_=(some (("thing" : Str),n),w)):0<=n/\n<W.gs.length:=by
 unfold Cb at h;split at h;cases Bq Prod.fst h;obtain⟨w,c,d⟩:=eX (Bz (Bq Prod.fst h));exact eY ok a (b w (N7 c)) d
def e9(ths:List (Str×Int))(as:List (C'))(q:Int):(DS ths as q).1=("to" : Str)\/(DS ths as q).1=("open" : Str)\/(DS ths as q).1=("no" : Str):=by
 unfold DS;split;split;split;split;exact .inl rfl;exact .inr (.inr rfl);exact .inr (.inr rfl);exact .inr (.inr rfl);exact .inr (.inl rfl);exact .inr (.inr rfl)
def fA(ths:List (Str×Int))(as:List (C'))(p:Str×Int):(C4 ths as p).1=("to" : Str)\/(C4 ths as p).1=("open" : Str)\/(C4 ths as p).1=("no" : Str):=by
 unfold C4;split;exact .inl rfl;split;exact e9 ths as p.2;exact .inr (.inr rfl)
structure LC (K:Ah) (F:Addr->Prop) (H:Hp) (nt A t:Addr) (W:Wd) (qs:List Qu) (inn:Int) (ord:A'):Prop where
 net:∃(S T R:Addr)(us Gs Es ts qt:List Addr),H nt=some (.tup [.ref S,.ref T,.ref R])/\FH H S T R us Gs Es ts qt W.ss W.gs qs
 ans:Hl K H A W.as
 tab:F1 K F H t W.sts inn ord
structure Je (W:Wd) (qs:List Qu) (inn:Int) (ord:A'):Prop where
 ok:BS W
 sm:Bd W
 ol:ord.length<=40
 irr:∀x,(x,x)∉ord
 inn:0<=inn/\inn<W.sts.length
 q:∀q∈qs,(0<=q.1/\q.1<W.ss.length)/\(0<=q.2.1/\q.2.1<W.sts.length)/\1<=q.2.2.length/\q.2.2.length<=8
def LC.same{K:Ah}{F:Addr->Prop}{H H':Hp}{a A t:Addr}{W:Wd}{qs:List Qu}{inn:Int}{ord:A'}(e:Ac H H')(h:LC K F H a A t W qs inn ord):LC K F H' a A t W qs inn ord:=by
 obtain⟨⟨S,T,R,d,f,g,i,j,k,l⟩,b,c⟩:=h;exact⟨⟨S,T,R,d,f,g,i,j,e _ _ k,l.same e⟩,b.same e,c.same e⟩
variable {inn:Int}
def LC.caseH{K:Ah}{a A t:Addr}{qs:List Qu}(h:LC K F H a A t W qs inn ord):Bw K H a A t W:=by
 obtain⟨⟨S,T,R,d,e,f,g,i,j,k⟩,b,c⟩:=h;exact⟨⟨S,T,R,d,e,f,g,i,qs,j,k⟩,b,c.caseT⟩
variable {a:C'}{ls:List Lk}{ts:List Int}
def MO{p:List Str}{w:Option Wt}(h:LU W inn ord sc st p at_ a w ls ts):ls.length<=p.length:=by
 induction h with
 |stop=>simp
 |opn=>simp
 |no=>simp
 |go _ _ _ _ b=>simpa using b
def Dn:Nat->Dt->Prop
 |0,_=>False
 |_+1,.non=>True
 |_+1,.bl _=>False
 |_+1,.int _=>True
 |_+1,.str _=>True
 |n+1,.tup l=>∀d∈l,Dn n d
 |n+1,.lst l=>∀d∈l,Dn n d
structure FL (W:Wd):Prop where
 st:∀s∈W.ss,s.1.length<=8
 kst:∀s∈W.ss,∀p∈s.1,EY W.ss.length W.as.length p
 kth:∀p∈W.gs,F2 W.ss.length W.as.length p
 an:∀p,some p∈W.as->p.1=("thing" : Str)->0<=p.2/\p.2<W.gs.length
 go:∀s∈W.sts,∀p∈s.1,0<=p.2/\p.2<W.sts.length
def XJ(h:FL W){k:Str×Int}(c:k∈W.gs)(b:k.1=("part" : Str)):0<=k.2/\k.2<W.ss.length:=by
 rcases h.kth k c with⟨a,_⟩|⟨_,d⟩|⟨a,_⟩;rw[b] at a;exact absurd a (by decide +kernel);exact d;rw[b] at a;exact absurd a (by decide +kernel)
set_option tactic.hygienic true in
def fB(h:FL W){g:Str×Int}(e:DS W.gs W.as q=g)(a:g.1=("to" : Str)):0<=g.2/\g.2<W.ss.length:=by
 unfold DS at e;split at e;split at e;split at e;rename_i k b;split at e;rename_i c;subst e;exact XJ (k:=k) h (A9 b) c;subst e;exact absurd a Gj;subst e;exact absurd a Gj;subst e;exact absurd a Gj;subst e;exact absurd a QL;subst e;exact absurd a Gj
set_option tactic.hygienic true in
def fC(h:FL W){p:Str×Int}(b:p∈W.gs){g:Str×Int}(e:C4 W.gs W.as p=g)(a:g.1=("to" : Str)):0<=g.2/\g.2<W.ss.length:=by
 unfold C4 at e;split at e;rename_i c;subst e;exact XJ (k:=p) h b c;split at e;exact fB h e a;subst e;exact absurd a Gj
set_option tactic.hygienic true in
def fE(h:FL W){s:Bh}(c:s∈W.ss){p:B9}(d:p∈s.1){g:Str×Int}(e:BJ W.gs W.as p=g)(a:g.1=("to" : Str)):0<=g.2/\g.2<W.ss.length:=by
 unfold BJ at e;split at e;rename_i j;subst e;rcases h.kst s c p d with⟨_,f⟩|⟨b,_⟩;exact f;rw[j] at b;exact absurd b (by decide +kernel);split at e;split at e;split at e;rename_i k i;exact fC h (A9 i) e a;subst e;exact absurd a Gj;subst e;exact absurd a Gj;subst e;exact absurd a QL;subst e;exact absurd a Gj
def Cg.kid0(ok:FL W){c:AO}(h:Cg W b)(k:c∈CC W b):Cg W c:=by
 obtain⟨r,e,g,i,rfl⟩:=AI.mp k;have f:=Xe e;obtain⟨j,p,a,l,m,rfl⟩:=MD e;obtain⟨s,n,o⟩:=Xc (A9 l);refine⟨?_,?_,?_⟩;rw[f,List.nodup_append]
 exact⟨h.nd,by simp,λx d y q=>by
  rw[AW.mp q]
  exact λz=>i (z▸d)⟩
 rw[f];intro x d;rcases BI.mp d with d|d;exact h.rng x d;rw[AW.mp d];exact fE ok n o rfl g;obtain⟨t,u,v⟩:=Xd (Um m);exact ok.go t u _ v
def AQ.ok0(ok:FL W)(d:0<=sc/\sc<W.ss.length)(e:0<=st/\st<W.sts.length)(h:AQ W sc st b):Cg W b:=by
 induction h with
 |root=>exact⟨by simp[AU],λx a=>by simp[AU] at a;rw[a];exact d,e⟩
 |kid _ k c=>exact c.kid0 ok k
def EZ (W:Wd) (sc st:Int):Nat->List AO
 |0=>[([],sc,st)]
 |d+1=>(EZ W sc st d).flatMap (CC W)
def fF(h:AQ W sc st b):b∈EZ W sc st b.1.length:=by
 induction h with
 |root=>exact Bn
 |@kid a c h k d =>
   obtain⟨r,_,_,_,rfl⟩:=AI.mp k;show _∈EZ W sc st (a.1++[r.1]).length;rw[AS,CZ];exact List.mem_flatMap.mpr ⟨a,d,k⟩
variable {B:Nat}
set_option tactic.hygienic true in
def XM(h:∀s∈W.ss,s.1.length<=B)(sc:Int):(BV W sc).length<=B:=by
 unfold BV;split;rename_i s a;exact h s (A9 a);exact Di _
theorem XN{W:Wd}{B:Nat}(h:∀s∈W.ss,s.1.length<=B)(sc st:Int):∀d,(EZ W sc st d).length<=B ^ d
 |0=>by show 1<=_;rw[Nat.pow_zero];exact AG _
 |d+1=>by
   have a:((EZ W sc st d).flatMap (CC W)).length<=(EZ W sc st d).length*B:=Ur _ λb=>Ek (Xa W b) (XM h _);have c:=Nat.mul_le_mul_right B (XN h sc st d);rw[Nat.pow_succ];exact Ek a c
def J8 (B:Nat):Nat->Nat
 |0=>0
 |n+1=>J8 B n+B ^ n
theorem XO{α:Type} [DecidableEq α]:∀{F l:List α},F.Nodup->(∀x∈F,x∈l)->F.length<=l.length
 |[],_,_,_=>Di _
 |x::F,l,c,h=>by
   have a:=h x Bn;obtain⟨d,f⟩:=Gd.mp c
   have:=XO (l:=l.erase x) f λy b=>by
    have g:y≠x:=λe=>d (e▸b);exact(List.mem_erase_of_ne g).mpr (h y (B6 _ b))
   rw[List.length_erase_of_mem a] at this;have i:0<l.length:=List.length_pos_of_mem a;rw[Ej];lia
theorem XQ{W:Wd}{B:Nat}(h:∀s∈W.ss,s.1.length<=B)(sc st:Int):∀n,((List.range n).flatMap (EZ W sc st)).length<=J8 B n
 |0=>AG _
 |n+1=>by
   rw[List.range_succ,List.flatMap_append,AS];have a:=XQ h sc st n;have b:=XN h sc st n;have c:([n].flatMap (EZ W sc st)).length=(EZ W sc st n).length:=(by simp);show _<=J8 B n+B ^ n;lia
def Ik(ok:FL W)(h:∀s∈W.ss,s.1.length<=B)(sc st:Int)(F:List AO)(g:0<=sc/\sc<W.ss.length)(i:0<=st/\st<W.sts.length)(e:F.Nodup)(a:∀b∈F,AQ W sc st b):F.length<=J8 B W.ss.length:=by
 refine Ek (XO (l:=(List.range W.ss.length).flatMap (EZ W sc st)) e λb c=>?_) (XQ h sc st _);have d:=(a b c).ok0 ok g i;have f:=HZ W.ss.length (AU b) d.nd d.rng;rw[show(AU b).length=b.1.length+1 by unfold AU;simp] at f;exact List.mem_flatMap.mpr ⟨b.1.length,List.mem_range.mpr (by lia),fF (a b c)⟩
theorem UO{α:Type}{f:AO->List α}{k:Nat}:∀(bs:List AO),(∀b∈bs,(f b).length<=k)->(bs.flatMap f).length<=bs.length*k
 |[],_=>by simp
 |b::bs,h=>by
   rw[List.flatMap_cons,AS,Ej,Nat.succ_mul];have:=h b Bn;have:=UO bs λc a=>h c (B6 _ a);lia
set_option tactic.hygienic true in
def fG(ok:FL W)(h:∀s∈W.ss,s.1.length<=B)(e:W.ss.length<=100)(i:J8 B W.ss.length*max 2 B<=62)(k:∀s∈W.ss,s.2.length<=2)(l:∀s∈W.ss,∀p∈s.2,FG W.gs.length W.as.length p):BS W/\Bd W:=by
 have q:J8 B W.ss.length*2<=62:=Ek (Nat.mul_le_mul_left _ (Nat.le_max_left _ _)) i;have r:J8 B W.ss.length*B<=62:=Ek (Nat.mul_le_mul_left _ (Nat.le_max_right _ _)) i;have j:∀(sc st:Int)(bs:List AO),(0<=sc/\sc<W.ss.length)->(0<=st/\st<W.sts.length)->Dq W sc st bs->bs.length<=J8 B W.ss.length:=λsc st bs a c d=>Ik ok h sc st bs a c d.nd λb f=>(d.mem b).mp f;refine⟨⟨e,ok.st,ok.kst,ok.kth,ok.an,ok.go,λsc st F a c m n=>?_⟩,⟨l,λx sc st bs a c d=>?_,λsc st bs a c d=>?_⟩⟩;have:=Ik ok h sc st F a c m n;lia;have g:=j sc st bs a c d
 have o:(D9 W x bs).length<=bs.length*2:=UO _ λb f=>Ek (Xi W b x _ 0) (by
  unfold Gy;split;rename_i s e;exact k s (A9 e)
  exact Di _)
 have:=Nat.mul_le_mul_right 2 g;lia;have g:=j sc st bs a c d;have o:(F4 W bs).length<=bs.length*B:=UO _ λb f=>Ek (List.length_filterMap_le _ _) (Ek (MC _ _ _ _ _) (XM h _));have:=Nat.mul_le_mul_right B g;lia
variable {us:List Ow}
def Q6{l m:Lk}(h:Cs W ord sc st x l os)(k:Cs W ord sc st x m us):l=m/\os=us:=by
 have a:=h.b.uniq k.b;have b:=h.f;have c:=h.o;rw[a] at b c;have d:=b.uniq k.f;have e:l.2.2=m.2.2:=(by rw[h.s,k.s,d]);exact⟨Prod.ext a (Prod.ext d e),c.uniq k.o⟩
def LU.inv{r:List Str}{w:Option Wt}(k:LU W inn ord sc st (x::r) at_ a w ls ts):∃l os,Cs W ord sc st x l os /\
 (∀b d,Cb W ord l.2.1 os at_=(b,d)->((∀k,b≠some (("thing" : Str),k))\/r=[])->b=a/\d=w/\ls=[l]/\ts=[]) /\
 ∀n d,Cb W ord l.2.1 os at_=(some (("thing" : Str),n),d)->r≠[]->∀s q,Cc W n=(s,q)->(s=("open" : Str)->a=none/\w=some (at_,[],q)/\ls=[l]/\ts=[n])/\(s=("no" : Str)->a=some (("none" : Str),at_+1)/\w=none/\ls=[l]/\ts=[n])/\(s=("to" : Str)->∃p t,LU W inn ord q inn r (at_+1) a w p t/\ls=l::p/\ts=n::t):=by
 have g:("open" : Str)≠("no" : Str):=(by decide +kernel);have j:("open" : Str)≠("to" : Str):=(by decide +kernel);have o:("no" : Str)≠("to" : Str):=(by decide +kernel)
 cases k with
 |stop h e n=>exact⟨_,_,h,λb d c _=>(by rw[e] at c;cases c;exact⟨rfl,rfl,rfl,rfl⟩),λm d c u=>(by rw[e] at c;cases c;exact(n.elim (λn=>n _ rfl) u).elim)⟩
 |opn h e i=>exact⟨_,_,h,λb d c n=>(by rw[e] at c;cases c;exact(n.elim (λn=>n _ rfl) nofun).elim),λm d c _ s q f=>(by rw[e] at c;cases c;rw[i] at f;cases f;exact⟨λ_=>⟨rfl,rfl,rfl,rfl⟩,λz=>absurd z g,λz=>absurd z j⟩)⟩
 |no h e i=>exact⟨_,_,h,λb d c n=>(by rw[e] at c;cases c;exact(n.elim (λn=>n _ rfl) nofun).elim),λm d c _ s q f=>(by rw[e] at c;cases c;rw[i] at f;cases f;exact⟨λz=>absurd z.symm g,λ_=>⟨rfl,rfl,rfl,rfl⟩,λz=>absurd z o⟩)⟩
 |go h e i k=>exact⟨_,_,h,λb d c n=>(by rw[e] at c;cases c;exact(n.elim (λn=>n _ rfl) nofun).elim),λm d c _ s q f=>(by rw[e] at c;cases c;rw[i] at f;cases f;exact⟨λz=>absurd z.symm j,λz=>absurd z.symm o,λ_=>⟨_,_,k,rfl,rfl⟩⟩)⟩
def UP{p:List Str}{w:Option Wt}(h:LU W inn ord sc st p at_ a w ls ts):∀{d:C'}{f:Option Wt}{g:List Lk}{j:List Int},LU W inn ord sc st p at_ d f g j->a=d/\w=f/\ls=g/\ts=j:=by
 induction h with
 |stop h e n =>
   intro d f g j k;obtain⟨l,os,b,c,_⟩:=k.inv;obtain⟨rfl,rfl⟩:=Q6 h b;obtain⟨rfl,rfl,rfl,rfl⟩:=c _ _ e n;exact⟨rfl,rfl,rfl,rfl⟩
 |opn h e i =>
   intro d f g j k;obtain⟨l,os,b,_,c⟩:=k.inv;obtain⟨rfl,rfl⟩:=Q6 h b;obtain⟨rfl,rfl,rfl,rfl⟩:=(c _ _ e nofun _ _ i).1 rfl;exact⟨rfl,rfl,rfl,rfl⟩
 |no h e i =>
   intro d f g j k;obtain⟨l,os,b,_,c⟩:=k.inv;obtain⟨rfl,rfl⟩:=Q6 h b;obtain⟨rfl,rfl,rfl,rfl⟩:=(c _ _ e nofun _ _ i).2.1 rfl;exact⟨rfl,rfl,rfl,rfl⟩
 |go h e i u m =>
   intro d f g j k;obtain⟨l,os,b,_,c⟩:=k.inv;obtain⟨rfl,rfl⟩:=Q6 h b;obtain⟨_,_,o,rfl,rfl⟩:=(c _ _ e nofun _ _ i).2.2 rfl;obtain⟨q,r,s,t⟩:=m o;exact⟨q,r,by rw[s],by rw[t]⟩
section
variable {ss:List Bh} {ord:A'}
def Il{p:Prop}(h:dec p=true):p:=by
 by_cases e:p;exact e;rw[FS e] at h;cases h
theorem XR(irr:∀x,(x,x)∉ord)(tr:∀x y z,(x,y)∈ord->(y,z)∈ord->(x,z)∈ord):∀(a b c:List Aq),B7 ss ord a b=true->B7 ss ord b c=true->B7 ss ord a c=true
 |x::s,y::t,z::u,d,f=>by
   by_cases h:x=y;subst h;rw[Pe] at d;by_cases g:x=z;subst g;rw[Pe] at f ⊢;exact XR irr tr s t u d f;rw[Li ss ord _ _ g] at f ⊢;exact f;rw[Li ss ord _ _ h] at d;by_cases g:y=z;subst g;rw[Li ss ord _ _ h];exact d;rw[Li ss ord _ _ g] at f;have i:=tr _ _ _ (Il d) (Il f);have j:x≠z:=λe=>irr _ (by rw[<-e] at i;exact i);rw[Li ss ord _ _ j];exact Ey i
 |[],_,_,d,_=>by rw[Lj ss ord (.inl rfl)] at d;cases d
 |_::_,[],_,d,_=>by rw[Lj ss ord (.inr rfl)] at d;cases d
 |_::_,_::_,[],_,f=>by rw[Lj ss ord (.inr rfl)] at f;cases f
end
structure Later (as as':List (C')):Prop where
 len:as'.length=as.length
 old:∀(n:Nat)(p:Str×Int),as[n]?=some (some p)->as'[n]?=some (some p)
section
variable {ths:List (Str×Int)} {as as':List (C')}
def Q7(h:Later as as')(e:as[n]?=none):as'[n]?=none:=by
 rw[List.getElem?_eq_none_iff] at e ⊢;rw[h.len];exact e
def fH(h:Later as as')(a:(DS ths as q).1≠("open" : Str)):DS ths as' q=DS ths as q:=by
 unfold DS at a ⊢
 cases e:as[q.toNat]? with
 |none=>rw[Q7 h e]
 |some o =>
   cases o with
   |none=>rw[e] at a;exact absurd rfl a
   |some p=>rw[h.old _ _ e]
def XS(h:Later as as'){k:Str×Int}(c:(C4 ths as k).1≠("open" : Str)):C4 ths as' k=C4 ths as k:=by
 unfold C4 at c ⊢;by_cases a:k.1=("part" : Str);rw[Al a,Al a];rw[An a] at c;rw[An a,An a];by_cases b:k.1=("sort" : Str);rw[Al b] at c;rw[Al b,Al b];exact fH h c;rw[An b,An b]
def UQ(h:Later as as'){p:B9}(a:(BJ ths as p).1≠("open" : Str)):BJ ths as' p=BJ ths as p:=by
 unfold BJ at a ⊢;by_cases b:p.2.1=("to" : Str);rw[Al b,Al b];rw[An b] at a;rw[An b,An b]
 cases e:as[p.2.2.toNat]? with
 |none=>rw[Q7 h e]
 |some o =>
   cases o with
   |none=>rw[e] at a;exact absurd rfl a
   |some w =>
     rw[h.old _ _ e];rw[e] at a;dsimp only at a ⊢;by_cases c:w.1=("thing" : Str);rw[Al c] at a;rw[Al c,Al c]
     cases d:ths[w.2.toNat]? with
     |none=>rfl
     |some k=>rw[d] at a;exact XS h a
     rw[An c,An c]
def fI(h:Later as as'){p:B9}(a:(BJ ths as' p).1=("open" : Str)):(BJ ths as p).1=("open" : Str):=by
 by_cases e:(BJ ths as p).1=("open" : Str);exact e;rw[UQ h e] at a;exact a
end
abbrev Wd.late (W:Wd) (as':List (C')):Wd:=⟨W.ss,W.gs,as',W.sts⟩
def Jf (W:Wd) (sc st:Int) (o:List Aq):Prop:=∃b,AQ W sc st b/\∃(j:Nat)(p:B9)(a:Int),(BV W b.2.1)[j]?=some p/\Ez (D8 W b.2.2) p.1=some a/\(BJ W.gs W.as p).1=("open" : Str)/\o=b.1++[(b.2.1,("step" : Str),(j:Int))]
section
variable {W:Wd} {as':List (C')} {sc st:Int}
def J9:("to" : Str)≠("open" : Str):=by decide +kernel
def UR{j:Nat}{p:B9}{a:Int}{s t:Int}(b:(BV W s)[j]?=some p)(c:Ez (D8 W t) p.1=some a):((s,("step" : Str),(j:Int)),BJ W.gs W.as p,a)∈GI W s t:=
 BR.mpr ⟨j,p,a,b,c,by rw[Nat.zero_add]⟩
def fJ(h:Later W.as as')(f:AQ W sc st b):AQ (W.late as') sc st b:=by
 induction f with
 |root=>exact .root
 |@kid b c _ k g =>
   obtain⟨r,i,d,l,rfl⟩:=AI.mp k;obtain⟨j,p,a,m,n,rfl⟩:=MD i;have e:=UQ h (p:=p) (ths:=W.gs) (by rw[show(BJ W.gs W.as p).1=_ from d];exact J9);refine .kid g (AI.mpr ⟨_,UR (W:=W.late as') m n,?_⟩);show(BJ W.gs as' p).1=_/\(BJ W.gs as' p).2∉_/\_=(_,(BJ W.gs as' p).2,_);rw[e];exact⟨d,l,rfl⟩
def XT(h:Later W.as as')(m:AQ (W.late as') sc st b):AQ W sc st b\/∃o,Jf W sc st o/\o <+: b.1:=by
 induction m with
 |root=>exact .inl .root
 |@kid b c _ k d =>
   obtain⟨r,n,q,s,rfl⟩:=AI.mp k;obtain⟨j,p,a,f,g,rfl⟩:=MD n;rcases d with d|⟨o,t,u⟩;by_cases e:(BJ W.gs W.as p).1=("open" : Str);exact .inr ⟨_,⟨b,d,j,p,a,f,g,e,rfl⟩,List.prefix_refl _⟩;have v:=UQ h e;refine .inl (.kid d (AI.mpr ⟨_,UR f g,?_⟩));show(BJ W.gs W.as p).1=_/\(BJ W.gs W.as p).2∉_/\(_,(BJ W.gs as' p).2,_)=(_,(BJ W.gs W.as p).2,_);have i:(BJ W.gs as' p).1=("to" : Str):=q;have l:(BJ W.gs as' p).2∉AU b:=s;rw[v] at i l ⊢;exact⟨i,l,rfl⟩;exact .inr ⟨o,t,u.trans (IR _ _)⟩
def fK(h:Later W.as as'){o:List Aq}(e:Jf (W.late as') sc st o):∃c,Jf W sc st c/\c <+: o:=by
 obtain⟨b,d,j,p,a,f,g,i,rfl⟩:=e;rcases XT h d with d|⟨c,k,l⟩;exact⟨_,⟨b,d,j,p,a,f,g,fI h i,rfl⟩,List.prefix_refl _⟩;exact⟨c,k,l.trans (IR _ _)⟩
def Ka (W:Wd) (sc st:Int) (x:Str) (w:List Aq):Prop:=∃b,AQ W sc st b/\∃(j:Nat)(q:DT),(Gy W b.2.1)[j]?=some q/\q.2.1=x/\q.1∈Ho W b.2.2/\w=b.1++[(b.2.1,("told" : Str),(j:Int))]
def XU(h:Later W.as as')(a:Ka W sc st x w):Ka (W.late as') sc st x w:=by
 obtain⟨b,c,r⟩:=a;exact⟨b,fJ h c,r⟩
def fL(h:Later W.as as')(c:Ka (W.late as') sc st x w):Ka W sc st x w\/∃o,Jf W sc st o/\o <+: w:=by
 obtain⟨b,a,j,q,d,e,f,rfl⟩:=c;rcases XT h a with a|⟨g,i,k⟩;exact .inl ⟨b,a,j,q,d,e,f,rfl⟩;exact .inr ⟨g,i,k.trans (IR _ _)⟩
theorem US{ss:List Bh}{ord:A'}:∀{f o w:List Aq},B7 ss ord f o=true->o <+: w->B7 ss ord f w=true
 |x::f,y::o,w,h,a=>by
   obtain⟨u,rfl⟩:=a;by_cases e:x=y;subst e;rw[Pe] at h;show B7 ss ord (x::f) (x::(o++u))=true;rw[Pe];exact US h (IR o u);rw[Li ss ord _ _ e] at h;show B7 ss ord (x::f) (y::(o++u))=true;rw[Li ss ord _ _ e];exact h
 |[],_,_,h,_=>by rw[Lj ss ord (.inl rfl)] at h;cases h
 |_::_,[],_,h,_=>by rw[Lj ss ord (.inr rfl)] at h;cases h
def fM(irr:∀x,(x,x)∉ord)(tr:∀x y z,(x,y)∈ord->(y,z)∈ord->(x,z)∈ord)(h:Later W.as as'){ws i:List (List Aq)}
 (n:∀w,w∈ws↔Ka W sc st x w) (p:∀w,w∈i↔Ka (W.late as') sc st x w) (s:∀o,Jf W sc st o->∃f∈ws,B7 ss ord f o=true) (w:List Aq):w∈CH ss ord i i↔w∈CH ss ord ws ws:=by
 have sub:∀v∈ws,v∈i:=λv m=>(p v).mpr (XU h ((n v).mp m))
 have r:∀v∈i,v∈ws\/∃f∈ws,B7 ss ord f v=true:=λv m=>by
  rcases fL h ((p v).mp m) with e|⟨o,j,c⟩;exact .inl ((n v).mpr e);obtain⟨f,k,g⟩:=s o j;exact .inr ⟨f,k,US g c⟩
 have q:∀(l:List (List Aq))v,v∈CH ss ord l l↔v∈l/\∀u∈l,B7 ss ord u v=false:=λl v=>by
  unfold CH;rw[KW,Bool.not_eq_true',List.any_eq_false];exact⟨λ⟨a,b⟩=>⟨a,λu d=>by have:=b u d;simpa using this⟩,λ⟨a,b⟩=>⟨a,λu d=>by rw[b u d];simp⟩⟩
 rw[q,q];constructor;rintro⟨j,c⟩;rcases r w j with e|⟨f,k,g⟩;exact⟨e,λu d=>c u (sub u d)⟩;rw[c f (sub f k)] at g;cases g;rintro⟨j,c⟩;refine⟨sub w j,λu d=>?_⟩;rcases r u d with e|⟨f,k,g⟩;exact c u e
 cases e:B7 ss ord u w with
 |false=>rfl
 |true =>
   have:=XR irr tr f u w g e;rw[c f k] at this;cases this
def fN(h:Later W.as as'){ws a:List (List Aq)}(sub:∀v∈ws,v∈a)(b:∀o,Jf W sc st o->∃f∈ws,B7 ss ord f o=true):∀o,Jf (W.late as') sc st o->∃f∈a,B7 ss ord f o=true:=λo c=>by
 obtain⟨d,e,g⟩:=fK h c;obtain⟨f,i,j⟩:=b d e;exact⟨f,sub f i,US j g⟩
end
section
variable {W:Wd} {sc st:Int}
def Kb(h:AQ W sc st b)(e:b.1=[]):b=([],sc,st):=by
 cases h with
 |root=>rfl
 |kid _ k =>
   obtain⟨r,_,_,_,rfl⟩:=AI.mp k;simp at e
def Kc(h:AQ W sc st b):∀{c:AO},AQ W sc st c->b.1=c.1->b=c:=by
 induction h with
 |root=>intro c a e;exact(Kb a e.symm).symm
 |@kid b p q k i =>
   intro c a e;obtain⟨r,j,_,_,rfl⟩:=AI.mp k
   cases a with
   |root=>simp at e
   |@kid d _ hd l =>
     obtain⟨f,o,_,_,rfl⟩:=AI.mp l;have g:b.1++[r.1]=d.1++[f.1]:=e;have m:=List.append_inj_left' g rfl;have n:r.1=f.1:=(by simpa using List.append_inj_right' g rfl);have:=i hd m;subst this;rw[W9 j o n]
theorem XV{b:AO}{x:Str}:∀{l:List DT}{i j:Nat}{q:DT},l[j]?=some q->q.2.1=x->q.1∈Ho W b.2.2->b.1++[(b.2.1,("told" : Str),((i+j:Nat):Int))]∈DV W b x l i
 |p::l,i,0,q,a,c,d=>by
   cases a;refine Eu _ ?_;unfold FI;rw[Al ⟨c,d⟩];exact AW.mpr rfl
 |p::l,i,j+1,q,a,c,d=>by
   refine Du _ ?_;rw[show i+(j+1)=i+1+j by lia];exact XV (by simpa using a) c d
def XW{bs:List AO}(c:∀b,b∈bs↔AQ W sc st b)(w:List Aq):w∈D9 W x bs↔Ka W sc st x w:=by
 constructor;intro h;obtain⟨b,a,r⟩:=Uq h;exact⟨b,(c b).mp a,r⟩;rintro⟨b,a,j,q,d,e,f,rfl⟩;refine List.mem_flatMap.mpr ⟨b,(c b).mpr a,?_⟩;have:=XV (b:=b) (i:=0) d e f;rw[Nat.zero_add] at this;exact this
theorem XX{b:AO}{x:Str}:∀{l:List DT}{i:Nat},(DV W b x l i).Nodup
 |[],_=>List.nodup_nil
 |q::l,i=>by
   refine List.nodup_append.mpr ⟨?_,XX,λv hv c a e=>?_⟩;unfold FI;split;exact List.pairwise_singleton _ _;exact List.nodup_nil;subst e;unfold FI at hv;split at hv;rw[AW.mp hv] at a;obtain⟨j,d,_,_,_,e⟩:=Pc a;have:=List.append_inj_right' e rfl;simp at this;lia;cases hv
theorem XY{α β:Type}{f:α->List β}:∀{l:List α},(∀a∈l,(f a).Nodup)->l.Pairwise (λa b=>∀x∈f a,x∉f b)->(l.flatMap f).Nodup
 |[],_,_=>List.nodup_nil
 |a::l,g,h=>by
   rw[List.flatMap_cons];obtain⟨i,j⟩:=List.pairwise_cons.mp h;refine List.nodup_append.mpr ⟨g a Bn,XY (λb c=>g b (B6 _ c)) j,λx k y d e=>?_⟩;subst e;obtain⟨b,c,d⟩:=List.mem_flatMap.mp d;exact i b c x k d
def XZ{bs:List AO}(c:Dq W sc st bs):(D9 W x bs).Nodup:=by
 refine XY (λb _=>XX) ?_;refine c.nd.imp_of_mem λ{a b}d e i v f k=>?_;obtain⟨j,q,_,_,_,g⟩:=Pc f;obtain⟨l,m,_,_,_,h⟩:=Pc k;exact i (Kc ((c.mem a).mp d) ((c.mem b).mp e) (List.append_inj_left' (g.symm.trans h) rfl))
def X0{bs:List AO}(h:Dq W sc st bs)(o:List Aq):Jf W sc st o↔∃r∈F4 W bs,r.1=o:=by
 constructor;rintro⟨b,c,j,p,a,d,f,g,rfl⟩;refine⟨(_,(BJ W.gs W.as p).2),List.mem_flatMap.mpr ⟨b,(h.mem b).mpr c,List.mem_filterMap.mpr ⟨_,UR d f,?_⟩⟩,rfl⟩;unfold ow;exact Al g;rintro⟨r,i,rfl⟩;obtain⟨b,c,j,p,a,d,f,g,e⟩:=Us i;exact⟨b,(h.mem b).mp c,j,p,a,d,f,g,by rw[e]⟩
def Kd{ws a:List (List Aq)}(b:ws.Nodup)(c:a.Nodup)(d:ws.Pairwise CK.O.kle)(e:a.Pairwise CK.O.kle)(h:∀w,w∈CH ss ord a a↔w∈CH ss ord ws ws):CH ss ord a a=CH ss ord ws ws:=
 Mv (O:=CK.O) ((List.perm_ext_iff_of_nodup (c.filter _) (b.filter _)).mpr h) (e.filter _) (d.filter _)
end
theorem DZ{ss:List Bh}{ord:A'}{ws:List (List Aq)}:∀{os:List Ow},Fi ss ord ws os=none↔∀o∈os,(ws.any λv=>B7 ss ord v o.1)=true
 |[]=>⟨λ_ o b=>(by cases b),λ_=>rfl⟩
 | o :: os=>by
   cases e:ws.any λv=>B7 ss ord v o.1 with
   |true =>
     rw[UK e,DZ];refine⟨λh p a=>?_,λh p a=>h p (B6 _ a)⟩;rcases B5.mp a with rfl|a;exact e;exact h p a
   |false =>
     rw[UJ e];refine⟨λh=>(by cases h),λh=>?_⟩;have:=h o Bn;rw[e] at this;cases this
theorem X1{W:Wd}:∀{ws:List (List Aq)},(∀w∈ws,EQ W w=none)->Fh W ws=none
 |[],_=>rfl
 |w::ws,h=>by rw[Pp (h w Bn)];exact X1 λv hv=>h v (B6 _ hv)
def fO{ws:List (List Aq)}(h:Ea W ord ws os=none):Fi W.ss ord ws os=none:=by
 unfold Ea at h
 cases e:Fi W.ss ord ws os with
 |some o=>rw[e] at h;cases h
 |none=>rfl
def fP{ws:List (List Aq)}(a:Fi W.ss ord ws os=none)(b:Fh W (CH W.ss ord ws ws)=none):Ea W ord ws os=none:=by
 unfold Ea;rw[a];exact b
variable {as as':List (C')}
def fQ(h:Later as as')(e:as'[n]?=some none):as[n]?=some none:=by
 cases c:as[n]? with
 |none=>rw[Q7 h c] at e;cases e
 |some o =>
   cases o with
   |none=>rfl
   |some p=>rw[h.old n p c] at e;cases e
section
variable {W:Wd} {as':List (C')} {ord:A'} {sc st:Int}
def fR(h:Later W.as as')(e:EQ W w=none):EQ (W.late as') w=none:=by
 unfold EQ at e ⊢;refine An λc=>?_;rw[Al ⟨c.1,fQ h c.2⟩] at e;cases e
def fS(h:Later W.as as')(d:Bd W)(f:C5 W.ss w)(e:EQ W w=none):Bt (W.late as') w=Bt W w:=by
 unfold Bt
 show(if(Cv W.ss w).2.2.1=("thing" : Str) then some (Cv W.ss w).2.2.2 else match as'[(Cv W.ss w).2.2.2.toNat]? with
  |some (some p)=>if p.1=("thing" : Str) then some p.2 else none
  |_=>none)=_
 rcases MN d f with⟨a,_⟩|⟨a,_⟩;rw[Al a,Al a];by_cases b:(Cv W.ss w).2.2.1=("thing" : Str);rw[Al b,Al b];rw[An b,An b];unfold EQ at e
 cases c:W.as[(Cv W.ss w).2.2.2.toNat]? with
 |none=>rw[Q7 h c]
 |some o =>
   cases o with
   |none=>rw[Al ⟨a,c⟩] at e;cases e
   |some p=>rw[h.old _ p c]
def fT(irr:∀x,(x,x)∉ord)(tr:∀x y z,(x,y)∈ord->(y,z)∈ord->(x,z)∈ord)(h:Later W.as as')(ok:BS W)(q:Bd W)(A:0<=sc/\sc<W.ss.length)(B:0<=st/\st<W.sts.length){l m:Lk}(a:Cs W ord sc st x l os)(b:Cs (W.late as') ord sc st x m us)(g:Ea W ord l.2.1 os=none) :
 m.2.2=l.2.2/\Ea (W.late as') ord m.2.1 us=none/\∀w∈l.2.2,Bt (W.late as') w=Bt W w:=by
 have i:∀w,w∈l.2.1↔Ka W sc st x w:=λw=>a.f.perm.mem_iff.trans (XW a.b.mem w);have j:∀w,w∈m.2.1↔Ka (W.late as') sc st x w:=λw=>b.f.perm.mem_iff.trans (XW b.b.mem w)
 have k:∀o,Jf W sc st o->∃f∈l.2.1,B7 W.ss ord f o=true:=λo d=>by
  obtain⟨r,s,e⟩:=(X0 a.b o).mp d;have:=DZ.mp (fO g) r (a.o.perm.mem_iff.mpr s);rw[e] at this;exact GG.mp this
 have C:=fM (ss:=W.ss) irr tr h i j k
 have n:m.2.2=l.2.2:=by
  rw[b.s,a.s];exact Kd (a.f.perm.nodup_iff.mpr (XZ a.b)) (b.f.perm.nodup_iff.mpr (XZ b.b)) a.f.srt b.f.srt C
 have p:∀w∈l.2.2,EQ W w=none:=by
  have:=UM (XG g);rw[<-a.s] at this;exact this
 refine⟨n,fP ?_ ?_,λw c=>?_⟩;refine DZ.mpr λo d=>?_;have t:Jf (W.late as') sc st o.1:=(X0 b.b o.1).mpr ⟨o,b.o.perm.mem_iff.mp d,rfl⟩;exact GG.mpr (fN (ss:=W.ss) h (λv u=>(j v).mpr (XU h ((i v).mp u))) k o.1 t);have:Fh (W.late as') m.2.2=none:=X1 λw c=>fR h (p w (by rw[<-n];exact c));rw[b.s] at this;exact this;refine fS h q ?_ (p w c);rw[a.s] at c;exact UG ok A B a.b (a.f.perm.mem_iff.mp (N7 c))
def X2:∀{b:List (List Aq)}(at_:Int),(∀w∈b,Bt (W.late as') w=Bt W w)->Dr (W.late as') b at_=Dr W b at_:=λ{b}at_ h=>by
 by_cases c:∀w∈b,Bt W w=none;rw[Q2 c,Q2 λw d=>by rw[h w d];exact c w d]
 cases b with
 |nil=>exact absurd (λw d=>by cases d) c
 |cons w r =>
   have f:¬∀v∈w::r,Bt (W.late as') v=none:=λz=>c λv a=>by rw[<-h v a];exact z v a
   by_cases e:∀v∈w::r,Bt W v=Bt W w;have m:∀v∈w::r,Bt (W.late as') v=Bt (W.late as') w:=λv a=>by rw[h v a,h w Bn];exact e v a
   obtain⟨n,i,j⟩:=Q4 (at_:=at_) c e;obtain⟨k,g,l⟩:=Q4 (at_:=at_) f m;rw[h w Bn,i] at g;rw[j,l,Bz g];rw[Q3 c e,Q3 f λz=>e λv a=>by rw[<-h v a,<-h w Bn];exact z v a]
def X3{ws:List (List Aq)}(h:Cb W ord ws os at_=(a,none)):Ea W ord ws os=none/\a=some (Dr W (CH W.ss ord ws ws) at_):=by
 cases e:Ea W ord ws os with
 |some o=>rw[MM e] at h;cases Bq Prod.snd h
 |none=>rw[Jc e] at h;exact⟨rfl,(Bq Prod.fst h).symm⟩
def UT{ws:List (List Aq)}{n:Int}{w:Option Wt}(h:Cb W ord ws os at_=(some (("thing" : Str),n),w)):w=none:=by
 cases e:Ea W ord ws os with
 |some o=>rw[MM e] at h;cases Bq Prod.fst h
 |none=>rw[Jc e] at h;exact(Bq Prod.snd h).symm
def UU(irr:∀x,(x,x)∉ord)(tr:∀x y z,(x,y)∈ord->(y,z)∈ord->(x,z)∈ord)(h:Later W.as as')(ok:BS W)(g:Bd W)(o:0<=sc/\sc<W.ss.length)(p:0<=st/\st<W.sts.length){l m:Lk}(b:Cs W ord sc st x l os)(d:Cs (W.late as') ord sc st x m us)(e:Cb W ord l.2.1 os at_=(a,none)) :
 m.2.2=l.2.2/\Cb (W.late as') ord m.2.1 us at_=(a,none):=by
 obtain⟨c,i⟩:=X3 e;obtain⟨f,j,k⟩:=fT irr tr h ok g o p b d c;refine⟨f,?_⟩;rw[Jc j,i];show(some (Dr (W.late as') (CH W.ss ord m.2.1 m.2.1) at_),none)=_
 have n:CH W.ss ord m.2.1 m.2.1=CH W.ss ord l.2.1 l.2.1:=by
  have:=d.s;rw[<-b.s,<-f,this]
 rw[n,X2 at_ λw c=>k w (by rw[b.s];exact c)]
def X4(h:Later W.as as'){n:Int}(a:(Cc W n).1≠("open" : Str)):Cc (W.late as') n=Cc W n:=by
 unfold Cc at a ⊢
 show(match W.gs[n.toNat]? with
  |some p=>C4 W.gs as' p
  |none=>(("no" : Str),(0:Int)))=_
 cases e:W.gs[n.toNat]? with
 |none=>rfl
 |some p =>
   rw[e] at a;exact XS h a
def Pq(ok:BS W){n:Int}(b:0<=n/\n<W.gs.length)(h:Cc W n=(("to" : Str),q)):0<=q/\q<W.ss.length:=by
 obtain⟨j,c⟩:=Dx b.1;have a:j<W.gs.length:=(by lia);have d:Cc W n=C4 W.gs W.as W.gs[j]:=by unfold Cc;rw[c,Bo,AC a]
 rw[d] at h;have:=Uo ok (EC a) rfl (Bq Prod.fst h);rw[Bq Prod.snd h] at this;exact this
def G6(ok:BS W)(c:0<=sc/\sc<W.ss.length)(d:0<=st/\st<W.sts.length){l:Lk}(a:Cs W ord sc st x l os):∀w∈l.2.1,C5 W.ss w:=λw b=>UG ok c d a.b (a.f.perm.mem_iff.mp b)
end
def fU:("no" : Str)≠("open" : Str):=by decide +kernel
def fV:("to" : Str)≠("open" : Str):=by decide +kernel
def Ke(irr:∀x,(x,x)∉ord)(tr:∀x y z,(x,y)∈ord->(y,z)∈ord->(x,z)∈ord)(h:Later W.as as')(ok:BS W)(u:Bd W)(J:0<=inn/\inn<W.sts.length){p:List Str}{w:Option Wt}(k:LU W inn ord sc st p at_ a w ls ts) :
 w=none->0<=sc/\sc<W.ss.length->0<=st/\st<W.sts.length->∀{g:C'}{j:Option Wt}{s:List Lk}{v:List Int},LU (W.late as') inn ord sc st p at_ g j s v->g=a/\j=none/\s.map (·.2.2)=ls.map (·.2.2):=by
 induction k with
 |stop b e n =>
   intro l d f g j s v m;subst l;obtain⟨B,C,t,c,_⟩:=m.inv;obtain⟨o,q⟩:=UU irr tr h ok u d f b t e;obtain⟨rfl,rfl,rfl,_⟩:=c _ _ q n;exact⟨rfl,rfl,by rw[List.map_singleton,List.map_singleton,o]⟩
 |opn b e i=>intro l;cases l
 |no b e i =>
   intro _ d f g j s v m;have A:=UT e;subst A;have r:=X4 h (n:=_) (show(Cc W _).1≠("open" : Str) by rw[i];exact fU);rw[i] at r;obtain⟨B,C,t,_,c⟩:=m.inv;obtain⟨o,q⟩:=UU irr tr h ok u d f b t e;obtain⟨rfl,rfl,rfl,_⟩:=(c _ _ q nofun _ _ r).2.1 rfl;exact⟨rfl,rfl,by rw[List.map_singleton,List.map_singleton,o]⟩
 |go b e i K D =>
   intro l d f g j s v m;have A:=UT e;subst A;have r:=X4 h (n:=_) (show(Cc W _).1≠("open" : Str) by rw[i];exact fV);rw[i] at r;obtain⟨B,C,t,_,c⟩:=m.inv;obtain⟨o,q⟩:=UU irr tr h ok u d f b t e;obtain⟨_,_,E,rfl,rfl⟩:=(c _ _ q nofun _ _ r).2.2 rfl;have F:=Jd ok u (G6 ok d f b) e;obtain⟨G,H,I⟩:=D l (Pq ok F i) J E;exact⟨G,H,by rw[Eh,Eh,o,I]⟩
def Lo (as:List (C')) (q:Int):Prop:=0<=q/\q<as.length/\as[q.toNat]?=some none
def Lp:("no" : Str)≠("open" : Str):=by decide +kernel
def UV:("to" : Str)≠("open" : Str):=by decide +kernel
section
variable {ths:List (Str×Int)} {as:List (C')}
def fW(a:0<=q/\q<as.length)(h:(DS ths as q).1=("open" : Str)):Lo as (DS ths as q).2:=by
 unfold DS at h ⊢
 cases e:as[q.toNat]? with
 |none=>rw[e] at h;exact absurd h Lp
 |some o =>
   cases o with
   |none=>rw[e] at h;exact⟨a.1,a.2,e⟩
   |some p =>
     rw[e] at h;dsimp only at h;split at h;split at h;split at h;exact absurd h UV;exact absurd h Lp;exact absurd h Lp;exact absurd h Lp
def X5(ok:Fb ths as){p:Str×Int}(a:p∈ths)(h:(C4 ths as p).1=("open" : Str)):Lo as (C4 ths as p).2:=by
 unfold C4 at h ⊢;by_cases c:p.1=("part" : Str);rw[Al c] at h;exact absurd h UV;rw[An c] at h ⊢;by_cases d:p.1=("sort" : Str);rw[Al d] at h ⊢;exact fW (ok.q p a d) h;rw[An d] at h;exact absurd h Lp
def fX(ok:Fb ths as){s:Int}{p:B9}(a:EY s as.length p)(h:(BJ ths as p).1=("open" : Str)):Lo as (BJ ths as p).2:=by
 unfold BJ at h ⊢;rcases a with⟨c,_⟩|⟨c,b,d⟩;rw[Al c] at h;exact absurd h UV;have g:¬p.2.1=("to" : Str):=λz=>by rw[z] at c;exact absurd c (by decide +kernel)
 rw[An g] at h ⊢
 cases e:as[p.2.2.toNat]? with
 |none=>rw[e] at h;exact absurd h Lp
 |some o =>
   cases o with
   |none=>exact⟨b,d,e⟩
   |some w =>
     rw[e] at h;dsimp only at h ⊢;by_cases t:w.1=("thing" : Str);rw[Al t] at h ⊢
     cases f:ths[w.2.toNat]? with
     |none=>rw[f] at h;exact absurd h Lp
     |some k=>rw[f] at h;exact X5 ok (A9 f) h
     rw[An t] at h;exact absurd h Lp
end
section
variable {W:Wd} {ord:A'} {sc st:Int}
def fY(ok:BS W){bs:List AO}{w:Ow}(d:w∈F4 W bs):Lo W.as w.2:=by
 obtain⟨b,_,j,p,a,c,_,f,rfl⟩:=Us d;refine fX ok.net (s:=W.ss.length) ?_ f;unfold BV at c
 cases e:W.ss[b.2.1.toNat]? with
 |none=>rw[e] at c;cases c
 |some s=>rw[e] at c;exact ok.kst s (A9 e) p (A9 c)
theorem X6{ss:List Bh}{ws:List (List Aq)}:∀{os:List Ow}{o:Ow},Fi ss ord ws os=some o->o∈os/\(ws.any λv=>B7 ss ord v o.1)=false
 |[],o,h=>by cases h
 | p :: os,o,h=>by
   cases e:ws.any λv=>B7 ss ord v p.1 with
   |true =>
     rw[UK e] at h;obtain⟨a,b⟩:=X6 h;exact⟨B6 _ a,b⟩
   |false =>
     rw[UJ e] at h;cases h;exact⟨Bn,e⟩
theorem X7:∀{ws:List (List Aq)}{o:Ow},Fh W ws=some o->o.1∈ws/\EQ W o.1=some o.2
 |[],o,h=>by cases h
 | w :: ws,o,h=>by
   cases e:EQ W w with
   |some q=>rw[UL e] at h;cases h;exact⟨Bn,e⟩
   |none =>
     rw[Pp e] at h;obtain⟨a,b⟩:=X7 h;exact⟨B6 _ a,b⟩
set_option tactic.hygienic true in
def Kf(ok:BS W)(m:Bd W)(g:0<=sc/\sc<W.ss.length)(i:0<=st/\st<W.sts.length){l:Lk}(b:Cs W ord sc st x l os)(h:Ea W ord l.2.1 os=some o):Lo W.as o.2/\(l.2.1.any λv=>B7 W.ss ord v o.1)=false/\JY W.ss o.1:=by
 unfold Ea at h
 cases e:Fi W.ss ord l.2.1 os with
 |some p =>
   rw[e] at h;cases h;obtain⟨f,a⟩:=X6 e;have d:=b.o.perm.mem_iff.mp f;exact⟨fY ok d,a,Xl ok g i b.b d⟩
 |none =>
   rw[e] at h;obtain⟨f,a⟩:=X7 h;have d:=N7 f;have n:=b.f.perm.mem_iff.mp d;refine⟨?_,?_,QP ok g i b.b n⟩;have tk:=MN m (G6 ok g i b _ d);unfold EQ at a;split at a;rename_i c;rw[<-Bz a];rcases tk with⟨j,_⟩|⟨_,k⟩;rw[c.1] at j;exact absurd j (by decide +kernel);exact⟨k.1,k.2,c.2⟩;cases a;have:=(KW.mp f).2;rw[Bool.not_eq_true'] at this;exact this
end
def Im (W:Wd) (inn sc0 st0:Int) (ls:List Lk):Nat->Int->Int->Prop
 |0,sc,st=>sc=sc0/\st=st0
 |i+1,sc,st=>st=inn/\∃(l:Lk)(w0:List Aq)(r:List (List Aq))(n:Int),ls[i]?=some l/\l.2.2=w0::r/\Bt W w0=some n/\C5 W.ss w0/\(0<=n/\n<W.gs.length)/\Cc W n=(("to" : Str),sc)
theorem Im.more{m o b c:Int}{l:Lk}{a:List Aq}{n:Int}(e:l.2.2=a::r)(d:Bt W a=some n)(f:C5 W.ss a)(g:0<=n/\n<W.gs.length)(i:Cc W n=(("to" : Str),b))(k:c=inn):∀{j:Nat}{sc st:Int},Im W inn b c ls j sc st->Im W inn m o (l::ls) (j+1) sc st
 |0,sc,st,h=>⟨h.2.trans k,l,a,r,n,rfl,e,d,f,g,by rw[h.1];exact i⟩
 |j+1,sc,st,h=>h
def fZ{ws:List (List Aq)}{n:Int}{w:Option Wt}(h:Cb W ord ws os at_=(some (("thing" : Str),n),w)):∃d r,CH W.ss ord ws ws=d::r/\Bt W d=some n:=by
 have b:=UT h;subst b;obtain⟨_,a⟩:=X3 h;have a:=(Bz a).symm;generalize CH W.ss ord ws ws=g at a;by_cases c:∀w∈g,Bt W w=none;rw[Q2 c] at a;exact absurd (Bq Prod.fst a) Q5
 cases g with
 |nil=>exact absurd (λw b=>by cases b) c
 |cons w r =>
   refine⟨w,r,rfl,?_⟩;by_cases f:∀v∈w::r,Bt W v=Bt W w;obtain⟨k,i,j⟩:=Q4 (at_:=at_) c f;rw[j] at a;have e:k=n:=Bq Prod.snd a;rw[i,e];rw[Q3 c f] at a;exact absurd (Bq Prod.fst a) UN
set_option tactic.hygienic true in
def X8{p:List Str}{w:Option Wt}(k:LU W inn ord sc st p at_ a w ls ts):(a=none/\∃t,w=some t)\/(∃x,a=some x)/\w=none:=by
 induction k with
 |stop h e n =>
   rename_i os _ _
   cases b:Ea W ord _ os with
   |some o=>rw[MM b] at e;cases e;exact .inl ⟨rfl,_,rfl⟩
   |none=>rw[Jc b] at e;cases e;exact .inr ⟨⟨_,rfl⟩,rfl⟩
 |opn=>exact .inl ⟨rfl,_,rfl⟩
 |no=>exact .inr ⟨⟨_,rfl⟩,rfl⟩
 |go _ _ _ _ c=>exact c
def f0(ss:List Bh):JY ss []:=⟨λm a=>(by cases a),Di _⟩
def Kg(l:List (List Aq)):(l.any λv=>B7 ss ord v [])=false:=by
 rw[List.any_eq_false];exact λv _=>by rw[Lj ss ord (.inr rfl)];exact Ct
set_option tactic.hygienic true in
def Kh(ok:BS W)(s:Bd W)(S:0<=inn/\inn<W.sts.length){h m:Int}{p:List Str}{w:Option Wt}(k:LU W inn ord h m p at_ a w ls ts) :
 0<=h/\h<W.ss.length->0<=m/\m<W.sts.length->∀{t:Wt},w=some t->∃(j:Nat)(sc st:Int)(x:Str)(l:Lk)(os:List Ow),t.1=at_+j/\p[j]?=some x/\Cs W ord sc st x l os/\(0<=sc/\sc<W.ss.length)/\(0<=st/\st<W.sts.length)/\Lo W.as t.2.2/\(l.2.1.any λv=>B7 W.ss ord v t.2.1)=false/\JY W.ss t.2.1/\Im W inn h m ls j sc st:=by
 induction k with
 |stop b e n =>
   intro d f t c;rename_i sc st x r at_ l os a w
   cases u:Ea W ord l.2.1 os with
   |none=>rw[Jc u] at e;cases e;cases c
   |some o =>
     rw[MM u] at e;cases e;cases c;obtain⟨z,A,B⟩:=Kf ok s d f b u;exact⟨0,sc,st,x,l,os,by simp,rfl,b,d,f,z,A,B,rfl,rfl⟩
 |opn b e i =>
   intro d f t c;rename_i sc st x y r at_ l os n q w;cases c;have g:=Jd ok s (G6 ok d f b) e;refine⟨0,sc,st,x,l,os,by simp,rfl,b,d,f,?_,Kg _,f0 _,rfl,rfl⟩;obtain⟨j,F⟩:=Dx g.1;have E:j<W.gs.length:=(by lia);have G:Cc W n=C4 W.gs W.as W.gs[j]:=by unfold Cc;rw[F,Bo,AC E]
   rw[G] at i;have:=X5 ok.net (EC E) (Bq Prod.fst i);rw[Bq Prod.snd i] at this;exact this
 |no=>intro _ _ t c;cases c
 |go b e i Z H =>
   intro d f t c;rename_i sc st x y r at_ l os n q w w' a ls ts;have g:=Jd ok s (G6 ok d f b) e;obtain⟨j,T,U,I,J,V,z,A,B,K,L,M,N,O,P⟩:=H (Pq ok g i) S c;obtain⟨C,Q,D,R⟩:=fZ e;have X:l.2.2=C::Q:=by rw[b.s];exact D
   have Y:C∈l.2.1:=N7 (ss:=W.ss) (ord:=ord) (all:=l.2.1) (by rw[D];exact Bn);refine⟨j+1,T,U,I,J,V,by rw[z];push_cast;lia,A,B,K,L,M,N,O,Im.more X R (G6 ok d f b _ Y) g i rfl P⟩
def Gz (xs:Array Nat):Prop:=xs.toList.Pairwise (· < ·)
variable {xs:Array Nat}
def Gz.lt(h:Gz xs){a b:Nat}(e:a<b)(c:b<xs.size):xs.getD a 0<xs.getD b 0:=by
 have d:a<xs.size:=(by lia);have:=(List.pairwise_iff_getElem.mp h) a b (by simpa using d) (by simpa using c) e;rw[Array.getD_eq_getD_getElem?,Array.getD_eq_getD_getElem?,Array.getElem?_eq_getElem d,Array.getElem?_eq_getElem c];simpa using this
def Gz.le(h:Gz xs){a b:Nat}(d:a<=b)(c:b<xs.size):xs.getD a 0<=xs.getD b 0:=by
 rcases Nat.lt_or_eq_of_le d with e|e;exact CI (h.lt e c);rw[e];exact AG _
def Ki{d:Nat}(h:i<xs.size):xs.getD i d=xs.getD i 0:=by
 rw[Array.getD_eq_getD_getElem?,Array.getD_eq_getD_getElem?,Array.getElem?_eq_getElem h];rfl
theorem UW{xs:Array Nat}(e:Gz xs)(j:Nat):∀(b lo a:Nat),a<=xs.size->lo<=a->a-lo<=b->(∀i,i<lo->xs.getD i 0<j)->(∀i,a<=i->i<xs.size->j<=xs.getD i 0) ->
 SetTable.below.go xs j b lo a<=xs.size/\(∀i,i<SetTable.below.go xs j b lo a->xs.getD i 0<j)/\∀i,SetTable.below.go xs j b lo a<=i->i<xs.size->j<=xs.getD i 0
 |0,lo,a,f,m,n,g,h=>by
   have:lo=a:=(by lia);subst this;exact⟨f,g,h⟩
 |b+1,lo,a,f,m,n,g,h=>by
   unfold SetTable.below.go;by_cases c:lo<a;rw[Al c];dsimp only;have k:(lo+a)/2<xs.size:=(by lia);rw[Ki k];by_cases d:xs.getD ((lo+a)/2) 0<j;rw[Al d];exact UW e j b _ a f (by lia) (by lia) (λi l=>Nat.lt_of_le_of_lt (e.le (by lia) k) d) h;rw[An d];exact UW e j b lo _ (by lia) (by lia) (by lia) g (λi l o=>Ek (Nat.le_of_not_lt d) (e.le l o));rw[An c];have:lo=a:=(by lia);subst this;exact⟨f,g,h⟩
def UX(a:Gz xs)(j:Nat):SetTable.below xs j<=xs.size/\(∀i,i<SetTable.below xs j->xs.getD i 0<j)/\∀i,SetTable.below xs j<=i->i<xs.size->j<=xs.getD i 0:=
 UW a j xs.size 0 xs.size (AG _) (Di _) (by lia) (λi h=>by lia) (λi b c=>by lia)
def f5(a:Gz xs):SetTable.below xs 0=0:=by
 obtain⟨_,b,_⟩:=UX a 0
 cases e:SetTable.below xs 0 with
 |zero=>rfl
 |succ n=>have:=b 0 (by lia);lia
variable {j:Nat}
def f6(a:Gz xs)(h:xs[i]?=some j):SetTable.below xs (j+1)=i+1:=by
 obtain⟨f,b,d⟩:=UX a (j+1);have e:i<xs.size:=(Array.getElem?_eq_some_iff.mp h).1;have g:xs.getD i 0=j:=by rw[Array.getD_eq_getD_getElem?,h];rfl
 rcases Nat.lt_trichotomy (SetTable.below xs (j+1)) (i+1) with c|c|c;have:=d i (by lia) e;lia;exact c;have k:=b (i+1) c;have l:xs.getD i 0<xs.getD (i+1) 0:=a.lt (Qh i) (show i+1<xs.size by lia);lia
def f7(xs:Array α)(p:Nat)(x:α)(a:p<=xs.size):(SetTable.insertAt xs p x).toList=xs.toList.take p++[x]++xs.toList.drop p:=by
 unfold SetTable.insertAt;simp[Array.toList_extract];exact List.take_of_length_le (by simp)
def f8(e:Gz xs)(n:xs[SetTable.below xs j]?≠some j):Gz (SetTable.insertAt xs (SetTable.below xs j) j):=by
 obtain⟨o,f,q⟩:=UX e j;generalize SetTable.below xs j=p at o f q n;unfold Gz;rw[f7 xs p j o]
 have g:∀{i:Nat}(c:i<xs.toList.length),xs.toList[i]=xs.getD i 0:=λ{i}c=>by
  have m:i<xs.size:=(by simpa using c);rw[Array.getD_eq_getD_getElem?,Array.getElem?_eq_getElem m];simp
 refine List.pairwise_append.mpr ⟨List.pairwise_append.mpr ⟨e.sublist (List.take_sublist _ _),List.pairwise_singleton _ _,λa d b h=>?_⟩,e.sublist (List.drop_sublist _ _),λa d b h=>?_⟩;rw[AW.mp h];obtain⟨i,c,rfl⟩:=List.getElem_of_mem d;rw[FP] at c;rw[List.getElem_take,g (by lia)];exact f i (by lia);obtain⟨i,c,rfl⟩:=List.getElem_of_mem h;rw[Gp] at c;rw[List.getElem_drop,g (by lia)];have m:p+i<xs.size:=by simp at c;lia
 have s:j<xs.getD p 0:=by
  have l:p<xs.size:=(by lia);have:=q p (AG _) l;have ne:xs.getD p 0≠j:=λz=>n (by rw[Array.getElem?_eq_getElem l];rw[Array.getD_eq_getD_getElem?,Array.getElem?_eq_getElem l] at z;exact Bq some z);lia
 have t:=e.le (show p<=p+i by lia) m;rcases BI.mp d with d|d;obtain⟨k,r,rfl⟩:=List.getElem_of_mem d;rw[FP] at r;rw[List.getElem_take,g (by lia)];have:=f k (by lia);lia;rw[AW.mp d];lia
structure GK (led:Bool) (t:SetTable):Prop where
 ris:Gz t.place
 dum:t.dummies=#[]
 led:t.led=led
theorem X9{t:SetTable}{hashAt:Nat->Int}{h:Int}(hd:t.dummies=#[]):∀(a:Nat)(p:SetTable.Probe){j:Nat}{d:Option Nat},p.dummy=none->SetTable.probe.go t hashAt h a p=some (.empty j d)->t.slot j=.empty/\d=none
 |0,p,j,d,_,e=>by cases e
 |a+1,p,j,d,b,e=>by
   unfold SetTable.probe.go at e
   have l:∀q:SetTable.Probe,q.dummy=none->(t.advance q).dummy=none:=λq f=>by
    unfold SetTable.advance;split;exact f;exact f
   cases c:t.slot p.j with
   |empty=>rw[c] at e;cases e;exact⟨c,b⟩
   |dummy =>
     exfalso;have k:SetTable.has t.dummies p.j=false:=by rw[hd];unfold SetTable.has;simp
     unfold SetTable.slot at c;dsimp only at c;rw[k] at c;by_cases g:(t.place[SetTable.below t.place p.j]?==some p.j)=true;rw[Al g] at c;cases c;rw[An g] at c;cases c
   |live i =>
     rw[c] at e;dsimp only at e;split at e;cases e;exact X9 hd a _ (l p b) e
def f9{t:SetTable}(h:t.slot j=.empty):t.place[SetTable.below t.place j]?≠some j:=λe=>by
 unfold SetTable.slot at h;simp only[e] at h;simp at h
variable {led:Bool}
def Q8{t:SetTable}(h:GK led t)(n:Nat):GK led (t.standIn n):=⟨by
 show Gz (Array.range n);unfold Gz;rw[Array.toList_range]
 exact List.pairwise_lt_range,rfl,h.led⟩
def MP{t:SetTable}(h:GK led t)(a:t.slot j=.empty):GK led (t.put j).1:=by
 refine⟨f8 h.ris (f9 a),?_,h.led⟩;show(if SetTable.has t.dummies j then SetTable.eraseAt t.dummies (SetTable.below t.dummies j) else t.dummies)=#[];rw[h.dum]
 have:SetTable.has #[] j=false:=by unfold SetTable.has;simp
 rw[this];rfl
def gA {t:SetTable} (h:GK led t) (es:Array (Int × Value)) (k:Int) (x:Value):GK led (layNew t es k x).2.1:=by
 unfold layNew
 cases e:t.freeSlot k with
 |none=>exact Q8 h _
 | some r =>
   obtain⟨i,l⟩:=r;dsimp only
   have b:t.slot i=.empty:=by
    unfold SetTable.freeSlot at e
    cases c:t.probe (λ_=>k+1) k (t.probeStart k) with
    |none=>rw[c] at e;cases e
    |some m =>
      rw[c] at e
      cases m with
      |candidate=>cases e
      |empty j d =>
        obtain⟨f,g⟩:=X9 h.dum _ _ rfl c;subst g;cases e;exact f
   have a:=MP h b;unfold SetTable.orStandIn;split;exact a;exact Q8 a _
def Kj{e l k:Nat}{plain:Bool}{f:Array Int}{r:SetTable×Array Nat}(h:SetTable.laid e l k led plain f=some r):GK led r.1:=by
 unfold SetTable.laid at h
 cases c:SetTable.layClean e f with
 |none=>rw[c] at h;cases h
 |some owner =>
   rw[c] at h;cases h;refine⟨?_,rfl,rfl⟩;unfold Gz;dsimp only
   have:(List.map (λx=>x.1) (List.filterMap (λj=>Option.map (λx=>(j,x)) (owner.getD j none)) (List.range (e+1)))).Pairwise (· < ·):=by
    rw[List.pairwise_map];refine List.Pairwise.filterMap _ (λa b i c g d hd=>?_) (List.pairwise_lt_range (n:=e+1));obtain⟨x,_,rfl⟩:=E8.mp g;obtain⟨y,_,rfl⟩:=E8.mp hd;exact i
   exact this
def gB{t:SetTable}(h:GK led t)(es:Array (Int×Value))(a:Nat):GK led (relayAll t es a).2.1:=by
 unfold relayAll
 cases c:t.relaid (es.map (·.1)) a with
 |none=>exact Q8 h _
 |some r =>
   obtain⟨b,order⟩:=r;dsimp only;split;have:=Kj c;rw[h.led] at this;exact this;exact Q8 h _
section
variable {prog:Program} {w:World} {α:Type} [DecidableEq α] [BEq α] [LawfulBEq α]
def B3 (knd:KeyKind prog w α) (C:Bool) (hp:Heap) (D:Addr) (M:α->Bool) (n:Nat):Prop:=
 ∃(ob:Obj)(es:Array (Int×Value))(ep:Nat)(tb:SetTable),hp.get? D=some ob/\ob.ExactSet/\ob.data=.set es ep tb/\ElemsOf knd es.toList/\(∀y,M y=true↔∃e∈es.toList,knd.is y e.2=true)/\es.size<scanBound/\tb.fits es.size=true/\es.size=n/\GK C tb
variable {knd:KeyKind prog w α} {C:Bool} {A:Around} {E:D'} {s:Shared} {D:Addr}
variable {M:α->Bool}
def B3.keep{a b:Heap}(x:B3 knd C a D M n)(k:∀ob,a.get? D=some ob->b.get? D=some ob):B3 knd C b D M n:=by
 obtain⟨ob,c,d,e,f,x⟩:=x;exact⟨ob,c,d,e,k _ f,x⟩
def B3.cong{a:Heap}{b:α->Bool}{c:Nat}(x:B3 knd C a D M n)(d:∀y,b y=M y)(e:c=n):B3 knd C a D b c:=by
 obtain⟨f,g,h,i,j,k,l,m,o,p,q,r,s⟩:=x;exact⟨f,g,h,i,j,k,l,m,λy=>by rw[d];exact o y,p,q,by rw[e];exact r,s⟩
variable {tb:SetTable}
def MQ(x:GK C tb):GK C {tb with plain:=false}:=⟨x.ris,x.dum,x.led⟩
def Yb{ob:Obj}{es a:Array (Int×Value)}{ep:Nat}{b:SetTable}(h:s.heap.get? D=some ob)(d:ob.ExactSet)(i:ob.data=.set es ep tb)(j:ElemsOf knd a.toList)(k:∀y,M y=true↔∃e∈a.toList,knd.is y e.2=true)(f:a.size<scanBound)(l:b.fits a.size=true)(n:GK C b){Q:Unit->Shared->Prop}
 (q:∀c,Heap.SameBut D s.heap c->(∃g,c.get? D=some g/\g.ExactSet/\g.data=.set a (ep+1) b)->B3 knd C c D M a.size->Q () {s with heap:=c}):wpAny (model prog w) A (storeSet D a b) Q E s:=by
 obtain⟨m,_⟩:=SetOf_store (knd:=knd) h d i j k f l;exact wpAny_storeSet_of h i (q _ (Heap.SameBut.update ..) ⟨_,m,d,rfl⟩ ⟨_,a,ep+1,b,m,d,rfl,j,k,f,l,rfl,n⟩) (fits_of_scanBound f)
def Yc{l:Array (Int×Value)}{m:List (Int×Value)}(p:l.toList.Perm m):l.size=m.length:=by rw[<-Array.length_toList,p.length_eq]
def UY(b:Bool){u:Shared}{Q:Unit->Shared->Prop}(q:Q () u):wpAny (model prog w) A (match b with|true=>rule "set.scan.the-table-gave-way"|false=>pure ()) Q E u:=by
 cases b;exact Aw q;exact Ht q
def Yd{ob:Obj}{es c:Array (Int×Value)}{ep:Nat}{d:SetTable}(r:s.heap.get? D=some ob)(t:ob.ExactSet)(v:ob.data=.set es ep tb)(i:ElemsOf knd c.toList)(j:∀y,M y=true↔∃e∈c.toList,knd.is y e.2=true)(k:c.size<scanBound)(x:d.fits c.size=true)(l:GK C d){z:Bool}{Q:Option Bool->Shared->Prop}
 {g:Bool->Sem Unit} (B:∀(b:Bool)(u:Shared)(m:Unit->Shared->Prop),m () u->wpAny (model prog w) A (g b) m E u)
 (q:∀f,Heap.SameBut D s.heap f->B3 knd C f D M c.size->Q (some true) {s with heap:=f}) :
 wpAny (model prog w) A (storeSet D c d >>= λ_=>if(!z && d.tooFull)=true then g (relayAll d c (SetTable.grown c.size)).2.2 >>= λ_=>storeSet D (relayAll d c (SetTable.grown c.size)).1 (relayAll d c (SetTable.grown c.size)).2.1 >>= λ_=>pure (some true) else pure (some true)) Q E s:=by
 refine Ad (Yb r t v i j k x l λf n⟨S,F,G,H⟩I=>?_);split;have h:=relayAll_perm d c (SetTable.grown c.size);have o:=relayAll_fits d c (SetTable.grown c.size);have tk:=gB l c (SetTable.grown c.size);generalize relayAll d c (SetTable.grown c.size)=J at h o tk;obtain⟨K,P,R⟩:=J;have p:K.size=c.size:=(Yc h).trans (Array.length_toList ..);refine Ad (B _ _ _ (Ad ?_));refine Yb (s:={s with heap:=f}) F G H (i.perm h) (λy=>(j y).trans ⟨λ⟨e,a,b⟩=>⟨e,h.mem_iff.mpr a,b⟩,λ⟨e,a,b⟩=>⟨e,h.mem_iff.mp a,b⟩⟩) (by rw[p];exact k) o tk λL N _ O=>?_;exact Aw (q L (n.trans N) (O.cong (λ_=>rfl) p.symm));exact Aw (q f n I)
def Kk{y:α}{x:Value}{Q:Bool->Shared->Prop}(t:knd.is y x=true)(v:x.scannable=true)(S:B3 knd C s.heap D M n)(aa:n+1<scanBound)
 (q:∀a,Heap.SameBut D s.heap a->B3 knd C a D (λz=>M z || decide (z=y)) (if M y then n else n+1)->Q (!M y) {s with heap:=a}):wpAny (model prog w) A (setAddHashed D x (knd.hash y)) Q E s:=by
 obtain⟨T,d,U,tb,g,B,h,o,p,H,F,I,J⟩:=S;unfold setAddHashed setAddHashedIn;refine FA (Ad (wpAny_setState_of g h F ?_));dsimp only;rw[byScan_of v H o,Al rfl];unfold setAddByScan;refine Ad (Ad (Ht (Ad (wpAny_setScan_of t g h F o ?_))))
 cases fd:List.findIdx? (λe=>knd.is y e.2) d.toList with
 |some j =>
   obtain⟨V,W,_⟩:=List.findIdx?_eq_some_iff_getElem.mp fd;have i:M y=true:=(p y).mpr ⟨_,EC V,W⟩;dsimp only;refine Aw (Aw ?_)
   have P:=q s.heap (Heap.SameBut.refl ..) ⟨T,d,U,tb,g,B,h,o,λz=>by
    rw[<-p z,Bool.or_eq_true,decide_eq_true_eq];refine⟨λc=>?_,.inl⟩;rcases c with c|c;exact c;rw[c];exact i,H,F,by rw[i];exact I,J⟩
   rw[i] at P;exact P
 |none =>
   have i:M y=false:=by
    cases c:M y with
    |false=>rfl
    |true =>
      obtain⟨e,X,Y⟩:=(p y).mp c;have:=List.findIdx?_eq_none_iff.mp fd e X;rw[Y] at this;cases this
   dsimp only;have f:=layNew_perm tb d (knd.hash y) x;have k:=layNew_fits tb d (knd.hash y) x;have tk:=gA J d (knd.hash y) x;generalize layNew tb d (knd.hash y) x=Z at f k tk;obtain⟨r,t1,wd,gv⟩:=Z;dsimp only at f k tk;rw[Array.toList_push] at f;have K:r.size=n+1:=by rw[Yc f,AS,Array.length_toList,I];rfl
   have L:ElemsOf knd r.toList:=(o.push t v).perm f;have N:=mem_push_iff t p f;have O:r.size<scanBound:=by rw[K];exact aa
   have R:∀a,Heap.SameBut D s.heap a->B3 knd C a D (λz=>M z || decide (z=y)) r.size->Q true {s with heap:=a}:=λa l m=>by
    have:=q a l;rw[i] at this;exact this (m.cong (λ_=>rfl) K.symm)
   refine Ad (UY _ ?_);split;rw[hashByValue_scannable 8 v];refine Ad (Aw ?_);refine Yd g B h L N O (by split;exact k;exact SetTable.fits_plain_off k) (by split;exact tk;exact MQ tk) (λb u Q' G=>UY b G) λa l m=>?_;exact Aw (R a l m);refine Ad (Aw ?_);rw[Al rfl];exact Yd g B h L N O k tk (λb u Q' G=>UY b G) λa l m=>Aw (R a l m)
end
abbrev BW (w:World):Bool:=!(w.params.followText "set-order")
abbrev Io (b:Bool):Obj:={cls:=.type "set",dict:=none,data:=.set #[] 0 (.fresh 0 0 b)}
section
variable {prog:Program} {w:World} {A:Around} {E:D'} {s:Shared}
theorem Kl(x:Value)(q:Q (.ref s.heap.objs.size) {s with heap:=s.heap.push (Io (BW w))}) :
 codeAny (model prog w) A (.call (.builtin "set.__new__") ⟨[.type "set",x],[]⟩) (wants Q E) s:=by
 refine codeAny_of_tree ?_;show wpAny _ A.in1 (checkBuiltinCall "set.__new__" ⟨[.type "set",x],[]⟩ >>= λ_=>again (.builtin "set.__new__" ⟨[.type "set",x],[]⟩)) _ _ s;refine Ad (wpAny_of_eq (F.newCall_set_1 x) (Aw ⟨plainId_quiet F.plain_set_new _,codeAny_builtin F.entry_set_new ?_⟩));rw[Around.under_plainId F.plain_set_new _];have a:=sub_set_self;unfold Builtin.«set.__new__» Builtin.Frozenset.newClass
 cases s with
 |mk b g d tk os =>
   dsimp only at q ⊢
   wp_walk
   refine wpAny_askSetting (Aw ?_);dsimp only;simp only[newObj];exact Ad (wpAny_alloc (Aw (Aw q)))
end
def B4 (f:Nat->Int) (i:Nat):List Int:=((List.range i).map f).foldl step_dedup []
def Pr(f:Nat->Int)(i:Nat):B4 f (i+1)=step_dedup (B4 f i) (f i):=by
 unfold B4;rw[List.range_succ,Bk,KY];rfl
def Ip(l:List Int)(x:Int):(step_dedup l x).length=if l.any (·==x) then l.length else l.length+1:=by
 unfold step_dedup;split<;>simp
def Iq(l:List Int)(x y:Int):(step_dedup l x).any (·==y)=(l.any (·==y) || decide (y=x)):=by
 unfold step_dedup;by_cases h:l.any (·==x)=true;rw[Al h];by_cases e:y=x;subst e;rw[h];rfl;rw[D1 e,Bool.or_false];rw[An h,List.any_append];congr 1;by_cases e:y=x;subst e;simp;rw[D1 e]
 simp
 exact λz=>e z.symm
theorem Ye(f:Nat->Int):∀i,(B4 f i).length<=i
 |0=>AG _
 |i+1=>by
   have:=Ye f i;rw[Pr,Ip];split<;>lia
theorem Yg(f:Nat->Int):∀(i:Nat)(y:Int),(B4 f i).any (·==y)=true↔∃j,j<i/\f j=y
 |0,y=>by
   constructor;intro h;cases h;rintro⟨j,h,_⟩;lia
 |i+1,y=>by
   rw[Pr,Iq,Bool.or_eq_true,Yg f i y,decide_eq_true_iff];constructor;rintro(⟨j,h,e⟩|e);exact⟨j,by lia,e⟩;exact⟨i,by lia,e.symm⟩;rintro⟨j,h,e⟩;by_cases a:j=i;subst a;exact .inr e.symm;exact .inl ⟨j,by lia,e⟩
section
variable {prog:Program} {w:World} {A:Around} {R:Result->Shared->Prop} {It:Addr} {fp u:List Addr} {G:Array GenState->Array GenState->Prop} {n:Nat} {Pn:Nat->Value->Prop} {Sn:Nat->Shared->Prop}
theorem gC(c:WalksS prog w A.in1 It fp u G n Pn Sn)(D:Addr)(l:D∉fp)(f:Nat->Int)(r:∀i v,Pn i v->∃t,v=.int (f i) t)(Q:n+1<scanBound) :
 ∀(k i:Nat)(s:Shared),n-i=k->i<=n->Sn i s->B3 (intKind prog w) (BW w) s.heap D (λy=>(B4 f i).any (·==y)) (B4 f i).length ->
  (∀Z,Moved (D::u) G s Z->B3 (intKind prog w) (BW w) Z.heap D (λy=>(B4 f n).any (·==y)) (B4 f n).length->R (.ok (.ret .none)) Z) ->
  codeAny (model prog w) A (.builtin "set.update.loop" ⟨[.ref D,.ref It],[]⟩) R s:=by
 have p:D∉u:=λz=>l (c.sub _ z);have sub:∀b∈u,b∈D::u:=λb z=>B6 _ z;intro k
 induction k with
 |zero =>
   intro i s x B st g j;obtain rfl:i=n:=by lia
   refine codeAny_builtin F.entry_set_update_loop ?_;rw[Around.under_plainId F.plain_set_update_loop _];show wpAny _ A.in1 (pyNext (.ref It) >>= _) _ _ s;refine Ad (c.done s _ _ st λa d=>?_);show wpAny _ A.in1 (ret Value.none) _ _ a;refine Aw (j a (d.mono sub) ?_);exact g.keep λC e=>d.heap D _ p e
 |succ k E =>
   intro i s x B st g j;have lt:i<n:=(by lia);refine codeAny_builtin F.entry_set_update_loop ?_;rw[Around.under_plainId F.plain_set_update_loop _];show wpAny _ A.in1 (pyNext (.ref It) >>= _) _ _ s;refine Ad (c.item i s _ _ lt st λv a pv J d=>?_);obtain⟨t,rfl⟩:=r i v pv;have K:B3 (intKind prog w) (BW w) a.heap D (λy=>(B4 f i).any (·==y)) (B4 f i).length:=g.keep λC e=>d.heap D _ p e;show wpAny _ A.in1 (holding [Value.int (f i) t] (setAdd D (.int (f i) t)) >>= _) _ _ a;refine Ad (FA ?_);unfold setAdd;refine FA ?_;have q:(intKind prog w).is (f i) (.int (f i) t)=true:=intKind_is _ _ _ _;refine Ad ((intKind prog w).pyHash (k:=f i) q ?_);have P:(B4 f i).length+1<scanBound:=by have:=Ye f i;lia
   refine Kk (knd:=intKind prog w) (s:={a with toks:=a.toks+1}) q rfl K P λH m L=>?_
   have M:B3 (intKind prog w) (BW w) H D (λy=>(B4 f (i+1)).any (·==y)) (B4 f (i+1)).length:=
    L.cong (λy=>by rw[Pr,Iq]) (by rw[Pr,Ip])
   refine Aw ⟨plainId_quiet F.plain_set_update_loop _,E (i+1) _ (by lia) lt (c.frame _ a _ _ J (Nat.le_succ _) λb h o e=>?_) M λI N O=>?_⟩;rw[m.2 b λz:b=D=>l (by rw[<-z];exact h)];exact e;refine j I (Moved.trans c.gtrans ((d.mono sub).then_heap (Nat.le_succ _) λb o h e=>?_) N) O;rw[m.2 b λz:b=D=>h (by rw[z];exact Bn)];exact e
end
section
variable {prog:Program} {w:World} {A:Around} {E:D'} {s:Shared}
set_option maxRecDepth 100000 in
set_option maxHeartbeats 3200000 in
theorem gD {l:Addr} {a:Array Value} {f:Nat->Int} {Q:D'} (J:A.handled=none) (K:s.heap.IsList l a) (L:∀ (i:Nat) (v:Value),a[i]? = some v -> ∃ t,v=.int (f i) t) (d:a.size + 1 < scanBound)
 (h:∀(h':Heap)(tk:Nat),B3 (intKind prog w) (BW w) h' s.heap.objs.size (λy=>(B4 f a.size).any (·==y)) (B4 f a.size).length ->
  (∀b o,b<s.heap.objs.size->s.heap.get? b=some o->h'.get? b=some o)->Q (.ref s.heap.objs.size) {s with heap:=h',toks:=tk}) :
 wpAny (model prog w) A (call (.type "set") [.ref l]) Q E s:=by
 obtain⟨c,tl,ao⟩:=F.called_set.mro;have av:=F.called_set.made;have aq:=F.called_set.sub;refine wpAny_call (codeAny_of_tree ?_);show wpAny _ _ (callAny (.type "set") _) _ _ _;refine Aw ⟨Code.quiet_builtin _ (by decide +kernel),codeAny_builtin F.entry_type_call ?_⟩;rw[Around.under_plain (weight_type_call_type "set" [.ref l] []) rfl];have h1:=F.called_set.notType;have h2:=F.called_set.canCreate;have ai:=F.typeCall_set_1 (.ref l)
 repeat (any_goals (first|assumption|wp_step))
 refine codeAny_mono (Kl (.ref l) (E:=E) (Q:=λn p=>n=.ref s.heap.objs.size/\p={s with heap:=s.heap.push (Io (BW w))}) ⟨rfl,rfl⟩) λr p j=>?_
 cases r with
 |error e=>exact j
 | ok M =>
   cases M with
   | ret n =>
     obtain⟨rfl,rfl⟩:=j;have q:(s.heap.push (Io (BW w))).get? s.heap.objs.size=some (Io (BW w)):=Cd _ rfl;have N:Shared.TypeIs {s with heap:=s.heap.push (Io (BW w))} (.ref s.heap.objs.size) "set" :=⟨_,q,rfl⟩;have aj:=F.called_set.init.lookup;have ak:=F.called_set.init.bind (.ref s.heap.objs.size)
     repeat (any_goals (first|assumption|wp_step))
     refine codeAny_mono (codeAny_call_builtin (R:=wants (λr u=>r=.none/\∃h' tk,u={s with heap:=h',toks:=tk}/\B3 (intKind prog w) (BW w) h' s.heap.objs.size (λy=>(B4 f a.size).any (·==y)) (B4 f a.size).length /\
      (∀b o,b<s.heap.objs.size->s.heap.get? b=some o->h'.get? b=some o)) E) F.called_set.init.plain F.entry_set_init (check_set_init_1 N ?_)) λO u k=>?_
     . obtain⟨⟨oc,P,al,W⟩,C,D,x,G⟩:=K
       simp only at D G;subst D;subst G;have ah:(s.heap.push (Io (BW w))).get? l=some {cls:=.type "list",dict:=P,data:=.seq a x,slots:=W}:=Bf _ C;have ar:=F.sub_list_set;have au:=F.sub_list_frozenset;have an:(Value.type "list" == Value.type "dict")=false:=(by decide);have H:(s.heap.push (Io (BW w))).IsList l a:=⟨_,ah,rfl,x,rfl⟩;unfold Builtin.«set.__init__» noKeywords Builtin.Frozenset.updateFrom;generalize X:pyIter=PI
       wp_walk
       subst X;refine wpAny_pyIter_list H (Ad (wpAny_runValue ?_));have I:l<s.heap.objs.size:=Br C;have Y:A.in1.in1.in1.handled=none:=(by simp[J])
       have Z:l≠(s.heap.push (Io (BW w))).objs.size:=by
        rw[Heap.size_push];exact CF (Nat.lt_succ_of_lt I)
       have aa:s.heap.objs.size∉[(s.heap.push (Io (BW w))).objs.size,l]:=by
        rw[Heap.size_push];intro z;rcases B5.mp z with z|z;exact absurd z (CF (Qh _));exact absurd (AW.mp z) (Nat.ne_of_gt I)
       refine gC ((Walks.list Y _ l Z a).toS) s.heap.objs.size aa f L d (a.size-0) 0 _ (by lia) (Di _) ⟨⟨_,Cd _ rfl,rfl,rfl⟩,(H.push _)⟩ ?hS0 ?hR
       case hS0 =>
        have S:((s.heap.push (Io (BW w))).push {cls:=.type "list_iterator",data:=.fields #[.ref l,.int 0 0]}).get? s.heap.objs.size=some (Io (BW w)):=Bf _ q;exact⟨_,#[],0,_,S,⟨rfl,rfl,rfl⟩,rfl,(λe T=>by simp at T),(λy=>by simp[B4]),by decide,rfl,rfl,⟨List.Pairwise.nil,rfl,rfl⟩⟩
       case hR =>
        rintro⟨h',U,V,ab,ae⟩ g m;obtain rfl:U=s.gens:=g.gens;obtain rfl:V=s.drawn:=g.drawn;obtain rfl:ae=s.os:=g.os;show wpAny _ _ _ _ _ _;refine Aw ?_;show wpAny _ _ (ret Value.none) _ _ _;refine Aw ⟨rfl,h',ab,rfl,m,λb o d e=>?_⟩;refine g.heap b o (λz=>?_) (Bf _ (Bf _ e));rcases B5.mp z with z|z;exact absurd z (CF d);have B:=AW.mp z;rw[Heap.size_push] at B;exact absurd B (CF (Nat.lt_succ_of_lt d))
     . cases O with
       |error e=>exact k
       |ok af =>
         cases af with
         |ret r =>
           obtain⟨rfl,h',tk,rfl,m,ag⟩:=k
           repeat (any_goals (first|assumption|wp_step))
           exact h _ _ m ag
         |_=>exact k.elim
   |_=>exact j.elim
end
def gE:entryFor table "set.__iter__" = some Builtin.«frozenset.__iter__»:=entryFor_alias (id':= "frozenset.__iter__") (by kernel_rfl) rfl (by decide +kernel) (by kernel_rfl)
def BG:Slot "set_iterator" "__next__" "set_iterator.__next__" :=.of (owner:= "set_iterator") (n:= "__next__") (by rw[typeLookup_type,builtinLookup_eq_fast];kernel_rfl) (by decide +kernel) (by decide +kernel) (by decide +kernel) (by first|exact .inl (by decide +kernel)|exact .inr (by decide +kernel)) (by rw[isSubtype_type];kernel_rfl)
def Q9:entryFor table "set_iterator.__next__" = some Builtin.«set_iterator.__next__»:=entryFor_of_tree (by kernel_rfl)
def Yh:Manifest.owners.lookup (String.ofList ['r','o','t','a','r','e','t','i','_','t','e','s'].reverse)=some Manifest.sig_set_iterator:=by kernel_rfl
def Re(a:Value):argsOk "set_iterator.__next__" ⟨[a],[]⟩:=by
 unfold argsOk;rw[signature?_of (id:= "set_iterator.__next__") (n:=['_','_','t','x','e','n','_','_']) (o:=['r','o','t','a','r','e','t','i','_','t','e','s']) (by kernel_rfl) Yh];kernel_rfl
abbrev EI (f:Value) (i n ep:Nat) (D:Addr):Obj:={cls:=.type "set_iterator",data:=.fields #[f,rawInt i,.ref D,rawInt n,rawInt ep]}
structure Fj (hp:Heap) (D:Addr) (es:Array (Int×Value)) (ep:Nat) (tb:SetTable):Prop where
 ex:∃ob,hp.get? D=some ob/\ob.ExactSet/\ob.data=.set es ep tb
 fit:tb.fits es.size=true
section
variable {prog:Program} {w:World} {A:Around} {E:D'} {s:Shared} {It D:Addr} {es:Array (Int×Value)} {ep:Nat} {tb:SetTable}
def Fj.entries(x:Fj s.heap D es ep tb){Q:Array (Int×Value)->Shared->Prop}(q:Q es s):wpAny (model prog w) A (setEntries D) Q E s:=by
 obtain⟨b,a,_,c⟩:=x.ex;exact wpAny_setEntries_of a c x.fit q
def Fj.state(x:Fj s.heap D es ep tb){Q:(Array (Int×Value)×Nat×SetTable)->Shared->Prop}(q:Q (es,ep,tb) s):wpAny (model prog w) A (setState D) Q E s:=by
 obtain⟨b,a,_,c⟩:=x.ex;exact wpAny_setState_of a c x.fit q
def Fj.keep{c d:Heap}(x:Fj c D es ep tb)(k:∀ob,c.get? D=some ob->d.get? D=some ob):Fj d D es ep tb:=by
 obtain⟨ob,a,b⟩:=x.ex;exact⟨⟨ob,k _ a,b⟩,x.fit⟩
def gF{c a:Nat}{v:Value}{Q:Option Value->Shared->Prop}(hit:s.heap.get? It=some (EI (rawInt c) i es.size ep D))(g:Fj s.heap D es ep tb)
 (h:∀(B:Around)(j:D')(d:Option (Value×Nat)->Shared->Prop),d (some (v,a)) s->wpAny (model prog w) B (setNext D c i ep) d j s)
 (q:∀b,b.get? It=some (EI (rawInt a) (i+1) es.size ep D)->Heap.SameBut It s.heap b->Q (some v) {s with heap:=b}):wpAny (model prog w) A (pyNext (.ref It)) Q E s:=by
 have e:s.TypeIs (.ref It) "set_iterator" :=⟨_,hit,rfl⟩;unfold pyNext;refine Ad (wpAny_attempt (wpAny_callSpecial?_slot (name:=Str.ofString "__next__") e BG (wpAny_call_entry BG e Q9 ?_ (Re _))));unfold Builtin.«set_iterator.__next__» slotArgs;simp only[List.isEmpty_nil,Bool.not_true,Fz,↓reduceIte,GF,bne_self_eq_false];refine Ad (Aw ?_);refine Ad (wpAny_fieldsOf hit rfl ?_);show wpAny _ _ (setEntries D >>= _) _ _ s;refine Ad (g.entries ?_);rw[An (by simp)];refine Ad (h _ _ _ ?_);show wpAny _ _ (setField (Value.ref It) 0 (rawInt a) >>= _) _ _ s;refine Ad (wpAny_setField hit rfl (by simp) ?_);have f:(s.heap.update It (Obj.mapFields (·.setIfInBounds 0 (rawInt a)))).get? It=some (EI (rawInt a) i es.size ep D):=Heap.get?_update_self _ hit rfl;refine Ad (wpAny_setField f rfl (by simp) ?_);have k:=Heap.get?_update_self (Obj.mapFields (·.setIfInBounds 1 (rawInt ((i:Int)+1)))) f rfl;exact Aw ⟨_,rfl,Aw (q _ k ((Heap.SameBut.update ..).trans (Heap.SameBut.update ..)))⟩
def Yi{vs:Array Value}{ob:Obj}{Q:Option Value->Shared->Prop}(d:A.handled=none)(hit:s.heap.get? It=some ob)(hd:ob.data=.fields vs)(hz:2<vs.size)
 (q:∀c,Heap.ExtBut It s.heap c->Q none {s with heap:=c}):wpAny (model prog w) A.in1 (setField (Value.ref It) 2 Value.none >>= λ_=>newExc (Value.type "StopIteration") [] >>= λe=>raiseNew (α:=Fin) e) (λf Z=>∃v,f=Fin.done (Flow.ret v)/\wpAny (model prog w) A (pure (some v)) Q E Z)
  (λe Z=>wpAny (model prog w) A (isInstance e (Value.type "StopIteration") >>= λb=>if b=true then pure none else throw e) Q E Z) s:=by
 refine Ad (wpAny_setField hit hd hz ?_);refine Ad ?_;simp only[newExc,newTuple];refine Ad (wpAny_newObj_type ?_ (by size_fits));refine Ad (m:=firstArgMember _ _) (wpAny_of_eq (a:=Value.none) (by first|rfl|(simp only[firstArgMember];rfl)) ?_);refine wpAny_newObj_type ?_ (by size_fits);simp only[raiseNew];refine Ad (wpAny_handled ?_);rw[show A.in1.handled=none from d];refine Ad (Aw (wpAny_throw ?_))
 refine Ad (wpAny_isInstance (T:= "StopIteration") (b:=true) ⟨_,Cd _ rfl,rfl⟩ isSubtype_stop ?_);exact Aw (q _ (((Heap.SameBut.update ..).extBut.push _).push _))
def gH{a:Nat}{Q:Option Value->Shared->Prop}(e:A.handled=none)(hit:s.heap.get? It=some (EI (rawInt a) i es.size ep D))(f:Fj s.heap D es ep tb)
 (g:∀(B:Around)(h:D')(b:Option (Value×Nat)->Shared->Prop),b none s->wpAny (model prog w) B (setNext D a i ep) b h s)
 (q:∀c,Heap.ExtBut It s.heap c->Q none {s with heap:=c}):wpAny (model prog w) A (pyNext (.ref It)) Q E s:=by
 have d:s.TypeIs (.ref It) "set_iterator" :=⟨_,hit,rfl⟩;unfold pyNext;refine Ad (wpAny_attempt (wpAny_callSpecial?_slot (name:=Str.ofString "__next__") d BG (wpAny_call_entry BG d Q9 ?_ (Re _))));unfold Builtin.«set_iterator.__next__» slotArgs;simp only[List.isEmpty_nil,Bool.not_true,Fz,↓reduceIte,GF,bne_self_eq_false];refine Ad (Aw ?_);refine Ad (wpAny_fieldsOf hit rfl ?_);show wpAny _ _ (setEntries D >>= _) _ _ s;refine Ad (f.entries ?_);rw[An (by simp)];refine Ad (g _ _ _ ?_);exact Yi e hit rfl (by simp) q
def gI{ps:Array Value}{p:Nat}{t:Tok}{v:Value}{hv:Int}{Q:Option Value->Shared->Prop}(hit:s.heap.get? It=some (EI (.ref T) i es.size ep D))(b:Fj s.heap D es ep tb)(f:s.heap.IsTuple T ps)(a:ps[i]?=some (.int p t))(hv:es[p]?=some (hv,v))
 (q:∀a,a.get? It=some (EI (.ref T) (i+1) es.size ep D)->Heap.SameBut It s.heap a->Q (some v) {s with heap:=a}):wpAny (model prog w) A (pyNext (.ref It)) Q E s:=by
 have c:s.TypeIs (.ref It) "set_iterator" :=⟨_,hit,rfl⟩;obtain⟨g,d,h,nn,dt⟩:=f;unfold pyNext;refine Ad (wpAny_attempt (wpAny_callSpecial?_slot (name:=Str.ofString "__next__") c BG (wpAny_call_entry BG c Q9 ?_ (Re _))));unfold Builtin.«set_iterator.__next__» slotArgs;simp only[List.isEmpty_nil,Bool.not_true,Fz,↓reduceIte,GF,bne_self_eq_false];refine Ad (Aw ?_);refine Ad (wpAny_fieldsOf hit rfl ?_);show wpAny _ _ (setEntries D >>= _) _ _ s;refine Ad (b.entries ?_);rw[An (by simp)];show wpAny _ _ (seqItems? (.ref T) >>= _) _ _ s;refine Ad (Gr d dt ?_)
 show wpAny _ _ (match ps[i]? with|some (Value.int place tok)=>_|some val=>_|none=>_) _ _ s
 rw[a];show wpAny _ _ (setNextDrawn D p ep >>= _) _ _ s;refine Ad ?_;unfold setNextDrawn;refine Ad (b.state ?_);dsimp only;rw[An (by simp)];rw[hv];refine Aw ?_;show wpAny _ _ (setField (Value.ref It) 1 (rawInt ((i:Int)+1)) >>= _) _ _ s;refine Ad (wpAny_setField hit rfl (by simp) ?_);have e:=Heap.get?_update_self (Obj.mapFields (·.setIfInBounds 1 (rawInt ((i:Int)+1)))) hit rfl;exact Aw ⟨_,rfl,Aw (q _ e (Heap.SameBut.update ..))⟩
def gJ{ps:Array Value}{Q:Option Value->Shared->Prop}(c:A.handled=none)(hit:s.heap.get? It=some (EI (.ref T) i es.size ep D))(d:Fj s.heap D es ep tb)(g:s.heap.IsTuple T ps)(a:ps[i]?=none)
 (q:∀a,Heap.ExtBut It s.heap a->Q none {s with heap:=a}):wpAny (model prog w) A (pyNext (.ref It)) Q E s:=by
 have b:s.TypeIs (.ref It) "set_iterator" :=⟨_,hit,rfl⟩;obtain⟨h,e,j,nn,dt⟩:=g;unfold pyNext;refine Ad (wpAny_attempt (wpAny_callSpecial?_slot (name:=Str.ofString "__next__") b BG (wpAny_call_entry BG b Q9 ?_ (Re _))));unfold Builtin.«set_iterator.__next__» slotArgs;simp only[List.isEmpty_nil,Bool.not_true,Fz,↓reduceIte,GF,bne_self_eq_false];refine Ad (Aw ?_);refine Ad (wpAny_fieldsOf hit rfl ?_);show wpAny _ _ (setEntries D >>= _) _ _ s;refine Ad (d.entries ?_);rw[An (by simp)];show wpAny _ _ (seqItems? (.ref T) >>= _) _ _ s;refine Ad (Gr e dt ?_)
 show wpAny _ _ (match ps[i]? with|some (Value.int place tok)=>_|some val=>_|none=>_) _ _ s
 rw[a];show wpAny _ _ (setField (Value.ref It) 0 (rawInt 0) >>= _) _ _ s;refine Ad (wpAny_setField hit rfl (by simp) ?_);have f:=Heap.get?_update_self (Obj.mapFields (·.setIfInBounds 0 (rawInt 0))) hit rfl;exact Yi c f rfl (by simp) λa ex=>q a ((Heap.SameBut.update ..).extBut.trans ex)
def Ir{v:Value}{n:Int}(h:(intKind prog w).is n v=true):∃t,v=.int n t:=by
 have a:Value.isInt n v=true:=h;cases v<;>simp[Value.isInt] at a;subst a;exact⟨_,rfl⟩
theorem UZ{α:Type}:∀{l:List α}{i:Nat}(h:i<l.length),(l[i]::l.eraseIdx i).Perm l
 |x::l,0,_=>List.Perm.refl _
 |x::l,i+1,h=>(List.Perm.swap x _ _).trans (List.Perm.cons x (UZ (l:=l) (i:=i) (by simpa using h)))
theorem Yj{α:Type}(nx:Nat->Nat):∀(a k:Nat)(left:List α)(out:Array α),left.length=a->(pickOrder.go nx a k left out).toList.Perm (out.toList++left)
 |0,k,left,out,h=>by
   rw[List.length_eq_zero_iff.mp h];unfold pickOrder.go
   simp
 |a+1,k,left,out,h=>by
   have b:nx k%left.length<left.length:=Nat.mod_lt _ (by lia);unfold pickOrder.go;rw[AC b];dsimp only;refine(Yj nx a (k+1) _ _ (by rw[List.length_eraseIdx,Al b];lia)).trans ?_;rw[Array.toList_push,Gf];refine List.Perm.append_left _ ?_;exact UZ b
def gK{c:Source}{Q:Nat->Shared->Prop}(a:n≠0)(q:∀i b,i<n->Q i {s with drawn:=b}):wpAny (model prog w) A (choose c n) Q E s:=
 λ_ _ _=>⟨a,q _ _ (Nat.mod_lt _ (Nat.pos_of_ne_zero a))⟩
theorem Yk{α:Type}:∀(n:Nat)(xs:List α){A:Around}{E:D'}{s:Shared}{Q:List α->Shared->Prop},xs.length=n->(∀ys b,ys.Perm xs->Q ys {s with drawn:=b})->wpAny (model prog w) A (drawOrder n xs) Q E s
 |0,xs,A,E,s,Q,h,q=>by
   have e:=List.length_eq_zero_iff.mp h;subst e;unfold drawOrder;exact Aw (q [] s.drawn (List.Perm.refl _))
 |n+1,[],A,E,s,Q,h,q=>by cases h
 |n+1,x::xs,A,E,s,Q,h,q=>by
   unfold drawOrder;refine Ad (gK (by simp) λi b a=>?_);rw[AC a];dsimp only;refine Ad (Yk n _ (by rw[List.length_eraseIdx,Al a];lia) λys d c=>?_);exact Aw (q _ d ((List.Perm.cons _ c).trans (UZ a)))
end
def Yl:Slot "set_iterator" "__iter__" "set_iterator.__iter__" :=.of (owner:= "set_iterator") (n:= "__iter__") (by rw[typeLookup_type,builtinLookup_eq_fast];kernel_rfl) (by decide +kernel) (by decide +kernel) (by decide +kernel) (by first|exact .inl (by decide +kernel)|exact .inr (by decide +kernel)) (by rw[isSubtype_type];kernel_rfl)
def gL:entryFor table "set_iterator.__iter__" = some Builtin.«dict_keyiterator.__iter__»:=entryFor_alias (id':= "dict_keyiterator.__iter__") (by kernel_rfl) rfl (by decide +kernel) (by kernel_rfl)
def gM(a:Value):argsOk "set_iterator.__iter__" ⟨[a],[]⟩:=by
 unfold argsOk;rw[signature?_of (id:= "set_iterator.__iter__") (n:=['_','_','r','e','t','i','_','_']) (o:=['r','o','t','a','r','e','t','i','_','t','e','s']) (by kernel_rfl) Yh];kernel_rfl
section
variable {prog:Program} {w:World} {A:Around} {E:D'} {s:Shared} {It D:Addr} {es:Array (Int×Value)} {ep:Nat} {tb:SetTable}
def Ym{f:Value}(hit:s.heap.get? It=some (EI f i n ep D))(q:Q (.ref It) s):wpAny (model prog w) A (pyIter (.ref It)) Q E s:=by
 have a:s.TypeIs (.ref It) "set_iterator" :=⟨_,hit,rfl⟩;refine wpAny_pyIter_slot a Yl (wpAny_call_entry Yl a gL ?_ (gM _));show wpAny _ _ (ret (.ref It)) _ _ s;exact Aw ⟨_,rfl, "set_iterator",_,a,BG.lookup,q⟩
def MR{b:Addr}(h:b∈[It]):b∈[It,D]:=by rw[AW.mp h];exact Bn
def Yn(p:A.handled=none)(r:It≠D)(f:Nat->Nat)(vs:List Value)(H:vs.length=es.size)
 (t:∀(i:Nat)(v:Value)(s:Shared)(B:Around)(d:D')(c:Option (Value×Nat)->Shared->Prop),vs[i]?=some v->Fj s.heap D es ep tb->c (some (v,f (i+1))) s->wpAny (model prog w) B (setNext D (f i) i ep) c d s)
 (u:∀(s:Shared)(B:Around)(d:D')(c:Option (Value×Nat)->Shared->Prop),Fj s.heap D es ep tb->c none s->wpAny (model prog w) B (setNext D (f es.size) es.size ep) c d s) :
 Walks prog w A It [It,D] [It] es.size (λi v=>vs[i]?=some v) (λi h=>h.get? It=some (EI (rawInt (f i)) i es.size ep D)/\Fj h D es ep tb) where
 sub:=λb y=>MR y
 frame:=λi h I⟨a,b⟩k=>⟨k It Bn _ a,b.keep λC e=>k D (by simp) _ e⟩
 item:=λi s Q E J⟨a,b⟩q=>by
  have G:i<vs.length:=(by lia);have m:=AC G;refine gF (v:=vs[i]) a b (λB d c g=>t i _ s B d c m b g) λj F n=>?_;have:=q vs[i] j s.toks m ⟨F,b.keep λC e=>(n.2 D (Ne.symm r)).trans e⟩ λx o l e=>(n.2 x (λz=>l (by rw[z];exact Bn))).trans e;exact this
 done:=λs Q E⟨a,b⟩q=>gH p a b (λB d c g=>u s B d c b g) λj ex=>q j s.toks λx o l e=>ex x o (λz=>l (by rw[z];exact Bn)) e
 self:=λi s Q E⟨a,_⟩q=>Ym a q
def gN(l:A.handled=none)(m:It≠D)(n:It≠T)(ps:List Nat)(vs:List Value)(G:vs.length=es.size)(hv:∀(i:Nat)(v:Value),vs[i]?=some v->∃(p:Nat)(x:Int),ps[i]?=some p/\es[p]?=some (x,v))(d:ps.length=es.size) :
 Walks prog w A It [It,D,T] [It] es.size (λi v=>vs[i]?=some v) (λi h=>h.get? It=some (EI (.ref T) i es.size ep D)/\Fj h D es ep tb/\h.IsTuple T (ps.map λp:Nat=>rawInt (p:Int)).toArray) where
 sub:=λb r=>by rw[AW.mp r];exact Bn
 frame:=λi h H⟨a,b,c⟩k=>⟨k It Bn _ a,b.keep λu e=>k D (by simp) _ e,let ⟨o,e,x⟩:=c;⟨o,k T (by simp) _ e,x⟩⟩
 item:=λi s Q E I⟨a,b,c⟩q=>by
  have F:i<vs.length:=(by lia);have j:=AC F;obtain⟨p,x,y,B⟩:=hv i _ j;refine gI (v:=vs[i]) (hv:=x) (t:=0) a b c (by simp[y,rawInt]) B λd C f=>?_;exact q vs[i] d s.toks j ⟨C,b.keep λu e=>(f.2 D (Ne.symm m)).trans e,let ⟨o,e,x⟩:=c;⟨o,(f.2 T (Ne.symm n)).trans e,x⟩⟩ λx o g e=>(f.2 x (λz=>g (by rw[z];exact Bn))).trans e
 done:=λs Q E⟨a,b,c⟩q=>gJ l a b c (by simp[d]) λd ex=>q d s.toks λx o g e=>ex x o (λz=>g (by rw[z];exact Bn)) e
 self:=λi s Q E⟨a,_⟩q=>Ym a q
structure Fk (prog:Program) (w:World) (A:Around) (h0 hp:Heap) (D It:Addr) (ks:List Int):Prop where
 walk:∃(fp:List Addr)(St:Nat->Heap->Prop),Walks prog w A It fp [It] ks.length (λi v=>∃t,v=.int (ks.getD i 0) t) St/\St 0 hp/\∀b∈fp,b=D\/h0.objs.size<=b
 keep:∀b o,h0.get? b=some o->hp.get? b=some o
 new:h0.objs.size<=It
def Walks.weaker{a u:List Addr}{P b:Nat->Value->Prop}{St:Nat->Heap->Prop}(W:Walks prog w A It a u n P St)(h:∀i v,P i v->b i v):Walks prog w A It a u n b St where
 sub:=W.sub
 frame:=W.frame
 item:=λi s Q E c st q=>W.item i s Q E c st λv d tk pv=>q v d tk (h i v pv)
 done:=W.done
 self:=W.self
def U0{M:Int->Bool}{vs:List Value}(s:ElemsOf (intKind prog w) es.toList)(u:∀y,M y=true↔∃e∈es.toList,(intKind prog w).is y e.2=true)(f:vs.Perm (es.toList.map (·.2))):∃ks:List Int,ks.length=vs.length/\(∀(i:Nat)(v:Value),vs[i]?=some v->∃t,v=.int (ks.getD i 0) t)/\∀y,M y=true↔y∈ks:=by
 have z:∀v∈vs,∃n t,v=Value.int n t:=λv g=>by
  obtain⟨e,c,rfl⟩:=AZ.mp (f.mem_iff.mp g);obtain⟨⟨k,A,_⟩,_⟩:=s e c;obtain⟨t,j⟩:=Ir A;exact⟨k,t,j⟩
 have B:∀l:List Value,(∀v∈l,∃n t,v=Value.int n t)->∃ks:List Int,ks.length=l.length/\∀(i:Nat)(v:Value),l[i]?=some v->∃t,v=.int (ks.getD i 0) t:=λl=>by
  induction l with
  |nil=>exact λ_=>⟨[],rfl,λi v h=>by cases h⟩
  |cons x l C =>
    intro q;obtain⟨ks,a,b⟩:=C λv g=>q v (B6 _ g);obtain⟨n,t,e⟩:=q x Bn;refine⟨n::ks,by simp[a],λi v h=>?_⟩
    cases i with
    |zero=>simp at h;subst h;exact⟨t,e⟩
    |succ i=>simpa using b i v (by simpa using h)
 obtain⟨ks,a,b⟩:=B vs z;refine⟨ks,a,b,λy=>?_⟩;rw[u y];constructor;rintro⟨e,c,m⟩;obtain⟨t,j⟩:=Ir m;have D:e.2∈vs:=f.mem_iff.mpr (AZ.mpr ⟨e,c,rfl⟩);obtain⟨i,o,p⟩:=List.getElem_of_mem D;obtain⟨G,d⟩:=b i _ (AC o);rw[p,j] at d;have E:y=ks.getD i 0:=(by injection d);rw[E,B1,AC (show i<ks.length by lia)];exact EC _;intro m;obtain⟨i,o,p⟩:=List.getElem_of_mem m;have r:i<vs.length:=(by lia);obtain⟨t,d⟩:=b i _ (AC r);obtain⟨e,c,F⟩:=AZ.mp (f.mem_iff.mp (EC r));refine⟨e,c,?_⟩;rw[F,d,B1,AC o];show(intKind prog w).is y (.int ks[i] t)=true;rw[p];exact intKind_is _ _ _ _
def Yo{ks:List Int}:∀{vs:List Value},vs.length=ks.length->(∀(i:Nat)(v:Value),vs[i]?=some v->∃t,v=.int (ks.getD i 0) t)->IntsAre vs ks:=by
 induction ks with
 |nil=>intro vs a _;cases vs with
   |nil=>exact .nil
   |cons _ _=>simp at a
 |cons x r b =>
   intro vs a h
   cases vs with
   |nil=>simp at a
   |cons v vs =>
     obtain⟨t,e⟩:=h 0 v rfl;obtain rfl:v=.int x t:=e;exact .cons _ _ (b (by simpa using a) λi u c=>h (i+1) u (by simpa using c))
def Fk.of{a c:Heap}{d:List Addr}{m:Nat}{vs:List Value}{St:Nat->Heap->Prop}{ks:List Int}(W:Walks prog w A It d [It] m (λi v=>vs[i]?=some v) St)(e:ks.length=m)(f:∀(i:Nat)(v:Value),vs[i]?=some v->∃t,v=.int (ks.getD i 0) t)(st:St 0 c)(lt:∀b∈d,b=D\/a.objs.size<=b)(g:∀b o,a.get? b=some o->c.get? b=some o)(h:a.objs.size<=It):Fk prog w A a c D It ks:=
 ⟨⟨d,St,by rw[e];exact Walks.weaker W f,st,lt⟩,g,h⟩
def U1{f:Value}(b:Fj s.heap D es ep tb)(q:Q (.ref s.heap.objs.size) {s with heap:=s.heap.push (EI f 0 es.size ep D)}) :
 wpAny (model prog w) A (setEpoch D >>= λe=>newFields "set_iterator" [f,rawInt 0,Value.ref D,rawInt ↑es.size,rawInt ↑e] >>= λv=>ret v) (λg Z=>∃v,g=Fin.done (Flow.ret v)/\∃d r,Z.TypeIs v d/\typeLookup (Value.type d) (Str.ofString "__next__")=pure (some r)/\Q v Z) E s:=by
 obtain⟨h,a,_,c⟩:=b.ex;refine Ad (wpAny_setEpoch_of a c b.fit ?_);refine Ad (wpAny_newObj_type (Aw ⟨_,rfl, "set_iterator",_,⟨_,Cd _ rfl,rfl⟩,BG.lookup,?_⟩));exact q
def Yp{nx:Nat->Nat}{a:Nat}{v:Option (Value×Nat)}(d:w.params.followText "set-order" = true)(f:w.params.setOrder D ep=nx)(hv:((pickOrder nx es)[i]?).map (λe=>(e.2,a))=v)(b:Fj s.heap D es ep tb){Q:Option (Value×Nat)->Shared->Prop}(q:Q v s):wpAny (model prog w) A (setNext D a i ep) Q E s:=by
 unfold setNext;refine Ad (b.state ?_);dsimp only;unfold setsByText;refine Ad (Ad (wpAny_askSetting (Aw ?_)));have c:(model prog w).w.params.followText "set-order" = true:=d;dsimp only;rw[c,Al rfl];rw[An (by simp)];refine Ad ?_;unfold setWalk setsByText;refine Ad (b.state ?_);dsimp only;refine Ad (Ad (wpAny_askSetting (Aw ?_)));dsimp only;rw[c,Al rfl];refine Ad (wpAny_askSetting ?_);refine Aw ?_;have g:(model prog w).w.params.setOrder D ep=nx:=f;dsimp only;rw[g,hv];exact Aw q
def Yq{a:Nat}{v:Option (Value×Nat)}(c:w.params.followText "set-order" = false)(d:(!tb.plain && decide (es.size > 1))=false)(e:tb.led=true)(hv:(∃h x j,es[SetTable.below tb.place a]?=some (h,x)/\tb.place[SetTable.below tb.place a]?=some j/\v=some (x,j+1))\/(es[SetTable.below tb.place a]?=none/\v=none))(f:Fj s.heap D es ep tb){Q:Option (Value×Nat)->Shared->Prop}(q:Q v s):wpAny (model prog w) A (setNext D a i ep) Q E s:=by
 unfold setNext;refine Ad (f.state ?_);dsimp only;unfold setsByText;refine Ad (Ad (wpAny_askSetting (Aw ?_)));have k:(model prog w).w.params.followText "set-order" = false:=c
 dsimp only;rw[k,An Ct];refine wpAny_ite_split (λh=>absurd (show(!tb.plain && decide (es.size > 1))=true from h) (by rw[d];exact Ct)) (λ_=>?_);refine Ad ?_;show wpAny _ _ (if(!tb.led && !es.isEmpty)=true then _ else _) _ _ _;rw[e];simp only[Bool.not_true,Bool.false_and,Fz,↓reduceIte];refine Aw ?_
 rcases hv with⟨h,x,j,b,g,rfl⟩|⟨b,rfl⟩;rw[b,g];exact Aw q;rw[b];exact Aw q
theorem gO {M:Int->Bool}(J:A.handled=none) (hS:B3 (intKind prog w) (BW w) s.heap D M n)
 (q:∀(It:Addr)(t:Heap)(K:Drawn)(ks:List Int),ks.length=n->(∀y,M y=true↔y∈ks)->Fk prog w A s.heap t D It ks->Q (.ref It) {s with heap:=t,drawn:=K}):wpAny (model prog w) A (pyIter (.ref D)) Q E s:=by
 obtain⟨u,es,ep,tb,L,Y,x3,N,O,x6,x7,P,R⟩:=hS;have l:Fj s.heap D es ep tb:=⟨⟨u,L,Y,x3⟩,x7⟩;have hT:s.TypeIs (.ref D) "set" :=⟨u,L,Y.1⟩;have aa:D<s.heap.objs.size:=Br L;refine wpAny_pyIter_slot hT F.slot_set_iter (wpAny_call_entry F.slot_set_iter hT gE ?_ (F.args_set_iter_1 _));unfold Builtin.«frozenset.__iter__» Builtin.Frozenset.slot0 slotArgs;simp only[List.isEmpty_nil,Bool.not_true,Fz,↓reduceIte,bind_assoc,GF,bne_self_eq_false];unfold Builtin.Frozenset.addrOf Builtin.Frozenset.sizeOf;refine Ad (Aw ?_);dsimp only;refine Ad (Aw ?_);refine Ad (Ad (l.entries (Aw ?_)));unfold setDrawn setsByText;refine Ad (Ad (l.state ?_));dsimp only;refine Ad (Ad (wpAny_askSetting (Aw ?_)));refine Aw ?_;dsimp only;have n0:s.heap.objs.size≠D:=Nat.ne_of_gt aa
 have ab:∀{b:Addr},b∈[s.heap.objs.size,D]->b=D\/s.heap.objs.size<=b:=λ{b}a=>by
  rcases B5.mp a with rfl|a;exact .inr (AG _);exact .inl (AW.mp a)
 cases G:(model prog w).w.params.followText "set-order" with
 |true =>
   simp only[Bool.not_true,Bool.false_and,Fz,↓reduceIte];refine Ad (Aw ?_);refine U1 l ?_
   have S:((pickOrder (w.params.setOrder D ep) es).toList).Perm es.toList:=by
    have:=Yj (w.params.setOrder D ep) es.size 0 es.toList #[] (by simp);show(pickOrder.go (w.params.setOrder D ep) es.size 0 es.toList #[]).toList.Perm es.toList;simpa using this
   obtain⟨ks,g,z,C⟩:=U0 N O (S.map (·.2));have c:((pickOrder (w.params.setOrder D ep) es).toList.map (·.2)).length=es.size:=by rw[Ak,S.length_eq];simp
   have W:=Yn (prog:=prog) (w:=w) (A:=A) (It:=s.heap.objs.size) (D:=D) (es:=es) (ep:=ep) (tb:=tb) J n0 (λ_=>0) _ c
    (λi v Z B U V j m r=>Yp (nx:=w.params.setOrder D ep) G rfl (by
     rw[A8] at j;obtain⟨e,d,rfl⟩:=E8.mp j
     rw[<-Array.getElem?_toList,d];rfl) m r)
    (λZ B U V m r=>Yp (nx:=w.params.setOrder D ep) G rfl (by
     have hz:(pickOrder (w.params.setOrder D ep) es).toList.length=es.size:=by rw[S.length_eq];simp
     rw[<-Array.getElem?_toList,Gg (by lia)];rfl) m r)
   refine q _ _ s.drawn ks (by rw[g,c,P]) C (Fk.of W (g.trans c) z ⟨Cd _ rfl,l.keep λu e=>Bf _ e⟩ (λb a=>ab a) (λb o e=>Bf _ e) (AG _))
 |false =>
   have ae:tb.led=true:=by
    rw[R.led];unfold BW;have:w.params.followText "set-order" = false:=G;rw[this];rfl
   simp only[Bool.not_false,Bool.true_and]
   cases I:(!tb.plain && decide (es.size > 1)) with
   |true =>
     refine wpAny_ite_split (λ_=>?_) (λh=>absurd (show(!tb.plain && decide (es.size > 1))=true from I) h);refine Ad (Yk es.size _ List.length_range λk K t=>?_)
     have X:k.length=es.size:=by rw[t.length_eq];exact List.length_range
     refine Ad (wpAny_newObj_type ?_ (by show(List.map (λi:Nat=>rawInt (i:Int)) k).toArray.size<=sizeLine;rw[Ce,Ak,X];exact fits_of_scanBound x6));have af:Fj (s.heap.push {cls:=.type "tuple",data:=.seq (k.map λi:Nat=>rawInt (i:Int)).toArray}) D es ep tb:=l.keep λu e=>Bf _ e;refine U1 af ?_;have ah:∀p∈k,p<es.size:=λp h=>List.mem_range.mp (t.mem_iff.mp h)
     have vp:(k.map λp=>(es.getD p (0,.none)).2).Perm (es.toList.map (·.2)):=by
      have d:es.toList.map (·.2)=(List.range es.size).map λp=>(es.getD p (0,.none)).2:=by
       refine List.ext_getElem (by simp) λi h1 h2=>?_;simp at h1;simp[h1]
      rw[d];exact t.map _
     obtain⟨ks,g,z,C⟩:=U0 N O vp;have c:(k.map λp=>(es.getD p (0,.none)).2).length=es.size:=(by rw[Ak,X])
     have W:=gN (prog:=prog) (w:=w) (A:=A) (It:=(s.heap.push {cls:=.type "tuple",data:=.seq (k.map λi:Nat=>rawInt (i:Int)).toArray}).objs.size) (D:=D) (T:=s.heap.objs.size) (es:=es) (ep:=ep) (tb:=tb) J (by rw[Heap.size_push];exact Nat.ne_of_gt (Nat.lt_succ_of_lt aa)) (by rw[Heap.size_push];exact Nat.succ_ne_self _) k _ c (λi v j=>by
      rw[A8] at j;obtain⟨p,d,rfl⟩:=E8.mp j;have ai:=ah p (A9 d);refine⟨p,(es.getD p (0,.none)).1,d,?_⟩
      simp[ai]) X
     refine q _ _ K ks (by rw[g,c,P]) C (Fk.of W (g.trans c) z ⟨Cd _ rfl,af.keep λu e=>Bf _ e,⟨_,Bf _ (Cd _ rfl),rfl,_,rfl⟩⟩ (λb a=>?_) (λb o e=>Bf _ (Bf _ e)) (by rw[Heap.size_push];exact Nat.le_succ _));rcases B5.mp a with rfl|a;rw[Heap.size_push];exact .inr (Nat.le_succ _);rcases B5.mp a with rfl|a;exact .inl rfl;rw[AW.mp a];exact .inr (AG _)
   |false =>
     refine wpAny_ite_split (λh=>absurd (show(!tb.plain && decide (es.size > 1))=true from h) (by rw[I];exact Ct)) (λ_=>?_);refine Ad (Aw ?_);refine U1 l ?_;obtain⟨ks,g,z,C⟩:=U0 N O (List.Perm.refl _)
     have c:(es.toList.map (·.2)).length=es.size:=by simp
     have f:tb.place.size=es.size:=by
      have:=x7;unfold SetTable.fits at this;simp at this;exact this.1
     have ag:∀i,i<=tb.place.size->SetTable.below tb.place (if i=0 then 0 else tb.place.getD (i-1) 0+1)=i:=λi H=>by
      cases i with
      |zero=>exact f5 R.ris
      |succ i =>
        have aj:i<tb.place.size:=H;simp only[Nat.add_eq_zero_iff,Nat.one_ne_zero,and_false,↓reduceIte,Nat.add_sub_cancel];refine f6 R.ris ?_;rw[Array.getD_eq_getD_getElem?,Array.getElem?_eq_getElem aj];rfl
     have W:=Yn (prog:=prog) (w:=w) (A:=A) (It:=s.heap.objs.size) (D:=D) (es:=es) (ep:=ep) (tb:=tb) J n0 (λi=>if i=0 then 0 else tb.place.getD (i-1) 0+1) _ c
      (λi v Z B U V j m r=>Yq G I ae (.inl (by
       rw[A8] at j;obtain⟨⟨h,x⟩,d,rfl⟩:=E8.mp j;rw[Array.getElem?_toList] at d;have H:i<tb.place.size:=by rw[f];exact(Array.getElem?_eq_some_iff.mp d).1
       have a:=ag i (CI H);refine⟨h,x,tb.place.getD i 0,by rw[a];exact d,?_,by simp⟩
       rw[a,Array.getD_eq_getD_getElem?,Array.getElem?_eq_getElem H];rfl)) m r)
      (λZ B U V m r=>Yq G I ae (.inr ⟨by
       rw[ag es.size (Nat.le_of_eq f.symm)];simp,rfl⟩) m r)
     refine q _ _ s.drawn ks (by rw[g,c,P]) C (Fk.of W (g.trans c) z ⟨Cd _ rfl,l.keep λu e=>Bf _ e⟩ (λb a=>ab a) (λb o e=>Bf _ e) (AG _))
end
section
variable {prog:Program} {w:World} {A:Around} {E:D'} {s:Shared} {D:Addr}
theorem gP(a:s.TypeIs (.ref D) "set"){Q:Bool->Shared->Prop}(q:∀b,Q b s):wpAny (model prog w) A (Builtin.List.listLengthHint (.ref D)) Q E s:=by
 unfold Builtin.List.listLengthHint;refine Ad (wpAny_specialOf a F.slot_set_len.lookup ?_);generalize AM:("set.__len__" : String)=c
 wp_delta
 rw[show splitId c=some ("set", "__len__") by subst AM;decide +kernel];subst AM;refine Ad (wpAny_isInstance (T:= "set") (b:=true) a (by rw[isSubtype_type];kernel_rfl) (wpAny_ite_split (λh=>absurd h (by decide)) λ_=>?_));refine wpAny_ite_split (λ_=>Ad (NJ a (Aw (q _)))) λh=>absurd (by decide +kernel) h
theorem Km{M:Int->Bool}{R:Result->Shared->Prop}(N:A.handled=none)(r:B3 (intKind prog w) (BW w) s.heap D M n){S:Addr}(u:S≠D)(res:Value)(x:s.heap.get? S=some {cls:=.type "list",data:=.seq #[]})(O:n<=sizeLine)
 (q:∀h' g tk acc c(ks:List Int),(∀b o,b≠S->s.heap.get? b=some o->h'.get? b=some o)->h'.get? S=some {cls:=.type "list",dict:=none,data:=.seq acc c,slots:=#[]}->ItemsOf (λi v=>∃t,v=.int (ks.getD i 0) t) acc ks.length->ks.length=n->(∀y,M y=true↔y∈ks)->R (.ok (.ret res)) {s with heap:=h',drawn:=g,toks:=tk}) :
 wpAny (model prog w) A.in1 (Builtin.List.listExtendWith (.ref S) (.ref D) res)
  (λab Z=>match ab with|.done f=>R (.ok f) Z|.again B=>B.quiet=true/\codeAny (model prog w) A B R Z) (λe Z=>R (.error e) Z) s:=by
 have C:s.TypeIs (.ref D) "set" :=by obtain⟨k,_,_,_,a,b,_⟩:=r;exact⟨k,a,b.1⟩
 have ae:S<s.heap.objs.size:=Br x;unfold Builtin.List.listExtendWith;refine Ad (NJ C ?_);rw[An (by simp[Builtin.List.listSameRef,u])];refine Ad (gO (A:=A.in1) N r λIt l g ks E P Q=>?_);obtain⟨⟨T,St,W,st,af⟩,j,U⟩:=Q;have m:=j _ _ x;have G:S∉T:=λz=>(af S z).elim u λy=>absurd ae (Nat.not_lt_of_le y)
 have K:∀(h:Heap)(p:Nat),St 0 h->(∀b o,b≠S->s.heap.get? b=some o->h.get? b=some o)->h.get? S=some {cls:=.type "list",data:=.seq #[] p} ->
  codeAny (model prog w) A (.builtin "list.extend.loop" ⟨[.ref S,.ref It,res],[]⟩) R {s with heap:=h,drawn:=g}:=λh p ag V X=>by
  refine codeAny_extend_loopS W.toS (by rw[E];exact O) S G res ks.length 0 _ #[] p rfl (Di _) ag X (ItemsOf.nil _) λZ acc c H Y ah=>?_;rw[Moved.eq_with H];refine q Z.heap g Z.toks acc c ks (λb o I e=>H.heap b o (λz=>?_) (V b o I e)) Y ah E P;rcases B5.mp z with y|y;exact I y;have:=Br e;rw[AW.mp y] at this;exact absurd this (Nat.not_lt_of_le U)
 have quiet:(Code.builtin "list.extend.loop" ⟨[.ref S,.ref It,res],[]⟩).quiet=true:=plainId_quiet F.plain_extend_loop _;refine Ad (FA (gP (s:={s with heap:=l,drawn:=g}) (by obtain⟨k,a,b⟩:=C;exact⟨k,j _ _ a,b⟩) λb=>?_));refine wpAny_ite_split (λ_=>?_) λ_=>Aw ⟨quiet,K _ 0 st (λb o _ e=>j b o e) m⟩;refine Ad (Ht (Ad ?_));show wpAny _ _ (updateSeq S (·.push .none) >>= λ_=>updateSeq S (·.pop)) _ _ _;refine Ad (wpAny_updateSeq m rfl ?_);have J:=Heap.get?_update_self (Obj.mapSeq (·.push Value.none)) m rfl;refine wpAny_updateSeq (hz:=by seq_fits) J rfl ?_;have aa:=Heap.get?_update_self (Obj.mapSeq (·.pop)) J rfl;have L:∀b,b≠S->((l.update S (Obj.mapSeq (·.push Value.none))).update S (Obj.mapSeq (·.pop))).get? b=l.get? b:=λb d=>(Heap.get?_update_other _ _ (Ne.symm d)).trans (Heap.get?_update_other _ _ (Ne.symm d));exact Aw ⟨quiet,K _ _ (W.frame 0 _ _ st λb d o e=>(L b λz=>G (z▸d)).trans e) (λb o d e=>(L b d).trans (j b o e)) aa⟩
theorem gQ{M:Int->Bool}{Q:List Value->Shared->Prop}(t:A.handled=none)(p:B3 (intKind prog w) (BW w) s.heap D M n)(u:n<=sizeLine)
 (q:∀h' d tk acc(ks:List Int),(∀b o,s.heap.get? b=some o->h'.get? b=some o)->IntsAre acc ks->ks.length=n->(∀y,M y=true↔y∈ks)->Q acc {s with heap:=h',drawn:=d,toks:=tk}):wpAny (model prog w) A (collect (.ref D)) Q E s:=by
 have G:D<s.heap.objs.size:=by obtain⟨z,_,_,_,a,_⟩:=p;exact Br a
 unfold collect;refine Ad (wpAny_runValue (codeAny_builtin entry_proto_collect' ?_));rw[Around.under_plainId F.plain_proto_collect _];show wpAny _ A.in1 (newList [] >>= λl=>again (.builtin "list.__iadd__" ⟨[l,.ref D],[]⟩)) _ _ s;refine Ad (wpAny_newObj_type (Aw ⟨plainId_quiet F.plain_list_iadd _,codeAny_builtin entry_list_iadd' ?_⟩));rw[Around.under_plainId F.plain_list_iadd _];show wpAny _ A.in1 (Builtin.List.listExtendWith (.ref s.heap.objs.size) (.ref D) (.ref s.heap.objs.size)) _ _ _
 refine FY (Km (A:=A) (s:={s with heap:=s.heap.push {cls:=.type "list",data:=.seq ([]:List Value).toArray}}) (S:=s.heap.objs.size)
  (R:=λr Z=>∃h' d tk acc c,∃ks:List Int,r=.ok (.ret (.ref s.heap.objs.size))/\Z={s with heap:=h',drawn:=d,toks:=tk}/\(∀b o,s.heap.get? b=some o->h'.get? b=some o)/\h'.get? s.heap.objs.size=some {cls:=.type "list",dict:=none,data:=.seq acc c,slots:=#[]}/\IntsAre acc.toList ks/\ks.length=n/\∀y,M y=true↔y∈ks)
  t (p.keep λz e=>Bf _ e) (Nat.ne_of_gt G) _ (Cd _ rfl) u λh' d tk acc c ks h j g k m=>⟨h',d,tk,acc,c,ks,rfl,rfl,λb o e=>h b o (CF (Br e)) (Bf _ e),j,?_,k,m⟩) (λH Z x=>?_) λe Z x=>?_
 exact Yo (by rw[Array.length_toList,g.1]) λi v B=>g.2 i v (by rw[<-Array.getElem?_toList];exact B)
 . cases H with
   |done f =>
     obtain⟨h',d,tk,acc,c,ks,e,rfl,h,j,g,k,m⟩:=x;cases e;show wpAny _ A (load s.heap.objs.size >>= _) _ _ _;exact Ad (wpAny_load j (Aw (q h' d tk acc.toList ks h g k m)))
   |again I =>
     refine⟨x.1,codeAny_mono x.2 λr J y=>?_⟩;obtain⟨h',d,tk,acc,c,ks,rfl,rfl,h,j,g,k,m⟩:=y;show wpAny _ A (load s.heap.objs.size >>= _) _ _ _;exact Ad (wpAny_load j (Aw (q h' d tk acc.toList ks h g k m)))
 obtain⟨_,_,_,_,_,_,C,_⟩:=x;cases C
end
def MS{l:List Int}:∀{m:List Int},l.Nodup->(∀x∈l,x∈m)->m.length<=l.length->m.Nodup:=by
 induction l with
 |nil=>intro m _ _ h;rw[List.length_eq_zero_iff.mp (Nat.le_zero.mp h)];exact List.nodup_nil
 |cons a l g =>
   intro m d f i;obtain⟨j,k⟩:=Gd.mp d;have c:=List.perm_cons_erase (f a Bn)
   have n:(m.erase a).length<=l.length:=by
    have:=c.length_eq;simp at this i;lia
   have sub:∀x∈l,x∈m.erase a:=λx b=>by
    have:=c.mem_iff.mp (f x (B6 _ b));rcases B5.mp this with e|e;exact absurd (e▸b) j;exact e
   refine c.nodup_iff.mpr (Gd.mpr ⟨λo=>?_,g k sub n⟩)
   have:(a::l).length<=(m.erase a).length:=Ord.nodup_sub_length d λx b=>by
    rcases B5.mp b with e|e;rw[e];exact o;exact sub x e
   simp at this;lia
def Ko{l:List Int}(h:l.Pairwise (·<=·))(c:l.Nodup):l.Pairwise (· < ·):=(h.and c).imp λ{a b}⟨x,y⟩=>by lia
set_option tactic.hygienic true in
def Ps{l:List Int}{x:Int}(h:l.Nodup):(step_dedup l x).Nodup:=by
 unfold step_dedup;split;exact h;rename_i c;refine List.nodup_append.mpr ⟨h,List.pairwise_singleton _ _,λa d b f e=>c ?_⟩;rw[AW.mp f] at e;rw[GG];exact⟨a,d,by rw[e];simp⟩
theorem Yr(f:Nat->Int):∀i,(B4 f i).Nodup
 |0=>List.nodup_nil
 |i+1=>by rw[Pr];exact Ps (Yr f i)
def Iu (P:Program) (w:World) (a:Addr) (ns:List Int):HO:=.ext λh=>∃ds:List Int,ds.Nodup/\(∀y,y∈ds↔y∈ns)/\B3 (intKind P w) (BW w) h a (λy=>ds.any (·==y)) ds.length
section
variable {prog:Program} {w:World} {A:Around} {E:D'} {s:Shared} {D:Addr}
def gR{M:Int->Bool}(p:A.handled=none)(r:B3 (intKind prog w) (BW w) s.heap D M n)(B:n<64)
 (q:∀(R:Addr)h' c tk k out(ks:List Int),(∀b o,s.heap.get? b=some o->h'.get? b=some o)->(∀b o,s.heap.get? b=some o->b≠R)->h'.get? R=some {cls:=.type "list",data:=.seq out k}->IntsAre out.toList ks->ks.length=n->(∀y,M y=true↔y∈ks)->ks.Pairwise (·<=·)->Q (.ref R) {s with heap:=h',drawn:=c,toks:=tk}) :
 wpAny (model prog w) A (call (.builtin "sorted") [.ref D]) Q E s:=by
 refine Calls.call_function_entry kind_sorted plain_sorted entry_sorted (args_sorted1 _) ?_;unfold Builtin.«sorted»;refine Ad (m:=checkCount "sorted" 1 1 _) (Aw ?_);refine Ad (gQ (A:=A.in1) p r (CI (BK (by lia))) λd c tk a ks f h i t=>?_);have u:a.length<64:=by rw[h.length,i];exact B
 refine Ad (wpAny_newList ?_ (CI (BK (by lia))));have g:(d.push {cls:=.type "list",data:=.seq a.toArray}).get? d.objs.size=some (seqObj "list" a.toArray 0):=Cd _ rfl;refine Ad (FA (wpAny_call_entry slot_list_sort ⟨_,g,rfl⟩ entry_list_sort (list_sort_tree g h u λout C v j x=>⟨_,rfl,?_⟩) (args_list_sort _)));obtain⟨k,z⟩:=sortedHeap_at (vs:=a) (out:=out) g;refine Aw ⟨_,rfl,q d.objs.size _ c tk k out C (λb o e=>?_) (λb o e=>CF (Br (f b o e))) z v (by rw[j.length_eq,i]) (λy=>by rw[t,j.mem_iff]) x⟩;have l:=Br (f b o e);rw[sortedHeap_old (CF l) (by rw[Heap.size_push];exact Nat.lt_succ_of_lt l)];exact Bf _ (f b o e)
end
section
variable {X:Cx} {pins:B'} {σ:L2.St} {H:Hp} {s:Shared}
def Inv.drew(I:Inv X pins σ H s)(a:Drawn):Inv X pins σ H {s with drawn:=a}:=
 I.step (h':=s.heap) (H':=H) (g':=s.gens) (t':=s.toks) (d':=a) (ch:=[]) (λ_ z=>nomatch z) (λ_ _ _ _ _ e _=>e) (λ_ o _ _ _ e _=>⟨o.slots,e⟩) (λ_ _ _ _ n=>n) (λ_ o _ e=>⟨o,e⟩) (λ_ _ e=>e) (λ_ _ _ e=>e) (λ_ b e=>⟨#[],by rw[e];simp⟩) (λ_ h=>h) I.hok I.bare
def Pt (P:Program) (w:World) (K:Ah):List V->Hp->VK->Prop:=λvs H Q=>∃(p:Addr)(ns:List Int),vs=[.ref p]/\Ae K H p (ns.map V.int)/\ns.length<=4000/\∀q,H q=none->Q (.ref q) (upd H q (Iu P w q ns))
def gS{ns:List Int}{a:List Value}(r:At (ns.map V.int) a):∀(i:Nat)(v:Value),a.toArray[i]?=some v->∃t,v=.int (ns.getD i 0) t:=λi v e=>by
 have d:a[i]?=some v:=(by simpa using e);have f:=r.length;rw[Ak] at f;have b:i<ns.length:=by have:=(AY.mp d).1;lia
 obtain⟨u,c,g⟩:=r.get (i:=i) (x:=.int ns[i]) (by rw[A8,AC b];rfl);rw[d] at c;cases c;rw[B1,AC b];exact g
def Ys(v:X.calm=true):A6 X (.type "set") (Pt X.prog X.w X.K):=by
 intro pins s σ H L us Q I r h;obtain⟨p,c,rfl,w,M,q⟩:=h;obtain⟨u,rfl,z⟩:=Fa r;obtain rfl:u=Value.ref p:=z;obtain⟨g,l,A,_⟩:=I.list w;have m:=l.length;rw[Ak] at m;have t:g.toArray.size=c.length:=(by rw[Ce,m]);refine gD (f:=λi=>c.getD i 0) (I.ok.hd v) A.isList (gS l) (by rw[t];unfold scanBound;lia) λB tk n k=>?_;have U:∀b u,s.heap.get? b=some u->B.get? b=some u:=λb u e=>k b u (Br e) e;refine⟨.ref s.heap.objs.size,upd H s.heap.objs.size (Iu X.prog X.w s.heap.objs.size c),I.laid (t':=tk) U (AG _) ?_,rfl,q _ I.fresh⟩;refine⟨⟨_,Yr _ _,λy=>?_,n⟩,?_,λN O⟨C,D,E,F⟩G=>⟨C,D,E,F.keep λJ e=>G J e⟩⟩;have:=Yg (λi=>c.getD i 0) g.toArray.size y;rw[GG] at this;have e:(∃x,x∈B4 (λi=>c.getD i 0) g.toArray.size/\(x==y)=true)↔y∈B4 (λi=>c.getD i 0) g.toArray.size:=⟨λ⟨x,a,b⟩=>by rw[<-eq_of_beq b];exact a,λa=>⟨y,a,by simp⟩⟩;rw[<-e,this,t];constructor;rintro⟨j,d,rfl⟩;rw[B1,AC d];exact EC d;intro K;obtain⟨j,d,e⟩:=List.getElem_of_mem K;exact⟨j,d,by rw[B1,AC d];exact e⟩;obtain⟨o,_,_,_,e,_⟩:=n;exact⟨o,e⟩
def MT (P:Program) (w:World):List V->Hp->VK->Prop:=λvs H Q=>∃(d:Addr)(ns:List Int),vs=[.ref d]/\H d=some (Iu P w d ns)/\(∀ds:List Int,ds.Nodup->(∀y∈ds,y∈ns)->ds.length<64)/\∀D(ms:List Int),ms.Pairwise (· < ·)->(∀y,y∈ms↔y∈ns)->H D=none->Q (.ref D) (upd H D (.lst (ms.map V.int)))
def gT(n:X.calm=true):A6 X (.builtin "sorted") (MT X.prog X.w):=by
 intro pins s σ H G us Q I r h;obtain⟨d,J,rfl,hd,D,q⟩:=h;obtain⟨u,rfl,o⟩:=Fa r;obtain rfl:u=Value.ref d:=o;obtain⟨⟨f,g,i,p⟩,_,_⟩:=I.hok d _ hd;have t:=D f g λy e=>(i y).mp e;refine gR (I.ok.hd n) p t λR K v tk k E c U j w z l A B=>?_
 have m:∀y,y∈c↔y∈f:=λy=>by
  rw[<-A y,GG];exact⟨λ⟨x,a,b⟩=>by rw[<-eq_of_beq b];exact a,λa=>⟨y,a,by simp⟩⟩
 have C:c.Nodup:=MS g (λy e=>(m y).mpr e) (Nat.le_of_eq l);have F:(c.map V.int).length<=sizeLine:=by rw[Ak,l];exact CI (BK (by lia))
 exact⟨.ref R,upd H R (.lst (c.map V.int)),(I.drew v).laidN (t':=tk) U j ⟨F,E.toList,k,Qz z,by rw[Array.toArray_toList];exact w⟩,rfl,q R c (Ko B C) (λy=>(m y).trans (i y)) (I.freshN j)⟩
end
def Fl (gs:List (Str×Int)) (n:Int):List Int:=match gs[n.toNat]? with
 |some p=>if p.1=("sort" : Str) then[p.2] else[]
 |none=>[]
def FM (gs:List (Str×Int)) (as:List (C')) (q:Int):List Int:=match as[q.toNat]? with
 |some (some w)=>if w.1=("thing" : Str) then Fl gs w.2 else[]
 |_=>[]
def F8 (W:Wd) (st:Int) (p:B9):List Int:=if p.2.1=("by" : Str)/\(Ez (D8 W st) p.1).isSome=true then p.2.2::FM W.gs W.as p.2.2 else[]
def By (W:Wd) (b:AO):List Int:=(BV W b.2.1).flatMap (F8 W b.2.2)
def Fm (ss:List Bh) (w:List Aq):List Int:=if(Cv ss w).2.2.1=("by" : Str) then[(Cv ss w).2.2.2] else[]
def FV (W:Wd) (l:Lk):List Int:=l.1.flatMap (By W)++l.2.1.flatMap (Fm W.ss)
def CL (W:Wd) (ls:List Lk) (ts:List Int):List Int:=ls.flatMap (FV W)++ts.flatMap (Fl W.gs)
def Gm (as as':List (C')) (U:List Int):Prop:=∀q∈U,as'[q.toNat]?=as[q.toNat]?
section
variable {ths:List (Str×Int)} {as as':List (C')}
def Yt{n:Int}{k:Str×Int}(h:ths[n.toNat]?=some k)(c:Gm as as' (Fl ths n)):C4 ths as' k=C4 ths as k:=by
 unfold C4;by_cases b:k.1=("part" : Str);rw[Al b,Al b];rw[An b,An b];by_cases a:k.1=("sort" : Str);rw[Al a,Al a];have:as'[k.2.toNat]?=as[k.2.toNat]?:=c _ (by unfold Fl;rw[h];dsimp only;rw[Al a];exact AW.mpr rfl);unfold DS;rw[this];rw[An a,An a]
def gU{p:B9}(h:p.2.1=("to" : Str)\/Gm as as' (p.2.2::FM ths as p.2.2)):BJ ths as' p=BJ ths as p:=by
 unfold BJ;by_cases a:p.2.1=("to" : Str);rw[Al a,Al a];rw[An a,An a];have c:=h.resolve_left a;have d:=c _ Bn;rw[d]
 cases e:as[p.2.2.toNat]? with
 |none=>rfl
 |some o =>
   cases o with
   |none=>rfl
   |some w =>
     dsimp only;by_cases b:w.1=("thing" : Str);rw[Al b,Al b]
     cases f:ths[w.2.toNat]? with
     |none=>rfl
     |some k =>
       refine Yt f λq g=>c q (B6 _ ?_);unfold FM;rw[e];dsimp only;rw[Al b];exact g
     rw[An b,An b]
end
section
variable {W:Wd} {as':List (C')} {ord:A'} {sc st:Int}
theorem Yu{go:List (Str×Int)}{s:Int}:∀{l:List B9}{i:Nat},(∀p∈l,(Ez go p.1).isSome=true->BJ W.gs as' p=BJ W.gs W.as p)->EA (W.late as') s go l i=EA W s go l i
 |[],i,_=>rfl
 |p::l,i,h=>by
   show Fe (W.late as') s go p i++EA (W.late as') s go l (i+1)=Fe W s go p i++EA W s go l (i+1);rw[Yu λq b=>h q (B6 _ b)];congr 1;unfold Fe
   cases e:Ez go p.1 with
   |none=>rfl
   |some a=>dsimp only;rw[h p Bn (by rw[e];rfl)]
def Yv(ok:BS W)(f:Gm W.as as' (By W b)):GI (W.late as') b.2.1 b.2.2=GI W b.2.1 b.2.2:=by
 refine Yu λp d g=>gU ?_
 have h:EY W.ss.length W.as.length p:=by
  have a:p∈BV W b.2.1:=d;unfold BV at a
  cases e:W.ss[b.2.1.toNat]? with
  |none=>rw[e] at a;cases a
  |some s=>rw[e] at a;exact ok.kst s (A9 e) p a
 rcases h with⟨c,_⟩|⟨c,_⟩;exact .inl c;refine .inr λq i=>f q (List.mem_flatMap.mpr ⟨p,d,?_⟩);unfold F8;rw[Al ⟨c,g⟩];exact i
def Kp(ok:BS W){bs:List AO}(d:∀b,b∈bs↔AQ W sc st b)(e:Gm W.as as' (bs.flatMap (By W)))(b:AO):AQ (W.late as') sc st b↔AQ W sc st b:=by
 have kd:∀c,AQ W sc st c->CC (W.late as') c=CC W c:=λc f=>by
  unfold CC;rw[Yv ok λq g=>e q (List.mem_flatMap.mpr ⟨c,(d c).mpr f,g⟩)]
 constructor;intro h
 induction h with
 |root=>exact .root
 |@kid b c _ k a=>rw[kd b a] at k;exact .kid a k
 intro h
 induction h with
 |root=>exact .root
 |@kid b c i k a=>rw[<-kd b i] at k;exact .kid a k
theorem Yw{b:AO}{x:Str}:∀(l:List DT)(i:Nat),DV (W.late as') b x l i=DV W b x l i
 |[],_=>rfl
 |q::l,i=>by
   show FI (W.late as') b x q i++DV (W.late as') b x l (i+1)=FI W b x q i++DV W b x l (i+1);rw[Yw l (i+1)];rfl
def gW(bs:List AO):D9 (W.late as') x bs=D9 W x bs:=by
 unfold D9;congr 1;funext b;exact Yw _ _
theorem Yx{α β:Type}{f g:α->List β}:∀{l:List α},(∀a∈l,f a=g a)->l.flatMap f=l.flatMap g
 |[],_=>rfl
 |a::l,h=>by rw[List.flatMap_cons,List.flatMap_cons,h a Bn,Yx λb c=>h b (B6 _ c)]
def Rf(ok:BS W){l:Lk}(h:Cs W ord sc st x l os)(a:Gm W.as as' (l.1.flatMap (By W))):Cs (W.late as') ord sc st x l os:=by
 refine⟨⟨λb=>(h.b.mem b).trans (Kp ok h.b.mem a b).symm,h.b.nd,h.b.srt,h.b.few⟩,⟨by rw[gW];exact h.f.perm,h.f.srt⟩,h.s,⟨?_,h.o.srt⟩⟩
 have:F4 (W.late as') l.1=F4 W l.1:=by
  unfold F4;refine Yx λb c=>?_;rw[Yv ok λq d=>a q (List.mem_flatMap.mpr ⟨b,c,d⟩)]
 rw[this];exact h.o.perm
def gX(a:Gm W.as as' (Fm W.ss w)):EQ (W.late as') w=EQ W w:=by
 unfold EQ
 show(if(Cv W.ss w).2.2.1=("by" : Str)/\as'[(Cv W.ss w).2.2.2.toNat]?=some none then some (Cv W.ss w).2.2.2 else none)=_
 by_cases c:(Cv W.ss w).2.2.1=("by" : Str);rw[a _ (by unfold Fm;rw[Al c];exact AW.mpr rfl)];rw[An λz=>c z.1,An λz=>c z.1]
set_option tactic.hygienic true in
def gY(b:Bd W)(c:C5 W.ss w)(d:Gm W.as as' (Fm W.ss w)):Bt (W.late as') w=Bt W w:=by
 unfold Bt
 show(if(Cv W.ss w).2.2.1=("thing" : Str) then some (Cv W.ss w).2.2.2 else match as'[(Cv W.ss w).2.2.2.toNat]? with
  |some (some p)=>if p.1=("thing" : Str) then some p.2 else none
  |_=>none)=_
 rcases MN b c with⟨a,_⟩|⟨a,_⟩;rw[Al a,Al a]
 rw[d _ (by unfold Fm;rw[Al a];exact AW.mpr rfl)]<;>(cases W.as[(Cv W.ss w).2.2.2.toNat]?<;>first|rfl|(rename_i o;cases o<;>rfl))
theorem Yy:∀{ws:List (List Aq)},(∀w∈ws,EQ (W.late as') w=EQ W w)->Fh (W.late as') ws=Fh W ws
 |[],_=>rfl
 |w::ws,h=>by
   unfold Fh;rw[h w Bn,Yy λv hv=>h v (B6 _ hv)]
def Rg(ok:BS W)(e:Bd W)(i:0<=sc/\sc<W.ss.length)(j:0<=st/\st<W.sts.length){l:Lk}(h:Cs W ord sc st x l os)(f:Gm W.as as' (l.2.1.flatMap (Fm W.ss)))(at_:Int):Cb (W.late as') ord l.2.1 os at_=Cb W ord l.2.1 os at_:=by
 have sub:∀w∈CH W.ss ord l.2.1 l.2.1,w∈l.2.1:=λw a=>N7 a;have c:∀w∈l.2.1,Gm W.as as' (Fm W.ss w):=λw a q g=>f q (List.mem_flatMap.mpr ⟨w,a,g⟩)
 have d:Ea (W.late as') ord l.2.1 os=Ea W ord l.2.1 os:=by
  unfold Ea
  show(match Fi W.ss ord l.2.1 os with|some o=>some o|none=>Fh (W.late as') (CH W.ss ord l.2.1 l.2.1))=_
  rw[Yy λw a=>gX (c w (sub w a))]<;>(cases Fi W.ss ord l.2.1 os<;>rfl)
 cases b:Ea W ord l.2.1 os with
 |some o=>rw[MM b,MM (d.trans b)]
 |none =>
   rw[Jc b,Jc (d.trans b)];have:Dr (W.late as') (CH W.ss ord l.2.1 l.2.1) at_=Dr W (CH W.ss ord l.2.1 l.2.1) at_:=X2 at_ λw a=>gY e (G6 ok i j h w (sub w a)) (c w (sub w a));rw[<-this]
def U2{n:Int}(a:Gm W.as as' (Fl W.gs n)):Cc (W.late as') n=Cc W n:=by
 unfold Cc
 show(match W.gs[n.toNat]? with|some p=>C4 W.gs as' p|none=>(("no" : Str),(0:Int)))=_
 cases e:W.gs[n.toNat]? with
 |none=>rfl
 |some p=>exact Yt e a
end
def Gm.sub{U V:List Int}(h:Gm as as' U)(s:∀q∈V,q∈U):Gm as as' V:=λq a=>h q (s q a)
def MU(ok:BS W)(g:Bd W)(v:0<=inn/\inn<W.sts.length){p:List Str}{w:Option Wt}(k:LU W inn ord sc st p at_ a w ls ts) :
 0<=sc/\sc<W.ss.length->0<=st/\st<W.sts.length->Gm W.as as' (CL W ls ts)->LU (W.late as') inn ord sc st p at_ a w ls ts:=by
 have j:∀{l:Lk}{ls:List Lk}{ts:List Int},∀q∈l.1.flatMap (By W),q∈CL W (l::ls) ts:=λq b=>Eu _ (List.mem_flatMap.mpr ⟨_,Bn,Eu _ b⟩);have m:∀{l:Lk}{ls:List Lk}{ts:List Int},∀q∈l.2.1.flatMap (Fm W.ss),q∈CL W (l::ls) ts:=λq b=>Eu _ (List.mem_flatMap.mpr ⟨_,Bn,Du _ b⟩);have o:∀{n:Int}{ls:List Lk}{ts:List Int},∀q∈Fl W.gs n,q∈CL W ls (n::ts):=λq b=>Du _ (List.mem_flatMap.mpr ⟨_,Bn,b⟩)
 induction k with
 |stop h e n=>exact λd f c=>.stop (Rf ok h (c.sub j)) ((Rg ok g d f h (c.sub m) _).trans e) n
 |opn h e i=>exact λd f c=>.opn (Rf ok h (c.sub j)) ((Rg ok g d f h (c.sub m) _).trans e) ((U2 (c.sub o)).trans i)
 |no h e i=>exact λd f c=>.no (Rf ok h (c.sub j)) ((Rg ok g d f h (c.sub m) _).trans e) ((U2 (c.sub o)).trans i)
 |go h e i x t =>
   intro d f c;have u:=Jd ok g (G6 ok d f h) e;refine .go (Rf ok h (c.sub j)) ((Rg ok g d f h (c.sub m) _).trans e) ((U2 (c.sub o)).trans i) (t (Pq ok u i) v (c.sub λq b=>?_));rcases BI.mp b with b|b;obtain⟨r,s,b⟩:=List.mem_flatMap.mp b;exact Eu _ (List.mem_flatMap.mpr ⟨r,B6 _ s,b⟩);obtain⟨r,s,b⟩:=List.mem_flatMap.mp b;exact Du _ (List.mem_flatMap.mpr ⟨r,B6 _ s,b⟩)
section
variable {X:Cx}
def Pu:R2:=λx y H Q=>∃l xs n,x=.ref l/\y=.int n/\H l=some (.lst xs)/\(0<=n/\n<=1000)/\xs.length*n.toNat<=1000/\∀p,H p=none->Q (.ref p) (upd H p (.lst (List.replicate n.toNat xs).flatten))
theorem Yz:∀(n:Nat){xs:List V}{us:List Value},At xs us->At (List.replicate n xs).flatten (List.replicate n us).flatten
 |0,_,_,_=>.nil
 |n+1,xs,us,h=>by
   rw[List.replicate_succ,List.replicate_succ,List.flatten_cons,List.flatten_cons];exact h.append (Yz n h)
theorem YA:Dv X (binaryOp .Mult) Pu:=by
 intro w s σ H x y v u Q I i j h;obtain⟨l,xs,n,rfl,rfl,k,p,d,q⟩:=h;obtain rfl:v=Value.ref l:=i;obtain⟨t,rfl⟩:=j;obtain⟨z,b,c,f,e⟩:=(show AB X.prog X.w _ s.heap l (.lst xs) from I.hok l _ k);have g:=f.length
 have r:b.toArray.size*n.toNat<=1000:=by rw[Ce,<-g];exact d
 have A:b.length*n.toNat<=1000:=by rw[<-g];exact d
 refine wpAny_binaryOp_repeat_ref (T:= "list") (U:= "int") (by decide) ⟨_,e,rfl⟩ (λZ=>typeIs_int Z n t) noFill_list_mul F.fills_int_mul F.slot_int_rmul repeat_list F.slot_int_index.lookup
  (call_meets F.slot_int_rmul (typeIs_int s n t) F.entry_int_rmul (F.args_int_rmul_2 _ _) (int___rmul___int_list n t l b.toArray c)
   ⟨e,rfl,⟨_,e,rfl⟩,call_meets F.slot_list_mul ⟨_,e,rfl⟩ F.entry_list_mul (F.args_list_mul_2 _ _) (AutoListH.list___mul___list_int_3 l b.toArray c n t (by simp[Builtin.List.listFitsIndex];lia) (by lia) (by simp[Builtin.List.listTooLong,sizeLine];lia)) ⟨e,?_⟩⟩)
 rw[listMul_foldl_if];have m:=Yz n.toNat f;refine⟨.ref s.heap.objs.size,_,I.laid (a:=s.heap.objs.size) (o:=.lst (List.replicate n.toNat xs).flatten) (t':=s.toks) (λ_ _ q=>Bf _ q) (AG _) ⟨?_,_,0,m,Cd _ rfl⟩,rfl,q _ (I.hok.fresh (AG _))⟩;rw[List.length_flatten,List.map_replicate,List.sum_replicate_nat,Nat.mul_comm];exact CI (BK (by lia))
def Pw:List V->Hp->VK->Prop:=λvs H Q=>∃n:Int,vs=[.int n]/\∀p,H p=none->Q (.ref p) (upd H p (.rng 0 n))
def gZ:A6 X (.type "range") Pw:=by
 intro d s σ H c us Q I r h;obtain⟨n,rfl,q⟩:=h;obtain⟨u,rfl,b⟩:=Fa r;obtain⟨t,rfl⟩:=b;refine call_range_1 ⟨.ref s.heap.objs.size,_,I.laid (a:=s.heap.objs.size) (o:=.rng 0 n) (t':=s.toks+1+1) (λ_ _ q=>Bf _ q) (AG _) ⟨_,_,_,Cd _ rfl⟩,rfl,q _ (I.hok.fresh (AG _))⟩
def MV:List V->Hp->VK->Prop:=λvs H Q=>∃(p:Addr)(n:Nat),vs=[.ref p]/\H p=some (.rng 0 (n:Int))/\n<=1000/\∀l,H l=none->Q (.ref l) (upd H l (.lst ((List.range n).map λi:Nat=>V.int i)))
def g0(j:X.calm=true):A6 X (.type "list") MV:=by
 intro D s σ H z us Q I r h;obtain⟨p,n,rfl,k,A,q⟩:=h;obtain⟨u,rfl,l⟩:=Fa r;obtain rfl:u=Value.ref p:=l;obtain⟨t,B,v,e⟩:=(show AB X.prog X.w _ s.heap p (.rng 0 (n:Int)) from I.hok p _ k)
 have m:Builtin.Range.rangeSize 0 (n:Int) 1=n:=by rw[rangeSize_one];split<;>lia
 refine call_list_range (n:=n) (I.ok.hd j) e (small_one (by lia) (by lia) (by lia) (by lia)) m (by lia) λC tk d c w x f=>?_
 have y:IntsAre d.toList ((List.range n).map λi:Nat=>(i:Int)):=Yo (by simp[f.1]) λi v b=>by
  have g:i<d.size:=by
   have:=(AY.mp b).1;simpa using this
  obtain⟨t,e⟩:=f.2 i v (by rw[<-Array.getElem?_toList];exact b);rw[f.1] at g;refine⟨t,?_⟩;rw[e,B1,A8,List.getElem?_range g]
  simp
 have b:=Qz y;rw[DR] at b;refine⟨.ref s.heap.objs.size,_,I.laid (a:=s.heap.objs.size) (o:=.lst ((List.range n).map λi:Nat=>V.int i)) (t':=tk) w (AG _) ⟨?_,d.toList,c,b,by rw[Array.toArray_toList];exact x⟩,rfl,q _ (I.hok.fresh (AG _))⟩;rw[Ak,List.length_range];exact CI (BK (by lia))
def MW (H:Hp) (xs:List V) (ps:List (AN×V)):Prop:=Paired (λx(p:AN×V)=>∃t,x=.ref t/\H t=some (.tup [kV p.1,p.2])) xs ps
def g8{pins:B'}{σ:St}{R:Result->Shared->Prop}{p l it:Addr}(U:A.in1.handled=none)(j:H p=none)(D:it≠p) :
 ∀(xs:List V)(ps:List (AN×V))(d:List V)(acc:List (AN×V))(s:Shared),MW H xs ps->H l=some (.lst (d++xs))->acc.length+xs.length<=sizeLine->Inv X pins σ (upd H p (.dK acc)) s ->
 s.heap.IsListIter it l d.length->Dj X pins H it->(∀Z,Inv X pins σ (upd H p (.dK (Lb acc ps))) Z->R (.ok (.ret .none)) Z)->∀n:Int,
 codeAny (model X.prog X.w) A (.builtin "dict.update.loop" ⟨[.ref p,.ref it,rawInt n,.none],[]⟩) R s:=by
 intro xs ps d acc s W
 induction W generalizing d acc s with
 |nil =>
   intro f G I st h k n;have E:upd H p (.dK acc) l=some (.lst (d++[])):=(AD (AX f j)).trans f;obtain⟨m,r,Y,u,v,w⟩:=h;have F:upd H p (.dK acc) it=none:=(AD D).trans m;obtain⟨z,P,c,y,e⟩:=(show AB X.prog X.w _ s.heap l (.lst (d++[])) from I.hok l _ E);have ah:=y.length;rw[E7] at ah;refine codeAny_builtin PySem.F.entry_upd_loop ?_;rw[Around.under_plainId PySem.F.plain_upd_loop _];show wpAny _ A.in1 (pyNext (.ref it) >>= _) _ _ s;refine Ad (wpAny_pyNext_list_end U st ⟨_,e,rfl,c,rfl⟩ (by simp;lia) λg eb=>?_);exact Ad (Aw (Aw (k _ (I.turned (t':=s.toks) (λb o B e=>eb b o B e) F r u v w))))
 |@cons x q xs ps hq tl ih =>
   intro f G I st h k n;obtain⟨t,rfl,J⟩:=hq;have E:upd H p (.dK acc) l=some (.lst (d++.ref t::xs)):=(AD (AX f j)).trans f;have aa:upd H p (.dK acc) t=some (.tup [kV q.1,q.2]):=(AD (AX J j)).trans J;obtain⟨m,r,Y,u,v,w⟩:=id h;have F:upd H p (.dK acc) it=none:=(AD D).trans m;obtain⟨z,P,c,y,e⟩:=(show AB X.prog X.w _ s.heap l (.lst (d++.ref t::xs)) from I.hok l _ E);obtain⟨ai,ab,ru⟩:=y.get (i:=d.length) (x:=.ref t) (by simp);cases ru;refine codeAny_builtin PySem.F.entry_upd_loop ?_;rw[Around.under_plainId PySem.F.plain_upd_loop _];show wpAny _ A.in1 (pyNext (.ref it) >>= _) _ _ s;refine Ad (wpAny_pyNext_list_item st (⟨_,e,rfl,c,rfl⟩:s.heap.IsList l P.toArray) (x:=.ref t) (by simpa using ab) λg ae sb=>?_);have C:Inv X pins σ (upd H p (.dK acc)) {s with heap:=g}:=I.turned (t':=s.toks) (λb o B e=>(sb.2 b B).trans e) F r u v w;obtain⟨_,ts,rt,ot,K,ct,nt,dt⟩:=(show AB X.prog X.w _ g t (.tup [kV q.1,q.2]) from C.hok t _ aa);obtain⟨L,M,rfl,r1,r2⟩:=Jw rt;obtain⟨zd,hm,es,Q,dd⟩:=K9 C.hok (Aa (H:=H) (a:=p) (o:=.dK acc))
   have af:es.length<=sizeLine:=by rw[<-Q.length];exact zd
   have aj:(A1 acc q.1 q.2).length<=acc.length+1:=OW acc q.1 q.2;rw[Ej] at G;refine Ad (FA (Ad (wpAny_tryCatch ?_)));show wpAny _ A.in1 (Builtin.Dict.pairItems (.ref t)) _ _ _;unfold Builtin.Dict.pairItems;refine Ad (NJ (s:={s with heap:=g}) (T:= "tuple") ⟨ot,K,ct⟩ ?_);rw[Al (by decide)];refine Ad (Gr (s:={s with heap:=g}) K dt (Aw ?_));show wpAny _ A.in1 (holding [L,M] (dictSet p L M)) _ _ _;have ag:(A1 acc q.1 q.2).length<=sizeLine:=(by lia);refine FA (wpAny_dictSet_pairs (hsz:=af) (NS r1) dd λN S O=>?_);have he:∃o,N.get? p=some o:=let ⟨o,_,_,ho,_⟩:=S;⟨o,ho⟩
   have I2:∀tk,Inv X pins σ (upd H p (.dK (A1 acc q.1 q.2))) {s with heap:=N,toks:=tk}:=λtk=>by
    have:=OX (t':=tk) (ob:=.dK (A1 acc q.1 q.2)) C (by rw[Aa];exact True.intro) O he (HK ag hm (Q.put q.1 r2) S);rw[V0] at this;exact this
   refine Aw ⟨plainId_quiet PySem.F.plain_upd_loop _,?_⟩;have:=ih (d++[.ref t]) (A1 acc q.1 q.2) _ (by rw[Gf];exact f) (by lia) (I2 (s.toks+1)) (by rw[AS];exact ae.at λo e=>(O.2 it D).trans e) h k (n+1);exact this
def MX:List V->Hp->VK->Prop:=λvs H Q=>∃l xs ps,vs=[.ref l]/\H l=some (.lst xs)/\xs.length<sizeLine/\MW H xs ps/\∀p,H p=none->Q (.ref p) (upd H p (.dK (Lb [] ps)))
def g9(j:X.calm=true):A6 X (.type "dict") MX:=by
 intro pins s σ H G us Q I r h;obtain⟨l,xs,x,rfl,k,J,y,q⟩:=h;obtain⟨u,rfl,B⟩:=Fa r;cases B;have m:H s.heap.objs.size=none:=I.hok.fresh (AG _);refine callType_codes (Q₁:=λv n=>v=.ref s.heap.objs.size/\n={s with heap:=s.heap.push {cls:=.type "dict",data:=.dict #[]}}) PySem.F.kt_called_dict (PySem.F.kt_typeCall_dict_1 _) PySem.F.entry_dict_init (kt_code_dict_new _ ⟨rfl,rfl⟩) ?_;rintro v n ⟨rfl,rfl⟩;have C:=I.laid (a:=s.heap.objs.size) (o:=.dK []) (t':=s.toks) (h':=s.heap.push {cls:=.type "dict",data:=.dict #[]}) (λ_ _ q=>Bf _ q) (AG _) (Wy s.heap I.big)
 obtain⟨z,L,c,K,e⟩:=(show AB X.prog X.w _ s.heap l (.lst xs) from I.hok l _ k)
 have f:=Bf {cls:=.type "dict",data:=.dict #[]} e;have p:Shared.TypeIs {s with heap:=s.heap.push {cls:=.type "dict",data:=.dict #[]}} (.ref s.heap.objs.size) "dict" :=⟨_,Cd _ rfl,rfl⟩;refine⟨p,PySem.F.args_dict_init_2 _ _,?_⟩;unfold Builtin.«dict.__init__»;refine Ad ?_;unfold Builtin.Dict.selfAndRest;refine Ad (wpAny_notOrdered_dict p ?_);show wpAny _ _ (pure (s.heap.objs.size,[Value.ref l])) _ _ _;refine Aw ?_;show wpAny _ _ (Builtin.Dict.updateFrom "dict.__init__" s.heap.objs.size (.ref l) [] .none) _ _ _;unfold Builtin.Dict.updateFrom;refine Ad (NJ (T:= "list") ⟨_,f,rfl⟩ ?_)
 rw[Al (by decide)];refine Ad (Xm f rfl rfl rfl (I.ok.hd j) λd tk t=>?_);rw[Al (show(none:Option Value).isNone=true from rfl)];have g:=C.kept (t':=tk) t;refine Ad (Ht (Ad (wpAny_pyIter_list (s:={s with heap:=d,toks:=tk}) ⟨_,t _ _ f,rfl,c,rfl⟩ ?_)))
 have D:=g.kept (t':=tk) (h':=d.push {cls:=.type "list_iterator",data:=.fields #[.ref l,.int 0 0]}) λb o e=>Bf _ e;obtain⟨i,E⟩:=g.fpOk (AG d.objs.size) (g.hok.fresh (AG _));have w:d.objs.size≠s.heap.objs.size:=λz=>by rw[z,Aa] at i;cases i
 refine Aw ⟨plainId_quiet PySem.F.plain_upd_loop _,g8 (A:=X.A.in1) (X:=X) (pins:=pins) (σ:=σ) (l:=l) (H:=H) (I.ok.hd j) m w xs x [] [] _ y k (by rw[GF];lia) D ⟨_,Cd _ rfl,rfl,rfl⟩ ⟨(AD w).symm.trans i,E⟩ (λZ F=>⟨rfl,.ref _,_,F,rfl,q _ m⟩) 0⟩
end
abbrev A4:Type:=C'
def Fd (W:Wd) (inn:Int) (ord:A') (q:Qu) (as:List A4) (a:A4):Prop:=∃(w:Option Wt)(ls:List Lk)(ts:List Int),LU (W.late as) inn ord q.1 q.2.1 q.2.2 0 a w ls ts
structure Iv (W:Wd) (qs:List Qu) (as:List A4):Prop where
 len:as.length=qs.length
 rng:∀p,some p∈as->p.1=("thing" : Str)->0<=p.2/\p.2<W.gs.length
structure SOk (W:Wd) (qs:List Qu) (inn:Int) (ord:A'):Prop where
 all:∀as,Iv W qs as->Je (W.late as) qs inn ord
 tr:∀x y z,(x,y)∈ord->(y,z)∈ord->(x,z)∈ord
structure Jg (W:Wd) (qs:List Qu) (inn:Int) (ord:A') (as as':List A4):Prop where
 len:as'.length=as.length
 old:∀(k:Nat)(p:Str×Int),as[k]?=some (some p)->as'[k]?=some (some p)
 new:∀(k:Nat)(q:Qu),qs[k]?=some q->as[k]?=some none->∃a,Fd W inn ord q as a/\as'[k]?=some a
inductive Run (W:Wd) (qs:List Qu) (inn:Int) (ord:A'):Nat->List A4->List Int->Prop where
 |zero:Run W qs inn ord 0 (List.replicate qs.length none) (List.replicate qs.length 0)
 |succ {n:Nat} {as as':List A4} {ts ts':List Int} (h:Run W qs inn ord n as ts) (e:n=0\/∃k:Nat,ts[k]?=some (n:Int)) (x:Jg W qs inn ord as as') (l:ts'.length=ts.length)
  (t:∀k:Nat,k<qs.length->ts'[k]?=if as[k]?=some none/\as'[k]?≠some none then some ((n:Int)+1) else ts[k]?):Run W qs inn ord (n+1) as' ts'
section
variable {W:Wd} {qs:List Qu} {inn:Int} {ord:A'} {n:Nat} {as as':List A4} {ts:List Int}
def Jg.late(h:Jg W qs inn ord as as'):Later as as':=⟨h.len,h.old⟩
def MY{V:Wd}(ok:BS V)(g:Bd V)(o:0<=inn/\inn<V.sts.length){p:List Str}{a:A4}{w:Option Wt}(k:LU V inn ord sc st p at_ a w ls ts):(0<=sc/\sc<V.ss.length)->(0<=st/\st<V.sts.length)->∀x,a=some x->x.1=("thing" : Str)->0<=x.2/\x.2<V.gs.length:=by
 induction k with
 |stop h e n =>
   rintro d f ⟨y,m⟩ rfl j;cases(show y=_ from j);exact Jd ok g (G6 ok d f h) e
 |opn h e i=>intro _ _ x b;cases b
 |no h e i =>
   intro _ _ x b c;cases b
   exact absurd (show("none" : Str)=_ from c) Q5
 |go h e i q l=>exact λd f x b c=>l (Pq ok (Jd ok g (G6 ok d f h) e) i) o x b c
def Kq{p:Str×Int}{l:List A4}(h:some p∈l):∃k:Nat,l[k]?=some (some p):=List.mem_iff_getElem?.mp h
def Jg.aok(G:SOk W qs inn ord)(h:Iv W qs as)(x:Jg W qs inn ord as as'):Iv W qs as':=by
 refine⟨x.len.trans h.len,λp f c=>?_⟩;obtain⟨k,b⟩:=Kq f;have n:k<as.length:=by rw[<-x.len];exact(AY.mp b).1
 cases e:as[k]? with
 |none=>rw[List.getElem?_eq_none_iff] at e;lia
 |some o =>
   cases o with
   |some g =>
     have:=x.old k g e;rw[b] at this;cases this;exact h.rng p (A9 e) c
   |none =>
     have i:=AC (show k<qs.length by rw[<-h.len];exact n);obtain⟨a,⟨w,ls,ts,j⟩,d⟩:=x.new k _ i e;have L:=G.all as h;obtain⟨l,m,_⟩:=L.q _ (EC _);rw[b] at d;exact MY L.ok L.sm L.inn j l m p (Bz d).symm c
def Run.aok(G:SOk W qs inn ord)(h:Run W qs inn ord n as ts):Iv W qs as/\ts.length=qs.length:=by
 induction h with
 |zero=>exact⟨⟨List.length_replicate,λp b _=>by cases List.eq_of_mem_replicate b⟩,List.length_replicate⟩
 |succ h e x l t a=>exact⟨x.aok G a.1,l.trans a.2⟩
def Kr(G:SOk W qs inn ord)(c:Iv W qs as)(d:Later as as'){k:Nat}{q:Qu}(e:qs[k]?=some q){p:Str×Int}{b:A4}(h:Fd W inn ord q as (some p))(h':Fd W inn ord q as' b):b=some p:=by
 obtain⟨w,ls,m,a⟩:=h;obtain⟨l,n,o,j⟩:=h';have L:=G.all as c;obtain⟨f,g,_⟩:=L.q _ (A9 e)
 have i:w=none:=by
  rcases X8 a with⟨z,_⟩|⟨_,z⟩;cases z;exact z
 exact(Ke (W:=W.late as) (as':=as') L.irr G.tr d L.ok L.sm L.inn a i f g j).1
def Ks{q:Qu}{a b:A4}(h:Fd W inn ord q as a)(h':Fd W inn ord q as b):a=b:=by
 obtain⟨_,_,_,c⟩:=h;obtain⟨_,_,_,d⟩:=h';exact(UP c d).1
def Run.found(G:SOk W qs inn ord)(h:Run W qs inn ord n as ts):∀(k:Nat)(q:Qu)(p:Str×Int),qs[k]?=some q->as[k]?=some (some p)->∃B,Iv W qs B/\Later B as/\Fd W inn ord q B (some p):=by
 induction h with
 |zero=>intro k q p _ e;rw[List.getElem?_replicate] at e;split at e<;>cases e
 |@succ n as as' ts z h e x l t i =>
   intro k q p c e;have d:=(h.aok G).1;have y:k<qs.length:=(AY.mp c).1
   cases b:as[k]? with
   |none=>rw[List.getElem?_eq_none_iff,d.len] at b;lia
   |some o =>
     cases o with
     |some m =>
       have:=x.old k m b;rw[e] at this;cases this;obtain⟨B,s,f,u⟩:=i k q p c b;exact⟨B,s,⟨x.len.trans f.len,λj r v=>x.old j r (f.old j r v)⟩,u⟩
     |none =>
       obtain⟨a,w,g⟩:=x.new k q c b;rw[e] at g;cases g;exact⟨as,d,x.late,w⟩
def Run.still(G:SOk W qs inn ord)(h:Run W qs inn ord n as ts)(g:Jg W qs inn ord as as){k:Nat}{q:Qu}(c:qs[k]?=some q){b:A4}(d:Fd W inn ord q as b):as[k]?=some b:=by
 have i:=(h.aok G).1;have s:k<as.length:=by rw[i.len];exact(AY.mp c).1
 cases e:as[k]? with
 |none=>rw[List.getElem?_eq_none_iff] at e;lia
 |some o =>
   cases o with
   |none =>
     obtain⟨a,j,f⟩:=g.new k q c e;rw[e] at f;cases f;rw[Ks d j]
   |some p =>
     obtain⟨B,l,m,r⟩:=h.found G k q p c e;rw[Kr G l m c r d]
end
def qA (gs:List (Str×Int)):C'->List Int
 |some w=>if w.1=("thing" : Str) then Fl gs w.2 else[]
 |none=>[]
def Kt{gs:List (Str×Int)}{k:Nat}{o:C'}(h:as[k]?=some o):FM gs as (k:Int)=qA gs o:=by
 unfold FM;rw[Bo,h];cases o<;>rfl
section
variable {F:Addr->Prop} {H:Hp} {v:V} {d e f:Dt}
def Lq{i:Int}(h:Bj F H v (.int i)):v=.int i:=by cases h;rfl
def MZ(h:Bj F H v (.str x)):v=.str x:=by cases h;rfl
def N8(h:Bj F H v (.tup [d,e,f])):∃t x y z,v=.ref t/\H t=some (.tup [x,y,z])/\Bj F H x d/\Bj F H y e/\Bj F H z f:=by
 cases h with
 | tup h t =>
   cases t with
   |cons a t =>
     cases t with
     |cons b t =>
       cases t with
       |cons c t =>
         cases t with
         |nil=>exact⟨_,_,_,_,rfl,h,a,b,c⟩
def U3{b:List Dt}(h:Bj F H v (.lst b)):∃a vs,v=.ref a/\H a=some (.lst vs)/\AA F H vs b:=by
 cases h with
 |lst h f t=>exact⟨_,_,rfl,h,t⟩
def M0(h:Bj F H v (DX.D b)):∃t x,v=.ref t/\H t=some (.tup [x,.int b.2.1,.int b.2.2]):=by
 obtain⟨t,x,y,z,c,a,_,d,e⟩:=N8 (show Bj F H v (.tup [CK.D b.1,.int b.2.1,.int b.2.2]) from h);rw[Lq d,Lq e] at a;exact⟨t,x,c,a⟩
def Px(h:Bj F H v (QN m)):∃t,v=.ref t/\H t=some (.tup (G4 m)):=by
 obtain⟨t,x,y,z,b,a,c,d,e⟩:=N8 h;rw[Lq c,MZ d,Lq e] at a;exact⟨t,b,a⟩
theorem AA.app_inv:∀{es b:List Dt}{vs:List V},AA F H vs (es++b)->∃xs ys,vs=xs++ys/\AA F H ys b
 |[],_,vs,h=>⟨[],vs,rfl,h⟩
 |_::es,_,_,.cons a t=>by
   obtain⟨xs,ys,e,h⟩:=AA.app_inv (es:=es) t;exact⟨_::xs,ys,by rw[e];rfl,h⟩
def Ku(h:Bj F H v (CK.D (w++[m]))):∃a vs t,v=.ref a/\H a=some (.lst vs)/\Bl vs (-1)=some (.ref t)/\H t=some (.tup (G4 m)):=by
 obtain⟨a,vs,c,d,b⟩:=U3 (show Bj F H v (.lst ((w++[m]).map QN)) from h);rw[Bk] at b;obtain⟨xs,g,rfl,e⟩:=b.app_inv
 cases e with
 |cons a t =>
   cases t with
   |nil =>
     obtain⟨t,rfl,f⟩:=Px a;exact⟨_,_,t,c,d,Up _ _,f⟩
def N9{f:α->Dt}{l:List α}{vs:List V}(h:AA F H vs (l.map f))(hv:vs[i]?=some v):∃b,l[i]?=some b/\Bj F H v (f b):=by
 obtain⟨d,a,c⟩:=h.get hv;rw[A8] at a;obtain⟨b,e,rfl⟩:=E8.mp a;exact⟨b,e,c⟩
end
def M1(h:n<=9000):n<sizeLine:=Nat.lt_of_le_of_lt h (by decide)
theorem Oa{α β:Type}{f:α->List β}{n:Nat}:∀{l:List α},(∀a∈l,(f a).length<=n)->(l.flatMap f).length<=n*l.length
 |[],_=>Di _
 |a::l,h=>by
   have d:=h a Bn;have e:=Oa λb c=>h b (B6 _ c);rw[List.flatMap_cons,AS,Ej,Nat.mul_succ];lia
def Py{β:Type}{f:α->List β}{l:List α}{a:α}(h:l[i]?=some a):(l.take (i+1)).flatMap f=(l.take i).flatMap f++f a:=by
 rw[D0,h];show(l.take i++[a]).flatMap f=_;rw[List.flatMap_append]
 simp
def Pz{β:Type}{f:α->List β}{l:List α}(i:Nat):((l.take i).flatMap f).length<=(l.flatMap f).length:=by
 have:l.flatMap f=(l.take i).flatMap f++(l.drop i).flatMap f:=(by rw[<-List.flatMap_append,List.take_append_drop]);rw[this,AS];lia
def U4(gs:List (Str×Int))(n:Int):(Fl gs n).length<=1:=by
 unfold Fl;split;split<;>simp
 simp
def M3(gs:List (Str×Int))(o:C'):(qA gs o).length<=1:=by
 unfold qA;split;split;exact U4 _ _
 simp
 simp
def hE(gs:List (Str×Int))(as:List (C'))(q:Int):(FM gs as q).length<=1:=by
 unfold FM;split;split;exact U4 _ _
 simp
 simp
def hH(W:Wd)(st:Int)(p:B9):(F8 W st p).length<=2:=by
 unfold F8;have:=hE W.gs W.as p.2.2;split;rw[Ej];lia
 simp
def hJ(ss:List Bh)(w:List Aq):(Fm ss w).length<=1:=by
 unfold Fm;split<;>simp
def hQ{b:Int}{p:B9}(a:p∈BV W b):∃s∈W.ss,p∈s.1:=by
 unfold BV at a
 cases e:W.ss[b.toNat]? with
 |none=>rw[e] at a;cases a
 |some s=>rw[e] at a;exact⟨s,A9 e,a⟩
def hV(a:∀s∈W.ss,s.1.length<=3)(b:AO):(By W b).length<=6:=by
 unfold By;have c:=Oa (f:=F8 W b.2.2) (n:=2) (l:=BV W b.2.1) λp _=>hH W b.2.2 p
 have d:(BV W b.2.1).length<=3:=by
  unfold BV
  cases e:W.ss[b.2.1.toNat]? with
  |none=>exact Di _
  |some s=>exact a s (A9 e)
 lia
structure Iw (W:Wd) (l:Lk):Prop where
 b:l.1.length<=62
 f:l.2.1.length<=62
 bo:∀b∈l.1,Cg W b
 en:∀w∈l.2.1,C5 W.ss w
def Rh(ok:BS W)(d:Bd W){l:Lk}(a:0<=sc/\sc<W.ss.length)(c:0<=st/\st<W.sts.length)(h:Cs W ord sc st x l os):Iw W l:=by
 refine⟨h.b.few,?_,λb e=>((h.b.mem b).mp e).ok ok a c,G6 ok a c h⟩;have f:=h.f.perm.length_eq;have g:=d.fnd x sc st _ a c h.b;lia
def hW(ok:BS W)(f:Bd W)(r:0<=inn/\inn<W.sts.length){p:List Str}{w:Option Wt}(k:LU W inn ord sc st p at_ a w ls ts) :
 0<=sc/\sc<W.ss.length->0<=st/\st<W.sts.length->(∀l∈ls,Iw W l)/\(∀n∈ts,0<=n/\n<W.gs.length)/\ts.length<=ls.length:=by
 induction k with
 |stop h e n=>exact λb c=>⟨λl d=>by rw[AW.mp d];exact Rh ok f b c h,(λ_ z=>by cases z),Di _⟩
 |opn h e i=>exact λb c=>⟨λl d=>by rw[AW.mp d];exact Rh ok f b c h,λn g=>by rw[AW.mp g];exact Jd ok f (G6 ok b c h) e,AG _⟩
 |no h e i=>exact λb c=>⟨λl d=>by rw[AW.mp d];exact Rh ok f b c h,λn g=>by rw[AW.mp g];exact Jd ok f (G6 ok b c h) e,AG _⟩
 |go h e i s m =>
   intro b c;have g:=Jd ok f (G6 ok b c h) e;obtain⟨o,q,t⟩:=m (Pq ok g i) r;refine⟨λl d=>?_,λn j=>?_,by rw[Ej,Ej];lia⟩;rcases B5.mp d with rfl|d;exact Rh ok f b c h;exact o l d;rcases B5.mp j with rfl|j;exact g;exact q n j
def iA(g:∀s∈W.ss,s.1.length<=3)(e:∀l∈ls,Iw W l)(i:ls.length<=8)(j:ts.length<=8):(CL W ls ts).length<=4000:=by
 unfold CL;rw[AS]
 have k:=Oa (f:=FV W) (n:=434) (l:=ls) λl h=>by
  unfold FV;rw[AS];have a:=Oa (f:=By W) (n:=6) (l:=l.1) λb _=>hV g b;have b:=Oa (f:=Fm W.ss) (n:=1) (l:=l.2.1) λw _=>hJ W.ss w;have c:=(e l h).b;have d:=(e l h).f;lia
 have m:=Oa (f:=Fl W.gs) (n:=1) (l:=ts) λn _=>U4 W.gs n;lia
set_option tactic.hygienic true in
def YB(ok:BS W){n:Int}(h:q∈Fl W.gs n):0<=q/\q<W.as.length:=by
 unfold Fl at h
 cases e:W.gs[n.toNat]? with
 |none=>rw[e] at h;cases h
 |some p =>
   rw[e] at h;dsimp only at h;split at h;rename_i a;rw[AW.mp h];exact ok.net.q p (A9 e) a;cases h
set_option tactic.hygienic true in
def YC(ok:BS W)(f:Bd W)(g:∀l∈ls,Iw W l)(h:q∈CL W ls ts):0<=q/\q<W.as.length:=by
 unfold CL at h;rcases BI.mp h with h|h;obtain⟨l,i,c⟩:=List.mem_flatMap.mp h;unfold FV at c;rcases BI.mp c with c|c;obtain⟨b,_,d⟩:=List.mem_flatMap.mp c;unfold By at d;obtain⟨p,j,a⟩:=List.mem_flatMap.mp d;obtain⟨s,k,m⟩:=hQ j;unfold F8 at a;split at a;rename_i o;rcases B5.mp a with rfl|a;exact ok.by_ k m λz=>by rw[o.1] at z;exact absurd z (by decide +kernel)
 unfold FM at a;split at a;split at a;exact YB ok a;cases a;cases a;cases a;obtain⟨w,r,d⟩:=List.mem_flatMap.mp c;unfold Fm at d;split at d;rename_i t;rw[AW.mp d];rcases MN f ((g l i).en w r) with⟨e,_⟩|⟨_,e⟩;rw[t] at e;exact absurd e (by decide +kernel);exact e;cases d;obtain⟨n,_,c⟩:=List.mem_flatMap.mp h;exact YB ok c
def U5:∀{a:List Int},a.Nodup->(∀y∈a,0<=y/\y<(n:Int))->a.length<=n:=λhd h=>HZ n _ hd h
structure LN (K:Ah) (F:Addr->Prop) (H:Hp) (nt t:Addr) (W:Wd) (qs:List Qu) (inn:Int) (ord:A'):Prop where
 net:∃(S T R:Addr)(us Gs Es ts qt:List Addr),H nt=some (.tup [.ref S,.ref T,.ref R])/\FH H S T R us Gs Es ts qt W.ss W.gs qs
 tab:F1 K F H t W.sts inn ord
section
variable {K:Ah} {F:Addr->Prop} {H H':Hp} {nt A t:Addr} {W:Wd} {qs:List Qu} {inn:Int} {ord:A'} {as:List A4}
def LN.same(h:LN K F H nt t W qs inn ord)(e:Ac H H'):LN K F H' nt t W qs inn ord:=by
 obtain⟨⟨S,T,R,us,a,b,ts,d,f,g⟩,c⟩:=h;exact⟨⟨S,T,R,us,a,b,ts,d,e _ _ f,g.same e⟩,c.same e⟩
def LN.lc(h:LN K F H nt t W qs inn ord)(a:Hl K H A as):LC K F H nt A t (W.late as) qs inn ord:=⟨h.net,a,h.tab⟩
def Tk (H H':Hp):Prop:=∀a vs,H a=some (.tup vs)->H' a=some (.tup vs)
def Ac.tk(s:Ac H H'):Tk H H':=λ_ _ e=>s _ _ e
def U6{x:Addr}{vs:List V}{o:HO}(h:H x=some (.lst vs)):Tk H (upd H x o):=λa us e=>by
 rw[AD λz=>by rw[z,h] at e;cases e];exact e
variable {kvs:List (AN×V)}
def Kv{x:Addr}{o:HO}(h:H x=some (.dK kvs)):Tk H (upd H x o):=λa us e=>by
 rw[AD λz=>by rw[z,h] at e;cases e];exact e
def Tk.trans{c:Hp}(a:Tk H H')(b:Tk H' c):Tk H c:=λx d e=>b _ _ (a _ _ e)
abbrev M4:Addr->Prop:=λ_=>False
def AA.tk{vs:List V}{a:List Dt}(k:Tk H H')(h:AA M4 H vs a):AA M4 H' vs a:=h.go k λ_ _ _ f=>f.elim
def E2 (H:Hp) (A:Addr) (as:List A4):Prop:=∃vs,H A=some (.lst vs)/\AA M4 H vs (as.map BU)
def E2.ans(h:E2 H A as):Hl K H A as:=by
 obtain⟨a,e,h⟩:=h;exact⟨a,Ae.of e,h.dts⟩
def E2.go(h:E2 H A as)(k:Tk H H')(a:∀vs,H A=some (.lst vs)->H' A=some (.lst vs)):E2 H' A as:=by
 obtain⟨vs,e,h⟩:=h;exact⟨vs,a _ e,h.tk k⟩
def Ri (W:Wd) (qs:List Qu) (inn:Int) (ord:A') (H:Hp) (kvs:List (AN×V)) (k:Nat) (B:List A4) (l:Addr) (us:List Int):Prop:=
 AJ kvs (.inl (k:Int))=some (.ref l)/\H l=some (.lst (us.map V.int))/\us.length<=1000/\(∀u∈us,0<=u)/\∃(q:Qu)(w:Option Wt)(ls:List Lk)(ts:List Int),qs[k]?=some q/\LU (W.late B) inn ord q.1 q.2.1 q.2.2 0 none w ls ts/\∀x∈CL (W.late B) ls ts,x∈us
def Jh (kvs:List (AN×V)) (n:Nat):Prop:=(kvs.map (·.1)).Nodup/\∀x∈kvs.map (·.1),∃i:Nat,i<n/\x=.inl (i:Int)
set_option tactic.hygienic true in
def iB(kvs:List (AN×V))(k:AN)(v:V):((A1 kvs k v).map (·.1)=kvs.map (·.1))\/(k∉kvs.map (·.1)/\(A1 kvs k v).map (·.1)=kvs.map (·.1)++[k]):=by
 unfold A1;split;left;rw[DR];congr 1;funext a
 show(if a.1=k then(a.1,v) else a).1=a.1
 split<;>rfl;rename_i h;right;refine⟨λm=>h ?_,by rw[Bk];rfl⟩;obtain⟨p,b,e⟩:=AZ.mp m;exact GG.mpr ⟨p,b,Ba e⟩
def Jh.put(h:Jh kvs n)(d:i<n)(v:V):Jh (A1 kvs (.inl (i:Int)) v) n:=by
 unfold Jh;rcases iB kvs (.inl (i:Int)) v with e|⟨f,e⟩;rw[e];exact h;rw[e];refine⟨?_,λx c=>?_⟩;rw[List.nodup_append];refine⟨h.1,by simp,λa g b j=>?_⟩;rw[AW.mp j];exact λz=>f (by rw[<-z];exact g);rcases BI.mp c with c|c;exact h.2 x c;exact⟨i,d,AW.mp c⟩
def Jh.len(h:Jh kvs n):kvs.length<=n:=by
 have:((kvs.map (·.1)).map λk:AN=>match k with|.inl i=>i|.inr _=>(0:Int)).Nodup:=by
  rw[List.nodup_iff_pairwise_ne,List.pairwise_map];refine(List.nodup_iff_pairwise_ne.mp h.1).imp_of_mem λ{a b}d e l=>?_;obtain⟨i,_,rfl⟩:=h.2 a d;obtain⟨j,_,rfl⟩:=h.2 b e;exact λz=>l (by dsimp only at z;rw[z])
 have c:=U5 (n:=n) this λy f=>by
  obtain⟨x,g,rfl⟩:=AZ.mp f;obtain⟨i,m,rfl⟩:=h.2 x g;dsimp only;lia
 rw[Ak,Ak] at c;exact c
structure FT (W:Wd) (qs:List Qu) (inn:Int) (ord:A') (as:List A4) (H H':Hp) (kvs kvs':List (AN×V)) (ds:List Int) (fs:List (Int×(Str×Int))):Prop where
 fd:∀f∈fs,∃(k:Nat)(q:Qu),f.1=(k:Int)/\(k:Int)∈ds/\qs[k]?=some q/\Fd W inn ord q as (some f.2)
 al:∀k:Nat,(k:Int)∈ds->(∃p,((k:Int),p)∈fs)\/∃l us,H l=none/\Ri W qs inn ord H' kvs' k as l us
 kp:∀k:Nat,(k:Int)∉ds->AJ kvs' (.inl (k:Int))=AJ kvs (.inl (k:Int))
 ko:Jh kvs' qs.length
variable {H'':Hp} {kvs kvs':List (AN×V)} {ds:List Int} {fs:List (Int×(Str×Int))} {k:Nat} {q:Qu}
def FT.hit(h:FT W qs inn ord as H H' kvs kvs' ds fs)(i:∀l vs,H l=none->H' l=some (.lst vs)->H'' l=some (.lst vs))(m:qs[k]?=some q){p:Str×Int}(n:Fd W inn ord q as (some p)):FT W qs inn ord as H H'' kvs kvs' (ds++[(k:Int)]) (fs++[((k:Int),p)]):=by
 refine⟨λf g=>?_,λj e=>?_,λj e=>h.kp j λz=>e (Eu _ z),h.ko⟩;rcases BI.mp g with g|g;obtain⟨j,r,a,b,c,d⟩:=h.fd f g;exact⟨j,r,a,Eu _ b,c,d⟩;rw[AW.mp g];exact⟨k,q,rfl,by simp,m,n⟩;rcases BI.mp e with e|e;rcases h.al j e with⟨p,o⟩|⟨l,us,a,b,c,d⟩;exact .inl ⟨p,Eu _ o⟩;exact .inr ⟨l,us,a,b,i _ _ a c,d⟩;rw[AW.mp e];exact .inl ⟨p,by simp⟩
def FT.wait(h:FT W qs inn ord as H H' kvs kvs' ds fs)(m:∀l vs,H l=none->H' l=some (.lst vs)->H'' l=some (.lst vs))(i:qs[k]?=some q){w:Option Wt}(n:LU (W.late as) inn ord q.1 q.2.1 q.2.2 0 none w ls ts){l:Addr}{us:List Int}(o:H l=none)(s:H'' l=some (.lst (us.map V.int)))(t:us.length<=1000)(v:∀u∈us,0<=u)(y:∀x∈CL (W.late as) ls ts,x∈us):FT W qs inn ord as H H'' kvs (A1 kvs' (.inl (k:Int)) (.ref l)) (ds++[(k:Int)]) fs:=by
 have A:k<qs.length:=(AY.mp i).1;refine⟨λf D=>?_,λj g=>?_,λj g=>?_,h.ko.put A _⟩;obtain⟨j,r,a,b,c,d⟩:=h.fd f D;exact⟨j,r,a,Eu _ b,c,d⟩;by_cases e:(j:Int)=(k:Int);have:j=k:=(by lia);subst this;exact .inr ⟨l,us,o,by rw[OV,Al rfl],s,t,v,q,w,ls,ts,i,n,y⟩;rcases BI.mp g with g|g;rcases h.al j g with⟨p,B⟩|⟨C,E,a,b,c,d⟩;exact .inl ⟨p,B⟩;exact .inr ⟨C,E,a,by rw[OV,An λz=>e (Sum.inl.inj z)];exact b,m _ _ a c,d⟩;exact absurd (AW.mp g) e;rw[OV,An λz=>g (Du _ (by rw[Sum.inl.inj z];simp))];exact h.kp j λz=>g (Eu _ z)
end
abbrev fD (f:Int×(Str×Int)):Dt:=.tup [.int f.1,BU (some f.2)]
structure Kw (W:Wd) (qs:List Qu) (inn:Int) (ord:A'):Prop extends SOk W qs inn ord where
 s3:∀s∈W.ss,s.1.length<=3
 lq:qs.length<=40
def AM{G:Prop}(h:∀N:Prop,(G->N)->N):G:=h G λz=>z
variable {σ:St}
def GL{g:TG}{t:TS}{D:Ends}(h:let N:=D.nx;let C:=D.ct;g v σ H λσ2 a=>t {D with nx:=N,ct:=C} σ2 a):g v σ H (λσ2 a=>t D σ2 a):=h
def iC{K:Ah}{a:Addr}{xs:List V}{k:Nat}{f:List Nat}{g:TG}{te:TE}{Q:Addr->Hp->Prop}(Pv:Addr->Nat->List V->Hp->Prop)
 (h:∀D,Y D=none->Pv D 0 [] (upd Y D (.lst []))) (c:∀D i ys b,Pv D i ys b->Ae K b a xs)
 (j:∀D i x T ys b(R:VK),Y D=none->xs[i]?=some x->b T=none->Pv D i ys b->(∀y d,d D=some (.lst ys)->ys.length<sizeLine->Pv D (i+1) (ys++[y]) (upd d D (.lst (ys++[y])))->R y d)->g (.ref T) (FR k f σ) (upd b T (.tup [.int i,x])) λσ4 l=>te σ4 l R)
 (hd:∀D ys b,Y D=none->Pv D xs.length ys b->Q D b):JI (Ig LK K a) k f g HM te σ Y Q:=NW xs.length Pv h (λD i ys b p e=>⟨xs,xs[i],c D i ys b p,by simp[e]⟩) (λD ys b p=>⟨xs,c D _ ys b p,rfl⟩) (λD i ys b x q R r m e p y k s=>by obtain⟨T,v,n,rfl,rfl,o⟩:=y;exact j D i v T ys _ R m (o xs (c D i ys _ p)) n p k) hd
abbrev C6:Type:=List (Int×(Str×Int))
def BX (as:List A4) (fs:C6):List A4:=fs.foldl (λa f=>a.set f.1.toNat (some f.2)) as
def Ds (ts:List Int) (n:Int) (fs:C6):List Int:=fs.foldl (λa f=>a.set f.1.toNat n) ts
variable {f:Int×(Str×Int)}
def iD{as:List A4}{fs:C6}(h:fs[i]?=some f):BX as (fs.take (i+1))=(BX as (fs.take i)).set f.1.toNat (some f.2):=by
 rw[D0,h];show BX as (fs.take i++[f])=_;unfold BX;rw[KY];rfl
def iE{n:Int}{fs:C6}(h:fs[i]?=some f):Ds ts n (fs.take (i+1))=(Ds ts n (fs.take i)).set f.1.toNat n:=by
 rw[D0,h];show Ds ts n (fs.take i++[f])=_;unfold Ds;rw[KY];rfl
theorem Rj:∀(fs:C6)(as:List A4),(BX as fs).length=as.length
 |[],_=>rfl
 |f::fs,as=>by show(BX (as.set f.1.toNat (some f.2)) fs).length=_;rw[Rj fs,Ge]
theorem U7{n:Int}:∀(fs:C6)(ts:List Int),(Ds ts n fs).length=ts.length
 |[],_=>rfl
 |f::fs,ts=>by show(Ds (ts.set f.1.toNat n) n fs).length=_;rw[U7 fs,Ge]
theorem M5{k:Nat}:∀{fs:C6}{as:List A4},(∀f∈fs,f.1.toNat≠k)->(BX as fs)[k]?=as[k]?
 |[],_,_=>rfl
 |f::fs,as,h=>by
   show(BX (as.set f.1.toNat (some f.2)) fs)[k]?=_;rw[M5 λg a=>h g (B6 _ a),List.getElem?_set_ne (h f Bn)]
theorem U8{k:Nat}{n:Int}:∀{fs:C6}{ts:List Int},(∀f∈fs,f.1.toNat≠k)->(Ds ts n fs)[k]?=ts[k]?
 |[],_,_=>rfl
 |f::fs,ts,h=>by
   show(Ds (ts.set f.1.toNat n) n fs)[k]?=_;rw[U8 λg a=>h g (B6 _ a),List.getElem?_set_ne (h f Bn)]
theorem Rk{k:Nat}:∀{fs:C6}{as:List A4},k<as.length->(∃f∈fs,f.1.toNat=k)->∃f∈fs,f.1.toNat=k/\(BX as fs)[k]?=some (some f.2)
 |[],_,_,⟨_,h,_⟩=>by cases h
 |f::fs,as,d,h=>by
   show ∃g∈f::fs,g.1.toNat=k/\(BX (as.set f.1.toNat (some f.2)) fs)[k]?=some (some g.2);by_cases c:∃g∈fs,g.1.toNat=k;obtain⟨g,a,b,e⟩:=Rk (as:=as.set f.1.toNat (some f.2)) (by rw[Ge];exact d) c;exact⟨g,B6 _ a,b,e⟩;obtain⟨g,a,b⟩:=h;rcases B5.mp a with rfl|a;refine⟨g,Bn,b,?_⟩;rw[M5 λx i z=>c ⟨x,i,z⟩,b,List.getElem?_set_self d];exact absurd ⟨g,a,b⟩ c
theorem U9{k:Nat}{n:Int}:∀{fs:C6}{ts:List Int},k<ts.length->(∃f∈fs,f.1.toNat=k)->(Ds ts n fs)[k]?=some n
 |[],_,_,⟨_,h,_⟩=>by cases h
 |f::fs,ts,b,h=>by
   show(Ds (ts.set f.1.toNat n) n fs)[k]?=some n;by_cases c:∃g∈fs,g.1.toNat=k;exact U9 (by rw[Ge];exact b) c;obtain⟨g,a,d⟩:=h;rcases B5.mp a with rfl|a;rw[U8 λx e z=>c ⟨x,e,z⟩,d,List.getElem?_set_self b];exact absurd ⟨g,a,d⟩ c
def nn (as:List A4):Nat:=as.countP λa=>a.isNone
def Ix(as:List A4)(k:Nat)(p:Str×Int):nn (as.set k (some p))<=nn as/\(as[k]?=some none->nn (as.set k (some p))<nn as):=by
 unfold nn;by_cases b:k<as.length;rw[List.countP_set b];have c:((some p:A4).isNone=true)=False:=(by simp);simp only[Option.isNone_some,Fz,if_false,Nat.add_zero];refine⟨Nat.sub_le _ _,λe=>?_⟩;rw[AC b] at e;rw[Bz e];have:0<as.countP λa=>a.isNone:=List.countP_pos_iff.mpr ⟨none,by rw[<-Bz e];exact EC b,rfl⟩;simp only[Option.isNone_none,if_true];lia;rw[List.set_eq_of_length_le (by lia)];exact⟨AG _,λe=>by rw[Gg (by lia)] at e;cases e⟩
theorem Va:∀(fs:C6)(as:List A4),nn (BX as fs)<=nn as
 |[],_=>AG _
 |f::fs,as=>Ek (Va fs (as.set f.1.toNat (some f.2))) (Ix as _ _).1
def PB{fs:C6}{as:List A4}(h:as[f.1.toNat]?=some none):nn (BX as (f::fs))<nn as:=Nat.lt_of_le_of_lt (Va fs _) ((Ix as _ _).2 h)
section
variable {W:Wd} {qs:List Qu} {inn:Int} {ord:A'} {H H':Hp} {kvs kvs':List (AN×V)} {n:Nat} {as:List A4} {ts:List Int} {due:List Int} {fs:C6} {X:Addr->Prop}
structure Iy (W:Wd) (qs:List Qu) (inn:Int) (ord:A') (X:Addr->Prop) (H:Hp) (kvs:List (AN×V)) (n:Nat) (as:List A4) (ts:List Int) (due:List Int):Prop where
 run:Run W qs inn ord n as ts
 du:∀k∈due,∃j:Nat,k=(j:Int)/\j<qs.length/\as[j]?=some none
 la:due=[]\/n=0\/∃k:Nat,ts[k]?=some (n:Int)
 us:∀k:Nat,k<qs.length->as[k]?=some none->(k:Int)∈due\/∃B l us,¬X l/\Iv W qs B/\Ri W qs inn ord H kvs k B l us/\Gm B as us
 ko:Jh kvs qs.length
structure Ob (W:Wd) (qs:List Qu) (inn:Int) (ord:A') (X:Addr->Prop) (H:Hp) (kvs:List (AN×V)) (n:Nat) (as:List A4) (ts:List Int) (fs:C6):Prop where
 run:Run W qs inn ord n as ts
 us:∀k:Nat,k<qs.length->as[k]?=some none->∃B l us,¬X l/\Iv W qs B/\Ri W qs inn ord H kvs k B l us/\∀u∈us,(∀f∈fs,f.1≠u)->as[u.toNat]?=B[u.toNat]?
 ko:Jh kvs qs.length
 fs:fs=[]\/∃k:Nat,ts[k]?=some (n:Int)
def Iz(G:SOk W qs inn ord){B:List A4}(b:Iv W qs B)(j:Iv W qs as){k:Nat}{l:Addr}{us:List Int}(h:Ri W qs inn ord H kvs k B l us)(c:Gm B as us):∃q,qs[k]?=some q/\Fd W inn ord q as none:=by
 obtain⟨_,_,_,_,q,w,ls,d,a,e,f⟩:=h;have L:=G.all B b;obtain⟨g,i,_⟩:=L.q q (A9 a);exact⟨q,a,w,ls,d,MU (W:=W.late B) (as':=as) L.ok L.sm L.inn e g i (c.sub f)⟩
def Iy.nxt(G:SOk W qs inn ord)(T:Iy W qs inn ord X H kvs n as ts due)(F:FT W qs inn ord as H H' kvs kvs' due fs):Jg W qs inn ord as (BX as fs):=by
 have m:=(T.run.aok G).1
 have x:∀f∈fs,∃(k:Nat)(q:Qu),f.1=(k:Int)/\k<qs.length/\as[k]?=some none/\qs[k]?=some q/\Fd W inn ord q as (some f.2):=λf b=>by
  obtain⟨k,q,g,y,i,r⟩:=F.fd f b;obtain⟨j,v,A,C⟩:=T.du _ y;have:k=j:=(by lia);subst this;exact⟨k,q,g,A,C,i,r⟩
 refine⟨Rj _ _,λk p e=>?_,λk q s e=>?_⟩;rw[M5 λf b z=>?_];exact e;obtain⟨j,q,g,_,i,_⟩:=x f b;rw[g,Bo] at z;rw[z,e] at i;cases i;have w:k<qs.length:=(AY.mp s).1;by_cases c:∃f∈fs,f.1.toNat=k;obtain⟨f,t,o,D⟩:=Rk (as:=as) (by rw[m.len];exact w) c;obtain⟨j,a,g,_,i,r,v⟩:=x f t;have:j=k:=by rw[g,Bo] at o;exact o
 subst this;have:a=q:=Bz (r.symm.trans s);subst this;exact⟨_,v,D⟩;rw[M5 λf b z=>c ⟨f,b,z⟩];refine⟨none,?_,e⟩
 have K:∃a,qs[k]?=some a/\Fd W inn ord a as none:=by
  by_cases d:(k:Int)∈due;rcases F.al k d with⟨p,E⟩|⟨l,us,_,u⟩;exact absurd ⟨_,E,Bo k⟩ c;exact Iz G m m u λ_ _=>rfl;rcases T.us k w e with h|⟨B,l,us,_,I,u,J⟩;exact absurd h d;exact Iz G I m u J
 obtain⟨a,t,o⟩:=K;have:a=q:=Bz (t.symm.trans s);subst this;exact o
def Iy.aft(G:SOk W qs inn ord)(T:Iy W qs inn ord X H kvs n as ts due)(hd:due≠[])(F:FT W qs inn ord as H H' kvs kvs' due fs)(I:∀l,H l=none->¬X l)(J:∀l vs,¬X l->H l=some (.lst vs)->H' l=some (.lst vs)):Ob W qs inn ord X H' kvs' (n+1) (BX as fs) (Ds ts ((n:Int)+1) fs) fs:=by
 have v:=(T.run.aok G).1;have y:=(T.run.aok G).2;have nx:=T.nxt G F
 have x:∀f∈fs,∃k:Nat,f.1=(k:Int)/\k<qs.length/\as[k]?=some none:=λf a=>by
  obtain⟨k,q,b,o,A,R⟩:=F.fd f a;obtain⟨j,S,K,L⟩:=T.du _ o;have:k=j:=(by lia);subst this;exact⟨k,b,K,L⟩
 refine⟨.succ T.run (T.la.resolve_left hd) nx (U7 _ _) λk i=>?_,λk i e=>?_,F.ko,?_⟩;by_cases c:∃f∈fs,f.1.toNat=k;obtain⟨f,C,w,s⟩:=Rk (as:=as) (by rw[v.len];exact i) c;obtain⟨j,b,o,A⟩:=x f C;have:j=k:=by rw[b,Bo] at w;exact w
 subst this;rw[Al ⟨A,by rw[s];simp⟩];exact U9 (by rw[y];exact i) c;have b:=M5 (as:=as) (k:=k) (fs:=fs) λf a z=>c ⟨f,a,z⟩;rw[U8 λf a z=>c ⟨f,a,z⟩,An λz=>z.2 (by rw[b];exact z.1)]
 have D:¬∃f∈fs,f.1.toNat=k:=λc=>by
  obtain⟨f,C,w,s⟩:=Rk (as:=as) (by rw[v.len];exact i) c;rw[e] at s;cases s
 have M:as[k]?=some none:=by rw[<-e,M5 λf a z=>D ⟨f,a,z⟩]
 have same:∀u:Int,0<=u->(∀f∈fs,f.1≠u)->(BX as fs)[u.toNat]?=as[u.toNat]?:=λu U m=>M5 λf a z=>by
  obtain⟨j,b,_⟩:=x f a;exact m f a (by lia)
 by_cases d:(k:Int)∈due;rcases F.al k d with⟨p,N⟩|⟨l,us,O,g⟩;exact absurd ⟨_,N,Bo k⟩ D;exact⟨as,l,us,I l O,v,g,λu t m=>same u (g.2.2.2.1 u t) m⟩;rcases T.us k i M with h|⟨B,l,us,E,P,g,Q⟩;exact absurd h d;refine⟨B,l,us,E,P,⟨by rw[F.kp k d];exact g.1,J _ _ E g.2.1,g.2.2⟩,λu t m=>?_⟩;rw[same u (g.2.2.2.1 u t) m,Q u t]
 cases e:fs with
 |nil=>exact .inl rfl
 |cons f r =>
   right;have a:f∈fs:=by rw[e];exact Bn
   obtain⟨k,b,o,_⟩:=x f a;refine⟨k,?_⟩;rw[<-e,U9 (by rw[y];exact o) ⟨f,a,by rw[b,Bo]⟩]
   push_cast;rfl
def Ob.trn(A:Ob W qs inn ord X H kvs n as ts fs)(g:∀k∈due,∃j:Nat,k=(j:Int)/\j<qs.length/\as[j]?=some none)(i:fs=[]->due=[])(m:∀k:Nat,k<qs.length->as[k]?=some none->(k:Int)∈due\/∃(l:Addr)(us:List Int),AJ kvs (.inl (k:Int))=some (.ref l)/\H l=some (.lst (us.map V.int))/\∀u∈us,∀f∈fs,f.1≠u):Iy W qs inn ord X H kvs n as ts due:=by
 refine⟨A.run,g,?_,λk b e=>?_,A.ko⟩;rcases A.fs with h|h;exact .inl (i h);exact .inr (.inr h);rcases m k b e with h|⟨l,us,o,p,q⟩;exact .inl h;right;obtain⟨B,r,d,s,t,a,v⟩:=A.us k b e;have w:l=r:=V.ref.inj (Bz (o.symm.trans a.1));subst w;have x:us.map V.int=d.map V.int:=HO.lst.inj (Bz (p.symm.trans a.2.1));refine⟨B,l,d,s,t,a,λu c=>v u c (q u ?_)⟩;have:V.int u∈us.map V.int:=by rw[x];exact AZ.mpr ⟨u,c,rfl⟩
 obtain⟨C,y,z⟩:=AZ.mp this;rw[<-V.int.inj z];exact y
def Iy.end_(G:SOk W qs inn ord)(T:Iy W qs inn ord X H kvs n as ts []):Jg W qs inn ord as as:=by
 have b:=(T.run.aok G).1;refine⟨rfl,λ_ _ e=>e,λk q a e=>⟨none,?_,e⟩⟩;rcases T.us k (AY.mp a).1 e with h|⟨B,l,us,_,c,d,f⟩;cases h;obtain⟨g,i,j⟩:=Iz G c b d f;have:g=q:=Bz (i.symm.trans a);subst this;exact j
def Iy.start:Iy W qs inn ord X H [] 0 (List.replicate qs.length none) (List.replicate qs.length 0) ((List.range qs.length).map λi:Nat=>(i:Int)):=by
 refine⟨.zero,λk a=>?_,.inr (.inl rfl),λk a _=>.inl (AZ.mpr ⟨k,List.mem_range.mpr a,rfl⟩),by simp,λx b=>by cases b⟩;obtain⟨j,c,rfl⟩:=AZ.mp a;have:=List.mem_range.mp c;exact⟨j,rfl,this,by rw[List.getElem?_replicate,Al this]⟩
def Ob.keep{H'':Hp}(A:Ob W qs inn ord X H kvs n as ts fs)(c:∀l vs,¬X l->H l=some (.lst vs)->H'' l=some (.lst vs)):Ob W qs inn ord X H'' kvs n as ts fs:=
 ⟨A.run,λk d e=>by
  obtain⟨B,l,us,b,f,a,g⟩:=A.us k d e
  exact⟨B,l,us,b,f,⟨a.1,c _ _ b a.2.1,a.2.2⟩,g⟩,A.ko,A.fs⟩
end
theorem YD:∀(ps acc:List (AN×V))(k:AN),(AJ (Lb acc ps) k).isSome=((AJ acc k).isSome || ps.any λp=>decide (p.1=k))
 |[],acc,k=>by simp[Lb]
 |p::ps,acc,k=>by
   show(AJ (Lb (A1 acc p.1 p.2) ps) k).isSome=_;rw[YD ps,OV,List.any_cons];by_cases e:k=p.1;rw[Al e];simp[e];rw[An e];have:decide (p.1=k)=false:=D1 λz=>e z.symm;rw[this];simp
theorem AA.set{F:Addr->Prop}{H:Hp}{v:V}{d:Dt}(h:Bj F H v d):∀{vs:List V}{b:List Dt}(j:Nat),AA F H vs b->AA F H (vs.set j v) (b.set j d)
 |_,_,_,.nil=>.nil
 |_,_,0,.cons _ t=>.cons h t
 |_,_,j+1,.cons a t=>.cons a (AA.set h j t)
theorem IA{H:Hp}:∀{b:List V}{fs:C6},AA M4 H b (fs.map fD)->∃ps,MW H b ps/\ps.map (·.1)=fs.map λf=>(.inl f.1:AN)
 |_,[],.nil=>⟨[],.nil,rfl⟩
 | _,f :: fs,.cons a t=>by
   obtain⟨ps,c,d⟩:=IA (fs:=fs) t;have g:Bj M4 H _ (.tup [.int f.1,BU (some f.2)]):=a
   cases g with
   | tup e u =>
     cases u with
     |cons x u =>
       cases u with
       |cons y u =>
         cases u with
         |nil =>
           rw[Lq x] at e;exact⟨(.inl f.1,_)::ps,.cons ⟨_,rfl,e⟩ c,by rw[Eh,d];rfl⟩
def YE{ps:List (AN×V)}{fs:C6}(h:ps.map (·.1)=fs.map λf=>(.inl f.1:AN))(u:Int):(AJ (Lb [] ps) (.inl u)).isSome=fs.any λf=>decide (f.1=u):=by
 rw[YD];show(false || _)=_;rw[Bool.false_or];have e:(ps.any λp=>decide (p.1=(.inl u:AN)))=(ps.map (·.1)).any λk=>decide (k=(.inl u:AN)):=by rw[List.any_map];rfl
 rw[e,h,List.any_map];congr 1;funext f;show decide ((Sum.inl f.1:AN)=Sum.inl u)=decide (f.1=u);by_cases c:f.1=u;rw[Ba c,Ba (by rw[c])];rw[D1 c,D1 λz=>c (Sum.inl.inj z)]
def YF(n:Nat)(x:α):(List.replicate n [x]).flatten=List.replicate n x:=by
 induction n with
 |zero=>rfl
 |succ n a=>rw[List.replicate_succ,List.flatten_cons,a];rfl
def M6{m:Nat}(h:i<m):Qx (.int (i:Int)) ((List.range m).map λj:Nat=>V.int j)=true:=by
 unfold Qx;exact GG.mpr ⟨.int i,AZ.mpr ⟨i,List.mem_range.mpr h,rfl⟩,by simp[JD]⟩
def iF(m:Nat):(((List.range m).map λj:Nat=>V.int j).all JC)=true:=by
 rw[List.all_map];exact List.all_eq_true.mpr λ_ _=>rfl
def E2.get{A:Addr}{as:List A4}(h:E2 H A as){k:Nat}(f:k<as.length):∃vs v,H A=some (.lst vs)/\Bl vs (k:Int)=some v/\((as[k]?=some none/\v=.non)\/∃p t,as[k]?=some (some p)/\v=.ref t/\H t=some (.tup [.str p.1,.int p.2])):=by
 obtain⟨vs,e,h⟩:=h;have b:k<vs.length:=by rw[h.length,Ak];exact f
 obtain⟨a,c,d⟩:=N9 h (AC b);refine⟨vs,_,e,BQ (AC b),?_⟩
 cases a with
 |none=>exact .inl ⟨c,d.ansN⟩
 |some p =>
   obtain⟨t,g,i⟩:=d.ansS;exact .inr ⟨p,t,c,g,i⟩
def M7 (W:Wd) (inn:Int) (ord:A') (q:Qu) (o:Option A4) (v:Option Int):Prop:=(∃p,o=some (some p)/\v=none)\/(o=some none/\∃(w:Wt)(ls:List Lk)(ts:List Int),LU W inn ord q.1 q.2.1 q.2.2 0 none (some w) ls ts/\v=some w.2.2)
def oV:Option Int->V
 |none=>.non
 |some n=>.int n
def Lr{d e:Dt}(h:Bj F H v (.tup [d,e])):∃p x y,v=.ref p/\H p=some (.tup [x,y])/\Bj F H x d/\Bj F H y e:=by
 cases h with
 |tup c h =>
   cases h with
   |cons a h=>cases h with
     |cons b h=>cases h;exact⟨_,_,_,rfl,c,a,b⟩
section
variable {X:Cx}
def M8 (K:Ah):V->List V->Hp->VK->Prop:=λx vs H Q=>∃l y n d ds xs,∃j:Nat,x=.ref l/\vs=[y]/\(∀e∈ds,Dl n e d)/\n<=60/\Ap K H y d/\Ae K H l xs/\Aj K H xs ds/\ds[j]?=some d/\(∀m,m<j->ds[m]?≠some d)/\Q (.int j) H
def Vb(Y:X.A.units+64<cLine):K8 X "list.index" (M8 X.K):=by
 intro ab s σ H x Z v us Q I C E h;obtain⟨l,y,n,d,c,xs,j,rfl,rfl,F,hn,D,G,t,f,J,q⟩:=h;cases C;obtain⟨u,rfl,K⟩:=E.one;obtain⟨b,r,p,hz⟩:=I.list G;obtain⟨L,h2⟩:=T1 (A:=X.A.in1) I r t F D K (by rw[Hj];lia);obtain⟨⟨oc,M,oD,os⟩,e,N,k,O⟩:=p.isList;cases N;cases O;have ll:=r.length;have lt:=t.length;have aa:j<c.length:=(AY.mp f).1;have w:j<b.toArray.size:=by rw[Ce];lia
 have at_:∀m(h:m<b.toArray.size),dec (∃a,RelV a b.toArray[m]/\Ap X.K H a d)=true↔c[m]?=some d:=λm h=>by
  have P:m<b.length:=(by simpa using h);obtain⟨R,B,g⟩:=r.get (i:=m) (x:=xs[m]'(by lia)) (AC (by lia));obtain⟨e',S,o⟩:=t.get (i:=m) (v:=xs[m]'(by lia)) (AC (by lia))
  have T:b.toArray[m]=R:=by
   rw[AC P] at B;simpa using B
  rw[DA,T,S];refine⟨λ⟨a,U,V⟩=>?_,λz=>?_⟩;have:=g.inj U;subst this;rw[Ap.inj I o V];cases z;exact⟨_,g,o⟩
 have sl:=Mb;have hs:sizeLine=16777216:=sizeLine_eq;refine call_meets PySem.F.slot_list_index ⟨_,e,rfl⟩ PySem.F.entry_list_index (PySem.F.args_list_index_2 _ _) (SeqAt.list_indexAt l b.toArray k M os u (λy=>dec (∃a,RelV a y/\Ap X.K H a d)) j w (by lia) ((at_ j w).mpr f) λm h W=>?_) ⟨e,L,?_⟩;exact Bool.eq_false_iff.mpr λz=>J m W ((at_ m h).mp z);exact⟨.int j,H,I.tok _,⟨_,rfl⟩,q⟩
def YG(x:X.calm=true):A6 X (.builtin "min") (λxs H Q=>∃p n ns,xs=[.ref p]/\H p=some (.lst ((n::ns).map V.int))/\Q (MH (n::ns)) H):=by
 intro I a σ Y G us Q f y h;obtain⟨l,m,ns,rfl,B,q⟩:=h;obtain⟨u,rfl,C⟩:=Fa y;cases C;obtain⟨z,c,n,k,e⟩:=(show AB X.prog X.w Y a.heap l (.lst ((m::ns).map V.int)) from f.hok l _ B);have r:=Wm k;have s:a.heap.IsList l c.toArray:=⟨_,e,rfl,n,rfl⟩
 have w:c.length=(m::ns).length:=by have:=k.length;rw[Ak] at this;exact this.symm
 refine call_min_walk (wpAny_pyIter_list s ⟨_,[a.heap.objs.size,l],[a.heap.objs.size],_,λi v=>c.toArray[i]?=some v,λi h=>h.IsListIter a.heap.objs.size l i/\h.IsList l c.toArray,λi j=>decide ((m::ns).getD i 0<(m::ns).getD j 0),rfl,Walks.list (A:=X.A.in1) (f.ok.hd x) a.heap.objs.size l (CF (Br e)) c.toArray,
  ⟨⟨_,Cd _ rfl,rfl,rfl⟩,s.push _⟩,λb g=>?_,by rw[Ce,w];exact Nat.succ_pos _,CmpOf.ints_lt (λi=>(m::ns).getD i 0) (λi v d=>r.int_at i v (by simpa using d)),λv D tk d E=>?_⟩)
 show b<(a.heap.push _).objs.size;rw[Heap.size_push];rcases B5.mp g with rfl|g;exact Qh _;rw[AW.mp g];exact Nat.lt_succ_of_lt (Br e);have F:∀b o,a.heap.get? b=some o->D.get? b=some o:=λb o z=>E b o (by simpa using CF (Br z)) (Bf _ z);refine⟨MH (m::ns),Y,f.kept F,?_,q⟩;rw[Ce,w,Ej,Nat.add_sub_cancel] at d;obtain⟨t,rfl⟩:=r.int_at (argBest (λi j=>decide ((m::ns).getD i 0<(m::ns).getD j 0)) ns.length) v (by rw[<-List.getElem?_toArray];exact d);refine⟨t,?_⟩;rw[Ux λi=>(m::ns).getD i 0,Xn];rfl
end
def iG{K:Ah}{a:Addr}{xs:List V}{k:Nat}{l:List Nat}{g:TG}{tc:TT}{te:TE}{Q:Addr->Hp->Prop}(Pv:Addr->Nat->List V->Hp->Prop)
 (m:∀D,Y D=none->Pv D 0 [] (upd Y D (.lst []))) (f:∀D i ys c,Pv D i ys c->Ae K c a xs)
 (n:∀D i x T ys c(R:VK)(e:Hp->Prop),Y D=none->xs[i]?=some x->c T=none->Pv D i ys c->(∀y h,h D=some (.lst ys)->ys.length<sizeLine->Pv D (i+1) (ys++[y]) (upd h D (.lst (ys++[y])))->R y h)->(∀d,Pv D (i+1) ys d->e d)->g (.ref T) (FR k l σ) (upd c T (.tup [.int i,x])) λσ4 o=>tc σ4 o λb d=>if b=true then te σ4 d R else e d)
 (hd:∀D ys c,Y D=none->Pv D xs.length ys c->Q D c):JI (Ig LK K a) k l g tc te σ Y Q:=NW xs.length Pv m (λD i ys c p j=>⟨xs,xs[i],f D i ys c p,by simp[j]⟩) (λD ys c p=>⟨xs,f D _ ys c p,rfl⟩) (λD i ys c x u R e q j p y k r=>by obtain⟨T,v,s,rfl,rfl,t⟩:=y;exact n D i v T ys _ R e q (t xs (f D i ys _ p)) s p k r) hd
def nx (ws:E') (x:Int):Option Int:=if 0<=x then(ws[x.toNat]?).bind id else none
def it (ws:E') (f:Int):Nat->Option Int
 |0=>some f
 |n+1=>(it ws f n).bind (nx ws)
def Cl (ws:E'):Prop:=∀x o,nx ws x=some o->∃o',nx ws o=some o'
def CY{ws:E'}{x o:Int}:nx ws x=some o↔0<=x/\ws[x.toNat]?=some (some o):=by
 unfold nx;by_cases h:0<=x;rw[Al h]
 cases e:ws[x.toNat]? with
 |none=>exact⟨nofun,λz=>by cases z.2⟩
 |some y=>exact⟨λz=>⟨h,Bq some z⟩,λz=>Bz z.2⟩
 rw[An h];exact⟨nofun,λz=>absurd z.1 h⟩
def IB{ws:E'}{x o:Int}(h:nx ws x=some o):0<=x/\x<ws.length:=by
 obtain⟨b,a⟩:=CY.mp h;have:=(AY.mp a).1;lia
structure Rw (ws:E') (f:Int) (row:List Int):Prop where
 ne:row≠[]
 nd:row.Nodup
 op:∀x∈row,∃o,nx ws x=some o
 st:∀(i:Nat)(x y:Int),row[i]?=some x->row[i+1]?=some y->nx ws x=some y
 hd:∀(i:Nat)(x:Int),row[i]?=some x->it ws f i=some x
def PD (ws:E') (R:List Int):Prop:=∀(i:Nat)(x:Int),R[i]?=some x->∃y,R[(i+1)%R.length]?=some y/\nx ws x=some y
structure FN (ws:E') (f:Int) (R:List Int):Prop where
 ne:R≠[]
 nd:R.Nodup
 low:∀x,R[0]?=some x->∀y∈R,x<=y
 cyc:PD ws R
 hit:∃n x,n<=ws.length/\it ws f n=some x/\x∈R
section
variable {ws:E'} {f:Int} {row R:List Int}
def Rw.one{o:Int}(h:nx ws f=some o):Rw ws f [f] where
 ne:=nofun
 nd:=Gd.mpr ⟨nofun,List.nodup_nil⟩
 op x b:=⟨o,by rw[AW.mp b];exact h⟩
 st i x y _ c:=by cases i<;>cases c
 hd i x a:=by
  cases i with
  |zero=>exact a
  |succ i=>cases a
def Rw.few(r:Rw ws f row):row.length<=ws.length:=HZ ws.length _ r.nd λy a=>by
 obtain⟨o,b⟩:=r.op y a;exact IB b
def Rw.more(r:Rw ws f row)(c:Cl ws){x o:Int}(m:row[row.length-1]?=some x)(k:nx ws x=some o)(n:o∉row):Rw ws f (row++[o]):=by
 have p:0<row.length:=List.length_pos_iff.mpr r.ne;refine⟨by simp,List.nodup_append.mpr ⟨r.nd,Gd.mpr ⟨nofun,List.nodup_nil⟩,λa d b g=>by rw[AW.mp g];exact λz=>n (z▸d)⟩,λy j=>?_,λi a b d g=>?_,λi a d=>?_⟩;rcases BI.mp j with j|j;exact r.op y j;rw[AW.mp j];exact c _ _ k;have l:=(AY.mp g).1;rw[AS,CZ] at l;rw[Ei (by lia)] at d;rcases Nat.lt_or_ge (i+1) row.length with h|h;rw[Ei h] at g;exact r.st i a b d g;have e:i=row.length-1:=(by lia);subst e;rw[ED h,show row.length-1+1-row.length=0 by lia] at g;rw[m] at d;cases d;cases g;exact k;rcases Nat.lt_or_ge i row.length with h|h;rw[Ei h] at d;exact r.hd i a d;rw[ED h] at d;have l:=(AY.mp d).1;rw[CZ] at l;have e:i=row.length-1+1:=(by lia);subst e;rw[show row.length-1+1-row.length=0 by lia] at d;cases d;show(it ws f (row.length-1)).bind (nx ws)=_;rw[r.hd _ _ m];exact k
def Rw.cyc(r:Rw ws f row){x o:Int}(e:row[row.length-1]?=some x)(g:nx ws x=some o)(c:row[i]?=some o):PD ws (row.drop i):=by
 have k:=(AY.mp c).1;intro j a b;rw[List.getElem?_drop] at b;have l:=(AY.mp b).1;rw[Gp];rcases Nat.lt_or_ge (j+1) (row.length-i) with h|h;rw[Nat.mod_eq_of_lt h];have d:=AC (show i+j+1<row.length by lia);exact⟨_,by rw[List.getElem?_drop];exact d,r.st _ _ _ b d⟩;rw[show j+1=row.length-i by lia,Nat.mod_self];rw[show i+j=row.length-1 by lia,e] at b;cases b;exact⟨o,by rw[List.getElem?_drop];exact c,g⟩
def Vc{l:List α}(a:j<=l.length)(b:i<l.length):(l.drop j++l.take j)[i]?=l[(i+j)%l.length]?:=by
 rcases Nat.lt_or_ge i (l.length-j) with h|h;rw[Ei (by rw[Gp];exact h),List.getElem?_drop,Nat.mod_eq_of_lt (by lia),Nat.add_comm];rw[ED (by rw[Gp];exact h),Gp,List.getElem?_take_of_lt (by lia),show i+j=i-(l.length-j)+l.length by lia,Nat.add_mod_right,Nat.mod_eq_of_lt (by lia)]
def Vd(l:List α)(j:Nat):(l.drop j++l.take j).length=l.length:=by
 rw[AS,Gp,FP];lia
def PD.rot{l:List Int}(c:PD ws l)(e:j<=l.length):PD ws (l.drop j++l.take j):=by
 intro i a d;have f:=(AY.mp d).1;rw[Vd] at f ⊢;rw[Vc e f] at d;obtain⟨b,g,h⟩:=c _ _ d;refine⟨b,?_,h⟩;rw[Vc e (Nat.mod_lt _ (by lia)),Nat.mod_add_mod,show i+1+j=i+j+1 by lia];rw[Nat.mod_add_mod] at g;exact g
def Rw.ring(r:Rw ws f row){x o m:Int}(l:row[row.length-1]?=some x)(n:nx ws x=some o)(e:row[i]?=some o)(h:(row.drop i)[j]?=some m)(p:∀y∈row.drop i,m<=y):FN ws f ((row.drop i).drop j++(row.drop i).take j):=by
 have c:=r.cyc l n e;have d:=(AY.mp h).1;have s:=(AY.mp e).1
 have g:((row.drop i).drop j++(row.drop i).take j).Perm (row.drop i):=by
  refine List.perm_append_comm.trans ?_;rw[List.take_append_drop]
 refine⟨λz=>?_,g.nodup_iff.mpr (List.Sublist.nodup (List.drop_sublist _ _) r.nd),λa k b q=>?_,c.rot (CI d),⟨i,o,?_,r.hd i o e,?_⟩⟩;have:=Bq List.length z;rw[Vd] at this;rw[this] at d;cases d;rw[Vc (CI d) (by lia),Nat.zero_add,Nat.mod_eq_of_lt d,h] at k;cases k;exact p b (g.mem_iff.mp q);have:=r.few;lia;exact g.mem_iff.mpr (A9 (i:=0) (by rw[List.getElem?_drop];exact e))
theorem FN.stay(r:FN ws f R):∀(d n:Nat)(x:Int),it ws f n=some x->x∈R->∃y,it ws f (n+d)=some y/\y∈R
 |0,n,x,h,m=>⟨x,h,m⟩
 |d+1,n,x,h,m=>by
   obtain⟨y,a,b⟩:=r.stay d n x h m;obtain⟨k,c⟩:=List.mem_iff_getElem?.mp b;obtain⟨z,g,e⟩:=r.cyc k y c;refine⟨z,?_,A9 g⟩;show(it ws f (n+d)).bind (nx ws)=_;rw[a];exact e
def FN.end_(r:FN ws f R):∃y,it ws f ws.length=some y/\y∈R:=by
 obtain⟨n,x,a,h,m⟩:=r.hit;have:=r.stay (ws.length-n) n x h m;rw[show n+(ws.length-n)=ws.length by lia] at this;exact this
end
def YH(n:Int):∀ns:List Int,ns.foldl min n∈n::ns/\∀y∈n::ns,ns.foldl min n<=y:=by
 intro ns
 induction ns generalizing n with
 |nil=>exact⟨Bn,λy a=>by rw[AW.mp a];exact Int.le_refl _⟩
 |cons m ns d =>
   obtain⟨e,b⟩:=d (min n m);have c:=b _ Bn;refine⟨?_,λy a=>?_⟩;rcases B5.mp e with h|h;show ns.foldl min (min n m)∈_;rw[h];rcases Int.le_total n m with g|g;rw[Int.min_eq_left g];exact Bn;rw[Int.min_eq_right g];exact B6 _ Bn;exact B6 _ (B6 _ h);show ns.foldl min (min n m)<=y;rcases B5.mp a with rfl|a;exact Int.le_trans c (Int.min_le_left _ _);rcases B5.mp a with rfl|a;exact Int.le_trans c (Int.min_le_right _ _);exact b y (B6 _ a)
theorem Ve{x:Int}:∀{l:List Int},x∈l->∃i:Nat,l[i]?=some x/\∀m,m<i->l[m]?≠some x
 |y::l,h=>by
   by_cases e:y=x;exact⟨0,Bq some e,λm a=>absurd a (Nat.not_lt_zero _)⟩;rcases B5.mp h with h|h;exact absurd h.symm e;obtain⟨i,b,c⟩:=Ve h;refine⟨i+1,b,λm a=>?_⟩
   cases m with
   |zero=>exact λz=>e (Bz z)
   |succ m=>exact c m (by lia)
def GN{l:List Int}{x:Int}:(l.map Dt.int)[i]?=some (.int x)↔l[i]?=some x:=by
 rw[A8]
 cases l[i]? with
 |none=>exact⟨nofun,nofun⟩
 |some y=>exact⟨λz=>by cases z;rfl,λz=>by cases z;rfl⟩
def Rl{l:List Int}{x:Int}:∀e∈l.map Dt.int,Dl 1 e (.int x):=λe a=>by
 obtain⟨y,_,rfl⟩:=AZ.mp a;exact .int _ _
def GA{l:List Int}{x:Int}:Dt.int x∈l.map Dt.int↔x∈l:=by
 rw[AZ];exact⟨λ⟨y,h,e⟩=>by cases e;exact h,λh=>⟨x,h,rfl⟩⟩
def opn (ws:E') (i:Nat):List Int:=((List.range i).filter λk=>((ws[k]?).bind id).isSome).map λk:Nat=>(k:Int)
def YI{ws:E'}{o:Int}(h:ws[i]?=some (some o)):opn ws (i+1)=opn ws i++[(i:Int)]:=by
 unfold opn;rw[List.range_succ,KX,Bk,Jn,h];rfl
def IC{ws:E'}(h:ws[i]?=some none):opn ws (i+1)=opn ws i:=by
 unfold opn;rw[List.range_succ,KX,Bk,Jn,h];exact E7 _
def Kx(ws:E')(i:Nat):(opn ws i).length<=i:=by
 unfold opn;rw[Ak];exact Ek (Oo _ _) (Nat.le_of_eq List.length_range)
def YJ{ws:E'}{k:Nat}{o:Int}(a:k<i)(h:ws[k]?=some (some o)):(k:Int)∈opn ws i:=
 AZ.mpr ⟨k,KW.mpr ⟨List.mem_range.mpr a,by rw[h];rfl⟩,rfl⟩
theorem Rm{ws:E'}:∀{i:Nat}{z:Int}{zs:List Int},opn ws i=z::zs->∃(f:Nat)(o:Int),z=f/\ws[f]?=some (some o)/\∀k,k<f->∀b,ws[k]?≠some (some b)
 |0,_,_,h=>by cases h
 | i + 1,z,zs,h=>by
   rcases Nat.lt_or_ge i ws.length with c|c
   cases e:ws[i]? with
   |none=>rw[List.getElem?_eq_none_iff] at e;lia
   |some w =>
     cases w with
     |none=>rw[IC e] at h;exact Rm h
     |some o =>
       rw[YI e] at h
       cases a:opn ws i with
       |nil =>
         rw[a] at h;cases h;exact⟨i,o,rfl,e,λk d b z=>by have:=YJ d z;rw[a] at this;cases this⟩
       |cons y ys =>
         rw[a] at h;cases h;exact Rm a
   have e:opn ws (i+1)=opn ws i:=by
    unfold opn;rw[List.range_succ,KX,Bk,Jn,Gg c];exact E7 _
   rw[e] at h;exact Rm h
def PH (P:Program) (w:World):List V->Hp->VK->Prop:=λvs H Q=>∃(d:Addr)(ns:List Int),vs=[.ref d]/\H d=some (Iu P w d ns)/\ns.length<=4000/\∀ds:List Int,ds.Nodup->(∀y,y∈ds↔y∈ns)->Q (.int ds.length) H
def iH{X:Cx}:A6 X (.builtin "len") (PH X.prog X.w):=by
 intro z s σ H m us Q I r h;obtain⟨d,n,rfl,hd,o,q⟩:=h;obtain⟨u,rfl,e⟩:=Fa r;obtain rfl:u=Value.ref d:=e;obtain⟨⟨a,b,c,p,t,v,w,f,g,i,_,_,_,j,k,_⟩,_,_⟩:=I.hok d _ hd;have x:=List.Nodup.length_le_of_subset b λy l=>(c y).mp l;exact call_len_set f g i j (by lia) ⟨.int a.length,H,I.tok _,⟨_,by rw[k]⟩,q a b c⟩
theorem Ls{ws:E'}{f:Int}:∀{n:Nat}{y:Int},it ws f n=some y->∀m,m<=n->∃z,it ws f m=some z
 |0,y,h,m,a=>⟨y,by rw[Nat.le_zero.mp a];exact h⟩
 |n+1,y,h,m,a=>by
   rcases Nat.lt_or_ge n m with g|g;rw[show m=n+1 by lia];exact⟨y,h⟩
   cases e:it ws f n with
   |none=>rw[show it ws f (n+1)=(it ws f n).bind (nx ws) from rfl,e] at h;cases h
   |some z=>exact Ls e m g
def Lu{ws:E'}{x o:Int}(h:nx ws x=some o):Bl (ws.map oV) x=some (.int o):=by
 obtain⟨a,b⟩:=CY.mp h;have:=BQ (xs:=ws.map oV) (j:=x.toNat) (v:=.int o) (by rw[A8,b];rfl);rw[Int.toNat_of_nonneg a] at this;exact this
def ID{R:List Int}{x:Int}(h:R[i]?=some x):Bl (R.map V.int) (i:Int)=some (.int x):=BQ (by rw[A8,h];rfl)
def FN.before{ws:E'}{f:Int}{R:List Int}(r:FN ws f R){x:Int}(h:R[i]?=some x):∃y,Bl (R.map V.int) ((i:Int)-1)=some (.int y)/\nx ws y=some x:=by
 have d:=(AY.mp h).1
 cases i with
 |zero =>
   have a:=AC (show R.length-1<R.length by lia);refine⟨_,WQ (by rw[Ak,A8,a];rfl),?_⟩;obtain⟨z,b,c⟩:=r.cyc _ _ a;rw[show R.length-1+1=R.length by lia,Nat.mod_self,h] at b;cases b;exact c
 |succ i =>
   have a:=AC (show i<R.length by lia);refine⟨_,by rw[show((i+1:Nat):Int)-1=(i:Int) by lia];exact ID a,?_⟩;obtain⟨z,b,c⟩:=r.cyc _ _ a;rw[Nat.mod_eq_of_lt d,h] at b;cases b;exact c
def Oc (W:Wd) (inn:Int) (ord:A') (qs:List Qu) (ws:E'):Prop:=ws.length=qs.length/\∀(k:Nat)(q:Qu)(o:Option Int),qs[k]?=some q->ws[k]?=some o->M7 W inn ord q W.as[k]? o
section
variable {W:Wd} {inn:Int} {ord:A'} {qs:List Qu} {ws:E'}
def YK(G:Je W qs inn ord)(h:Oc W inn ord qs ws){k:Nat}{o:Int}(e:ws[k]?=some (some o)):Lo W.as o:=by
 have b:=(AY.mp e).1;have a:=AC (show k<qs.length by rw[<-h.1];exact b);rcases h.2 _ _ _ a e with⟨_,_,z⟩|⟨_,w,ls,ts,c,z⟩;cases z;cases z;obtain⟨d,f,_⟩:=G.q _ (A9 a);obtain⟨_,_,_,_,_,_,_,_,_,_,_,g,_⟩:=Kh G.ok G.sm G.inn c d f rfl;exact g
def PJ(c:qs.length=W.as.length)(h:Oc W inn ord qs ws){k:Nat}(b:k<qs.length):(W.as[k]?=some none/\∃o,ws[k]?=some (some o))\/((∃p,W.as[k]?=some (some p))/\ws[k]?=some none):=by
 have a:=AC (show k<ws.length by rw[h.1];exact b);rcases h.2 _ _ _ (AC b) a with⟨p,e,z⟩|⟨e,w,_,_,_,z⟩;rw[z] at a;exact .inr ⟨⟨p,e⟩,a⟩;rw[z] at a;exact .inl ⟨e,_,a⟩
def Lv(G:Je W qs inn ord)(a:qs.length=W.as.length)(h:Oc W inn ord qs ws):Cl ws:=λx o e=>by
 obtain⟨b,f,c⟩:=YK G h (CY.mp e).2;rcases PJ a h (k:=o.toNat) (by lia) with⟨_,d,g⟩|⟨⟨p,g⟩,_⟩;exact⟨d,CY.mpr ⟨b,g⟩⟩;rw[c] at g;cases g
def YL{d:E'}(h:Oc W inn ord qs ws)(h':Oc W inn ord qs d):ws=d:=by
 refine List.ext_getElem? λk=>?_;rcases Nat.lt_or_ge k qs.length with a|a;have f:=AC (show k<ws.length by rw[h.1];exact a);have j:=AC (show k<d.length by rw[h'.1];exact a);have i:=AC a;rw[f,j];rcases h.2 _ _ _ i f with⟨p,e,z⟩|⟨e,w,_,_,l,z⟩<;>rcases h'.2 _ _ _ i j with⟨n,b,c⟩|⟨b,o,_,_,m,c⟩;rw[z,c];rw[e] at b;cases b;rw[e] at b;cases b;obtain⟨_,g,_,_⟩:=UP l m;cases g;rw[z,c];rw[Gg (by rw[h.1];exact a),Gg (by rw[h'.1];exact a)]
theorem Rn{K:Ah}{H:Hp}:∀ws:E',Aj K H (ws.map oV) (ws.map J6)
 |[]=>.nil
 |none::ws=>.cons .non (Rn ws)
 |some n::ws=>.cons (.int n) (Rn ws)
end
end L2
abbrev L2.SF (n:List (PySem.Str×PySem.NameKind)):PySem.Scope:={kind:=.function,names:=n,isGenerator:=false,isCoroutine:=false,more:=[]}
def L2.new_at{H:L2.Hp}{a:PySem.Addr}{o:L2.HO}(h:H a=none):∃H':L2.Hp,H'=L2.upd H a o/\L2.Ac H H'/\H' a=some o:=⟨_,rfl,L2.Bb h,L2.Aa⟩
variable {i:Nat}
def L2.getm{α β:Type}{f:α->β}{l:List α}{x:β}(h:(l.map f)[i]?=some x):∃z,l[i]?=some z/\f z=x:=by
 rw[A8] at h;exact E8.mp h
namespace K45
open PySem PySem.Spec PyProof.Rows L2 Ord
local macro_rules | `(tactic| trivial) => `(tactic| exact ⟨rfl, rfl, rfl, by decide +kernel, rfl, by decide +kernel, by decide +kernel⟩)
local macro_rules | `(tactic| trivial) => `(tactic| exact ⟨rfl, by decide +kernel, by decide +kernel, by decide +kernel, rfl, by decide +kernel, by decide +kernel⟩)
local macro_rules | `(tactic| rfl') => `(tactic| try dsimp only[AF,Cx.nox,Cx.wish])
def Ji:Ag ["_law_cell", "_law_many", "_law_letters", "_law_long", "_law_at", "_law_some", "_law_k", "_law_name", "_law_j", "_law_sign"] ["_law_cell", "_law_many"] (A0 R3):=by trivial
def iI:Ag ["_law_script", "_law_k"] ["_law_script", "_law_k"] (A0 R6):=by trivial
def Ro:Ag ["_law_number", "_law_many", "_law_some", "_law_k"] ["_law_number", "_law_many"] (A0 R7):=by trivial
def M9:Ag ["_law_cell", "_law_labels", "_law_one", "_law_other", "_law_some", "_law_j", "_law_k"] ["_law_cell", "_law_labels"] (A0 R8):=by trivial
def Na:Ag ["_law_cells", "_law_labels", "_law_states", "_law_cell", "_law_ranks_here", "_law_goes", "_law_ends", "_law_k"] ["_law_cells", "_law_labels"] (A0 R9):=by trivial
def Vf:Ag ["_law_cell", "_law_many", "_law_states", "_law_names_here", "_law_mixed", "_law_path"] ["_law_cell", "_law_many", "_law_states", "_law_names_here"] (A0 Sa):=by trivial
def YM:Ag ["_law_cell", "_law_many", "_law_asked", "_law_number"] ["_law_cell", "_law_many", "_law_asked"] (A0 Sb):=by trivial
def Vg:Ag ["_law_cell", "_law_labels", "_law_many", "_law_asked", "_law_label", "_law_number"] ["_law_cell", "_law_labels", "_law_many", "_law_asked"] (A0 Sc):=by trivial
def Rp:Ag ["_law_cell", "_law_labels", "_law_names_here", "_law_things", "_law_asked", "_law_label", "_law_number", "_law_name"] ["_law_cell", "_law_labels", "_law_names_here", "_law_things", "_law_asked"] (A0 Sd):=by trivial
def Od:Ag ["_law_cells", "_law_labels", "_law_names_here", "_law_many", "_law_sizes", "_law_scopes_here", "_law_most", "_law_cell", "_law_at", "_law_number"] ["_law_cells", "_law_labels", "_law_names_here", "_law_many", "_law_sizes"] (A0 Qi):=by trivial
def Cw:Av (A0 Qi) ["_law_cells", "_law_labels", "_law_names_here", "_law_many", "_law_sizes", "_law_scopes_here", "_law_most", "_law_cell", "_law_at", "_law_number"] (SF [(".0",.local),("_law_k",.local)]) ["_law_k"] 1 []:=by trivial
def Hq:Ag ["_law_script", "_law_names_here", "_law_labels", "_law_table_here", "_law_head", "_law_many", "_law_cells", "_law_things", "_law_questions", "_law_asked", "_law_cell", "_law_scopes_here"] ["_law_script"] (A0 Op):=by trivial
def C9:Av (A0 Op) ["_law_script", "_law_names_here", "_law_labels", "_law_table_here", "_law_head", "_law_many", "_law_cells", "_law_things", "_law_questions", "_law_asked", "_law_cell", "_law_scopes_here"] (SF [ (".0",.local),("_law_k",.local),("_law_cell_at",.globalImplicit),("_law_script",.free)]) ["_law_k", "_law_script"] 1 [0]:=by trivial
def Db:Av (A0 Op) ["_law_script", "_law_names_here", "_law_labels", "_law_table_here", "_law_head", "_law_many", "_law_cells", "_law_things", "_law_questions", "_law_asked", "_law_cell", "_law_scopes_here"] (SF [(".0",.local),("_law_cell",.local)]) ["_law_cell"] 1 []:=by trivial
def Rq:Ag ["table", "state", "label", "goes", "known", "number"] ["table", "state", "label"] (A0 Se):=by trivial
def Rr:Ag ["net", "answers", "question", "answer", "kind", "number"] ["net", "answers", "question"] (A0 Sf):=by trivial
def Vh:Ag ["net", "answers", "thing", "kind", "number"] ["net", "answers", "thing"] (A0 Sg):=by trivial
def PK:Ag ["net", "answers", "step", "label", "kind", "number", "answer"] ["net", "answers", "step"] (A0 Sh):=by trivial
def Nb:Ag ["net", "answers", "table", "scope", "state", "gone", "index", "step", "after", "kind", "number"] ["net", "answers", "table", "scope", "state"] (A0 Si):=by trivial
def Jj:Ag ["net", "answers", "table", "beginning", "marks", "last", "then", "come_to", "longer", "mark", "kind", "number", "after"] ["net", "answers", "table", "beginning"] (A0 Qj):=by trivial
def BH:Av (A0 Qj) ["net", "answers", "table", "beginning", "marks", "last", "then", "come_to", "longer", "mark", "kind", "number", "after"] (SF [(".0",.local),("mark",.local)]) ["mark"] 1 []:=by trivial
def Rs:Ag ["net", "answers", "table", "scope", "state", "found", "place"] ["net", "answers", "table", "scope", "state"] (A0 Sj):=by trivial
def YN:Ag ["table", "state", "label", "ends"] ["table", "state", "label"] (A0 Sk):=by trivial
def Nc:Ag ["net", "table", "begun", "name", "ways", "marks", "last", "then", "index", "telling"] ["net", "table", "begun", "name"] (A0 Sl):=by trivial
def iJ:Ag ["table"] ["table"] (A0 Qk):=by trivial
def Ci:Av (A0 Qk) ["table"] (SF [(".0",.local),("pair",.local)]) ["pair"] 1 []:=by trivial
def Nd:Ag ["ways", "tree", "number", "way", "branch", "mark"] ["ways"] (A0 Sm):=by trivial
def Oe:Ag ["net", "mark", "scope", "kind", "index", "steps", "tellings"] ["net", "mark"] (A0 So):=by trivial
def Nf:Ag ["net", "better", "tree", "way", "numbers", "branch", "mark", "label", "beside"] ["net", "better", "tree", "way"] (A0 Sq):=by trivial
def Vi:Ag ["net", "table", "ways", "better", "tree"] ["net", "table", "ways"] (A0 Ql):=by trivial
def Dc:Av (A0 Ql) ["net", "table", "ways", "better", "tree"] (SF [ (".0",.local),("way",.local),("first_hider",.globalImplicit),("list",.globalImplicit),("better",.free),("net",.free),("tree",.free)]) ["way", "net", "better", "tree"] 1 [0,3,4]:=by trivial
def YO:Ag ["net", "table", "begun", "name", "found"] ["net", "table", "begun", "name"] (A0 Sr):=by trivial
def PL:Ag ["net", "table", "found", "owed", "better", "tree", "way", "question"] ["net", "table", "found", "owed"] (A0 Ss):=by trivial
def PM:Ag ["net", "mark", "scope", "kind", "index", "tellings"] ["net", "mark"] (A0 Su):=by trivial
def Of:Ag ["net", "answers", "seen", "way", "label", "name", "kind", "number"] ["net", "answers", "seen"] (A0 Sv):=by trivial
def Ng:Ag ["net", "answers", "way", "label", "name", "kind", "number"] ["net", "answers", "way"] (A0 Sw):=by trivial
def Ky:Ag ["net", "answers", "table", "owed", "look", "at", "begun", "found", "seen", "waiting", "way", "question", "meanings"] ["net", "answers", "table", "owed", "look", "at"] (A0 NK):=by trivial
def GO:Av (A0 NK) ["net", "answers", "table", "owed", "look", "at", "begun", "found", "seen", "waiting", "way", "question", "meanings"] (SF [ (".0",.local),("way",.local),("meaning",.globalImplicit),("answers",.free),("net",.free)]) ["way", "net", "answers"] 1 [0,1]:=by trivial
def GP:Av (A0 NK) ["net", "answers", "table", "owed", "look", "at", "begun", "found", "seen", "waiting", "way", "question", "meanings"] (SF [(".0",.local),("thing",.local)]) ["thing"] 1 []:=by trivial
def GQ:Av (A0 NK) ["net", "answers", "table", "owed", "look", "at", "begun", "found", "seen", "waiting", "way", "question", "meanings"] (SF [ (".0",.local),("thing",.local),("meanings",.free)]) ["thing", "meanings"] 1 [12]:=by trivial
def Kz:Ag ["net", "answers", "table", "begun", "ways", "marks", "last", "then", "mark", "kind", "number", "after"] ["net", "answers", "table", "begun"] (A0 Sx):=by trivial
def GB:Ag ["net", "answers", "table", "asked", "scope", "state", "path", "looks", "things", "at", "name", "begun", "answer", "wait", "kind", "number"] ["net", "answers", "table", "asked"] (A0 Sy):=by trivial
def Vj:Ag ["net", "thing", "kind", "number"] ["net", "thing"] (A0 Sz):=by trivial
def iK:Ag ["net", "answer"] ["net", "answer"] (A0 SA):=by trivial
def Lw:Ag ["net", "answers", "table", "begun", "questions", "marks", "last", "then", "label", "kind", "number"] ["net", "answers", "table", "begun"] (A0 SD):=by trivial
def Nh:Ag ["net", "found", "questions", "way", "label", "name", "kind", "number"] ["net", "found"] (A0 SE):=by trivial
def Og:Ag ["net", "answers", "table", "looks", "things", "questions", "begun", "found", "seen", "thing"] ["net", "answers", "table", "looks", "things"] (A0 SG):=by trivial
def Ni:Ag ["net", "answers", "table", "due", "uses", "found", "question", "answer", "wait", "looks", "things"] ["net", "answers", "table", "due", "uses"] (A0 SH):=by trivial
def iL:Ag ["questions", "new"] ["questions", "new"] (A0 Qm):=by trivial
def DC:Av (A0 Qm) ["questions", "new"] (SF [ (".0",.local),("question",.local),("new",.free)]) ["question", "new"] 1 [1]:=by trivial
def YQ:Ag ["net", "answers", "table", "answered", "question"] ["net", "answers", "table", "answered"] (A0 SI):=by trivial
def Hr:Ag ["net", "table", "known", "those", "answers", "turns", "uses", "due", "turn", "found", "question", "answer", "new"] ["net", "table", "known", "those"] (A0 NL):=by trivial
def CM:Av (A0 NL) ["net", "table", "known", "those", "answers", "turns", "uses", "due", "turn", "found", "question", "answer", "new"] (SF [ (".0",.local),("question",.local),("answer",.local),("those",.free)]) ["question", "answer", "those"] 2 [3]:=by trivial
def Eb:Av (A0 NL) ["net", "table", "known", "those", "answers", "turns", "uses", "due", "turn", "found", "question", "answer", "new"] (SF [ (".0",.local),("question",.local),("uses_one",.globalImplicit),("answers",.free),("new",.free),("uses",.free)]) ["question", "new", "answers", "uses"] 1 [12,4,6]:=by trivial
def Ec:Av (A0 NL) ["net", "table", "known", "those", "answers", "turns", "uses", "due", "turn", "found", "question", "answer", "new"] (SF [ (".0",.local),("question",.local),("answers",.free)]) ["question", "answers"] 1 [4]:=by trivial
def YR:Ag ["net", "table", "many"] ["net", "table"] (A0 SJ):=by trivial
def PP:Ag ["net", "answers", "table", "question", "answer", "wait", "looks", "things"] ["net", "answers", "table", "question"] (A0 SK):=by trivial
def Rt:Ag ["net", "answers", "table", "question", "at", "way", "other"] ["net", "answers", "table", "question"] (A0 SM):=by trivial
def iM:Ag ["net", "answers", "table"] ["net", "answers", "table"] (A0 Qn):=by trivial
def Fn:Av (A0 Qn) ["net", "answers", "table"] (SF [ (".0",.local),("question",.local),("waited_for",.globalImplicit),("answers",.free),("net",.free),("table",.free)]) ["question", "net", "answers", "table"] 1 [0,1,2]:=by trivial
def Oh:Ag ["net", "answers", "table", "waiting", "still_open", "row", "ring", "least"] ["net", "answers", "table"] (A0 Qo):=by trivial
def CN:Av (A0 Qo) ["net", "answers", "table", "waiting", "still_open", "row", "ring", "least"] (SF [ (".0",.local),("question",.local),("other",.local)]) ["question", "other"] 2 []:=by trivial
def Vk:Ag ["_law_found", "_law_due", "_law_one", "_law_other"] ["_law_found", "_law_due"] (A0 Oq):=by trivial
def Vl:Ag ["_law_net", "_law_answers", "_law_table_here", "_law_some", "_law_k", "_law_end"] ["_law_net", "_law_answers", "_law_table_here", "_law_some"] (A0 SN):=by trivial
def YS:Ag ["_law_some", "_law_many", "_law_number"] ["_law_some", "_law_many"] (A0 SO):=by trivial
def Ru:Ag ["_law_circle", "_law_some", "_law_first", "_law_k"] ["_law_circle", "_law_some", "_law_first"] (A0 SQ):=by trivial
def Jk:Ag ["_law_script", "_law_net", "_law_table_here", "_law_handed", "_law_answers", "_law_kept", "_law_some", "_law_waited", "_law_circle", "_law_again"] ["_law_script"] (A0 K0):=by trivial
structure BC (mg:Str->Option Value):Prop where
 b_all:mg "all" = none
 b_any:mg "any" = none
 b_bool:mg "bool" = none
 b_dict:mg "dict" = none
 b_enumerate:mg "enumerate" = none
 b_int:mg "int" = none
 b_isinstance:mg "isinstance" = none
 b_len:mg "len" = none
 b_list:mg "list" = none
 b_min:mg "min" = none
 b_range:mg "range" = none
 b_set:mg "set" = none
 b_sorted:mg "sorted" = none
 b_str:mg "str" = none
 b_tuple:mg "tuple" = none
 b_zip:mg "zip" = none
 c_MOST_BEGINNINGS:∃t,mg "MOST_BEGINNINGS" = some (.int 200 t)
variable {us:List Value}
def IE(h:us.length=1):∃a,us=[a]:=by
 cases us with
 |nil=>cases h
 |cons a t=>exact⟨a,by rw[List.length_eq_zero_iff.mp (Nat.succ.inj h)]⟩
def IF(h:us.length=2):∃a b,us=[a,b]:=by
 cases us with
 |nil=>cases h
 |cons a t =>
   obtain⟨b,rfl⟩:=IE (Nat.succ.inj h);exact⟨a,b,rfl⟩
def Lx(h:us.length=3):∃a b c,us=[a,b,c]:=by
 cases us with
 |nil=>cases h
 |cons a t =>
   obtain⟨b,c,rfl⟩:=IF (Nat.succ.inj h);exact⟨a,b,c,rfl⟩
def Ly(h:us.length=4):∃a b c d,us=[a,b,c,d]:=by
 cases us with
 |nil=>cases h
 |cons a t =>
   obtain⟨b,c,d,rfl⟩:=Lx (Nat.succ.inj h);exact⟨a,b,c,d,rfl⟩
def Lz(h:us.length=5):∃a b c d e,us=[a,b,c,d,e]:=by
 cases us with
 |nil=>cases h
 |cons a t =>
   obtain⟨b,c,d,e,rfl⟩:=Ly (Nat.succ.inj h);exact⟨a,b,c,d,e,rfl⟩
def LA(h:us.length=6):∃a b c d e f,us=[a,b,c,d,e,f]:=by
 cases us with
 |nil=>cases h
 |cons a t =>
   obtain⟨b,c,d,e,f,rfl⟩:=Lz (Nat.succ.inj h);exact⟨a,b,c,d,e,f,rfl⟩
open PySem PySem.Spec PyProof.Rows L2 in
def BO{P:Program}{w:World}{K:Ah}{g:Str->Option Value}{l:Heap}{x e:Str}{st:Stmt}{f:Addr}{i:FuncData}{N ps:List Str}{k:Nat}{sp:Sp}(F:Bp K x e st f i)(m:g x=some (.ref f))(S:Ag N ps (A0 st))(len:∀vs H Q E,sp vs H Q E->vs.length=ps.length)
  (u:∀(d:Value)(A:Around)(v:List Env)(s:Shared)(H:Hp)(vs:List V)(Q:VK)(E:XK),B2 k (A.deeper (envOfC e (A0 st) s.heap.objs.size f d))->sp vs H Q E -> ∃t,Gu (AF I7 P w K g l N e (A0 st) f d A v s H E).nox (IS st) t/\t {nx:=λ_ H'=>Q .non H',rt:=Q} (start N vs) H)
  (n:∀(kV r o:Value)(p:Option Addr)(d ct:Value)(us:List Value),us.length=ps.length->bindArgs (PySem.W.fnOf x e (KZ st) (IS st) (A0 st) .none kV r o p d ct) ⟨us,[]⟩=pure (ps.zip us):=by intro _ _ _ _ _ _ us a;first|(obtain⟨_,rfl⟩:=IE a;rfl)|(obtain⟨_,_,rfl⟩:=IF a;rfl)|(obtain⟨_,_,_,rfl⟩:=Lx a;rfl)|(obtain⟨_,_,_,_,rfl⟩:=Ly a;rfl)|(obtain⟨_,_,_,_,_,rfl⟩:=Lz a;rfl)|(obtain⟨_,_,_,_,_,_,rfl⟩:=LA a;rfl)):BB P w K g l x (k+1) ps sp:=⟨f,i,F.ok S len u,m,F.kp,F.binds n⟩
def PQ(h:us.length=7):∃a b c d e f g,us=[a,b,c,d,e,f,g]:=by
 cases us with
 |nil=>cases h
 |cons a t =>
   obtain⟨b,c,d,e,f,g,rfl⟩:=LA (Nat.succ.inj h);exact⟨a,b,c,d,e,f,g,rfl⟩
def YT(h:us.length=8):∃a b c d e f g i,us=[a,b,c,d,e,f,g,i]:=by
 cases us with
 |nil=>cases h
 |cons a t =>
   obtain⟨b,c,d,e,f,g,i,rfl⟩:=PQ (Nat.succ.inj h);exact⟨a,b,c,d,e,f,g,i,rfl⟩
section
set_option maxHeartbeats 4000000
seal L2.PE L2.PA L2.PS L2.Gu L2.PT L2.PW L2.PC L2.PG L2.OB L2.PI L2.PF L2.Jt L2.Dv L2.Qt L2.A6 L2.K8 L2.I0 L2.Tj L2.PO
variable {P:Program} {w:World} {K:Ah} {mg:Str->Option Value} {base:Heap} {f:Addr} {fd:FuncData}
def YU:(("abcdefghijklmnopqrstuvwxyz" : Str)).cps.toList.length=26:=by decide +kernel
def Rv(w:Str)(c:Nat):(w++(⟨#[c]⟩:Str)).length=w.length+1:=by
 show(w.cps++#[c]).size=w.cps.size+1
 simp
def Nj:∀n,n<26->(("abcdefghijklmnopqrstuvwxyz" : Str)).cps.toList[n]?=some (97+n):=by decide +kernel
def YV(n:Int):Bl (("abcdefghijklmnopqrstuvwxyz" : Str)).cps.toList (n%26)=some (97+(n%26).toNat):=by
 have a:=Fy n (by decide:(26:Int)≠0);have c:=Fw n (by decide:(0:Int)<26);obtain⟨k,b⟩:=Dx a;rw[b,Bo];exact BQ (Nj k (by lia))
def iN(w:Str)(c:Nat):(w++(⟨#[c]⟩:Str)).cps.toList=w.cps.toList++[c]:=by
 show(w.cps++#[c]).toList=_
 simp
abbrev G7 (n:Int):Str:=⟨#[97+(n%26).toNat]⟩
def Nk (c:Int) (k j:Nat):Int:=c/(64+3*(j:Int))+(j:Int)*(c/64%2)+(k:Int)*(if(j:Int)=c/8%(1+c%8) then 1 else 0)
def ER (c:Int) (k:Nat):Nat->Str
 |0 => ""
 |j+1=>ER c k j++G7 (Nk c k j)
def Go (c:Int) (m:Nat):List Str:=(List.range m).map λk=>ER c k (1+c%8).toNat
def G8 (c:Int) (m:Nat):List Str:=if c/128%3=1/\1+c%8<8 then(Go c m).set 1 (ER c 0 (1+c%8).toNat++G7 (c/384)) else Go c m
theorem KA(c:Int)(k:Nat):∀j,(ER c k j).length=j
 |0=>show("" : Str).length=0 by decide +kernel
 |j+1=>by
   show(ER c k j++G7 (Nk c k j)).length=j+1;rw[Rv,KA c k j]
theorem Vm(c:Int)(k:Nat){a:Nat}:∀{j:Nat},a<j->(ER c k j).cps.toList[a]?=some (97+(Nk c k a%26).toNat)
 |0,h=>absurd h (Nat.not_lt_zero _)
 |j+1,h=>by
   show(ER c k j++G7 (Nk c k j)).cps.toList[a]?=_;rw[iN];have b:(ER c k j).cps.toList.length=j:=by rw[Array.length_toList];exact KA c k j
   by_cases d:a<j;rw[Ei (by rw[b];exact d)];exact Vm c k d;have e:a=j:=(by lia);subst e;rw[ED (by rw[b];exact AG _),b,Nat.sub_self];rfl
def PR(c:Int)(m:Nat):(Go c m).length=m:=by unfold Go;rw[Ak,List.length_range]
def Oi(c:Int)(m:Nat):(G8 c m).length=m:=by
 unfold G8;split;rw[Ge,PR];exact PR c m
variable {c:Int}
def Nl{j:Nat}(l:i<26)(m:j<26)(h:ER c i (1+c%8).toNat=ER c j (1+c%8).toNat):i=j:=by
 have g:=Fy (c/8) (show(1+c%8)≠0 by lia);have n:=Fw (c/8) (show 0<1+c%8 by lia);obtain⟨a,k⟩:=Dx g;have f:a<(1+c%8).toNat:=(by lia);have e:=Vm c i f;rw[h,Vm c j f] at e;have d:=Bz e;unfold Nk at d;rw[Al k.symm] at d;generalize c/(64+3*(a:Int))+(a:Int)*(c/64%2)=b at d;lia
variable {m:Nat}
def IG(d:m<=26):(Go c m).Nodup:=by
 unfold Go;refine List.pairwise_iff_getElem.mpr λi j a b f e=>?_;rw[Ak,List.length_range] at a b;rw[List.getElem_map,List.getElem_map,List.getElem_range,List.getElem_range] at e;have:=Nl (by lia) (by lia) e;lia
def iO:∀y∈Go c m,y.length=(1+c%8).toNat:=λy a=>by
 obtain⟨k,_,rfl⟩:=AZ.mp a;exact KA _ _ _
def YW(a:m<=26):(G8 c m).Nodup:=by
 unfold G8;split;refine List.pairwise_iff_getElem.mpr λi j f g h e=>?_;rw[Ge,PR] at f g;have d:∀(k:Nat)(b:k<(Go c m).length),(Go c m)[k].length=(1+c%8).toNat:=λk b=>iO _ (EC b);rw[List.getElem_set,List.getElem_set] at e;split at e;rw[An (by lia)] at e;have:=Bq Str.length e;rw[Rv,KA,d] at this;lia;split at e;have:=Bq Str.length e;rw[Rv,KA,d] at this;lia;exact absurd e ((List.pairwise_iff_getElem.mp (IG (c:=c) a)) i j _ _ h);exact IG a
def iP{k:Nat}:(ER c k (1+c%8).toNat).length<=8:=by rw[KA];lia
set_option tactic.hygienic true in
def LB:∀x∈G8 c m,x.length<=8:=by
 intro x a;unfold G8 at a
 have b:∀y∈Go c m,y.length<=8:=λy d=>by
  obtain⟨k,_,rfl⟩:=AZ.mp d;exact iP
 split at a;rename_i e;rcases List.mem_or_eq_of_mem_set a with h|rfl;exact b x h;rw[Rv,KA];lia;exact b x a
inductive DD (K:Ah) (vs:List V) (H:Hp) (Q:VK):Prop where
 |mk (c:Int) (m:Nat) (h0:vs=[.int c,.int m]) (h1:2<=m) (h2:m<=26) (h3:∀(L:Addr)(H':Hp),H L=none->Ac H H'->H' L=some (.lst ((G8 c m).map V.str))->Q (.ref L) H'):DD K vs H Q
def iQ (K:Ah):Sp:=λvs H Q _=>DD K vs H Q
abbrev Vn(P w K mg base):=BB P w K mg base "_law_names" 1 ["_law_cell", "_law_many"] (iQ K)
theorem iR(B:BC mg)(F:Bp K "_law_names" "_law_names" R3 f fd)(N:mg "_law_names" = some (.ref f)):Vn P w K mg base:=by
 refine BO F N Ji (λO H Q E h=>?_) (λae A ag s H O Q E hr h=>?_);obtain⟨c,m,rfl,_⟩:=h;rfl
 . obtain⟨c,m,rfl,m0,m9,q⟩:=h
   refine⟨_,(Ao (AL (i:=2) Ji.nd B8)
    (Ao (AL (i:=3) Ji.nd (AE Hy Ai (AE Bu (pv 0) Ai)))
    (Ao (AL (i:=4) Ji.nd (AE Bu (AE FQ (pv 0) Ai) (pv 3)))
    (Ao (AL (i:=5) Ji.nd (Cq Af))
    (Ao (CG Cn rfl (Hx rfl B.b_range (Ab (pv 1) Af)) (Az (i:=6) Ji.nd) (Ao (AL (i:=7) Ji.nd B8)
     (Ao (CG Cn rfl (Hx rfl B.b_range (Ab (pv 3) Af)) (Az (i:=8) Ji.nd) (Ao (AL (i:=9) Ji.nd (AE Hy (AE FQ (pv 0) (AE Hy Ai (AE EV Ai (pv 8)))) (AE EV (pv 8) (AE Bu (AE FQ (pv 0) Ai) Ai))))
      (As (AL (i:=7) Ji.nd (AE Wf (pv 7) (Ax Ay (pv 2) (AE Bu (AE Hy (pv 9) (AE EV (pv 6) (GZ Wg B.b_int (Ab (IZ CJ (pv 8) (pv 4) (Bs _)) Af)))) Ai)))))))
     (As (C8 (C3 C0 Ev Ew Ex (pv 5) (Ab (pv 7) Af)))))))
    (Ao (Bc (PW.pt (GY (Bv CJ (AE Bu (AE FQ (pv 0) Ai) Ai) Ai (Bs _)) (GX (Bv Gx (pv 3) Ai (Bs _))))) (As (D6 (AE Wf (Ax Ay (pv 5) Ai) (Ax Ay (pv 2) (AE Bu (AE FQ (pv 0) Ai) Ai))) (Qr (pv 5) Ai To))) Bg)
    (As (AK (pv 5))))))))),?_⟩
   rfl';refine TQ ?_;cbv;refine⟨(by show(0:Int)<8;decide),?_⟩;cbv;have z0:1<=1+c%8/\1+c%8<=8:=(by lia);refine⟨⟨by decide,by decide⟩,(by show 0<1+c%8;lia),?_⟩;cbv;refine⟨by decide,λL t=>?_⟩;obtain⟨aa,U,R,W⟩:=new_at (o:=.lst []) t;rw[<-U];refine⟨by lia,by lia,Jv (lo:=0) (n:=m) (λi σ g=>∃u v a d,σ=[some (.int c),some (.int m),some (.str "abcdefghijklmnopqrstuvwxyz"),some (.int (1+c%8)),some (.int (c/8%(1+c%8))),some (.ref L),u,v,a,d]/\Ac H g/\g L=some (.lst ((Go c i).map V.str))) ⟨none,none,none,none,rfl,R,W⟩ ?_ ?_⟩;rotate_left
   . refine λσ M G=>AM λS r=>?_
     obtain⟨u,v,a,d,rfl,p,l⟩:=G;refine r ?_;clear r;cbv;refine Hh (λσ' g=>σ'=[some (.int c),some (.int m),some (.str "abcdefghijklmnopqrstuvwxyz"),some (.int (1+c%8)),some (.int (c/8%(1+c%8))),some (.ref L),u,v,a,d]/\Ac H g/\g L=some (.lst ((G8 c m).map V.str))) ?_ (λab x=>?_)
     case refine_2 =>
      refine⟨⟨by decide,by decide⟩,(by show(0:Int)<3;decide),rfl,rfl,Am (λy=>?_) (λy=>A7 ?_)⟩;rotate_left;have I:¬c/128%3=1:=λe=>y (Ba (by show V.int (c/128%3)=V.int 1;rw[e]));refine x _ _ ⟨rfl,p,?_⟩;unfold G8;rw[An λz=>I z.1];exact l;have I:c/128%3=1:=V.int.inj (Bm y);refine⟨rfl,Am (λC=>?_) (λC=>?_)⟩;rotate_left;have J:¬1+c%8<8:=λe=>C (Ba e);refine x _ _ ⟨rfl,p,?_⟩;unfold G8;rw[An λz=>J z.2];exact l;have J:1+c%8<8:=Bm C;have hl:(Go c m).length=m:=PR c m
      have X:(Go c m)[0]?=some (ER c 0 (1+c%8).toNat):=by
       unfold Go;rw[A8,List.getElem?_range (by lia)];rfl
      have Y:Bl ((Go c m).map V.str) 0=some (V.str (ER c 0 (1+c%8).toNat)):=BQ (j:=0) (by rw[A8,X];rfl);refine Or.inl ⟨_,.str (ER c 0 (1+c%8).toNat),Ae.of l,Y,⟨by decide,by decide⟩,(by show(0:Int)<26;decide),Or.inr (Or.inr ⟨_,_,_,rfl,rfl,by decide +kernel,YV (c/384),ER c 0 (1+c%8).toNat,_,rfl,rfl,?_,L,_,_,1,rfl,rfl,l,?_,?_⟩)⟩;show(ER c 0 (1+c%8).toNat).length+1<=sizeLine;rw[KA];exact CI (BK (by lia));exact TR (k:=1) (by decide) (by rw[Ak];lia);refine x _ _ ⟨rfl,λb o e=>?_,?_⟩;rw[AD (AX e t)];exact p _ _ e;unfold G8;rw[Aa,Al ⟨I,J⟩,List.map_set]
     rintro σ' D ⟨rfl,T,Z⟩;exact q L D t T Z
   refine λi σ M hi G=>AM λS r=>?_;obtain⟨u,v,a,d,rfl,p,l⟩:=G;refine r ?_;clear r;refine TQ ?_;cbv;refine⟨by lia,by lia,Jv (lo:=0) (n:=(1+c%8).toNat) (λj σ g=>∃(a d:Option V),σ=[some (.int c),some (.int m),some (.str "abcdefghijklmnopqrstuvwxyz"),some (.int (1+c%8)),some (.int (c/8%(1+c%8))),some (.ref L),some (.int (0+(i:Int))),some (.str (ER c i j)),a,d]/\g=M) ⟨_,_,rfl,rfl⟩ ?_ ?_⟩;rotate_left;rintro σ D ⟨a,d,rfl,rfl⟩;refine⟨Or.inl ⟨rfl,_,Ae.of l⟩,_,l,by rw[Ak,PR];exact BK (by lia),?_⟩;refine⟨_,_,_,_,rfl,λb o e=>?_,?_⟩;rw[AD (AX e t)];exact p _ _ e;rw[Aa];unfold Go;rw[List.range_succ,Bk,Bk];rfl;rintro j σ D hj ⟨a,d,rfl,rfl⟩;have af:j<8:=(by lia);refine⟨Or.inl ⟨by lia,by lia⟩,⟨by lia,by lia⟩,⟨by decide,by decide⟩,(by show(0:Int)<2;decide),Or.inl ⟨by lia,by lia⟩,?_⟩;refine⟨rfl,Or.inr ⟨_,rfl,Or.inl ⟨by lia,by lia⟩,(by show(0:Int)<26;decide),Or.inr (Or.inr ⟨_,_,_,rfl,rfl,by decide +kernel,YV _,ER c i j,_,rfl,rfl,?_,?_⟩)⟩⟩;show(ER c i j).length+1<=sizeLine;rw[KA];exact CI (BK (by lia));refine⟨some (.int (0+(j:Int))),some (.int (c/(64+3*(0+(j:Int)))+(0+(j:Int))*(c/64%2))),?_,rfl⟩
   have e:ER c i (j+1)=ER c i j++G7 (c/(64+3*(0+(j:Int)))+(0+(j:Int))*(c/64%2)+(0+(i:Int))*(if decide (V.int (0+(j:Int))=V.int (c/8%(1+c%8)))=true then 1 else 0)):=by
    show ER c i j++G7 (Nk c i j)=_;unfold Nk;simp only[Int.zero_add,decide_eq_true_eq,V.int.injEq]
   rw[e];rfl
variable {ns:List Int}
def iS{k:Int}(b:0<=k)(c:k<ns.length):Bl (ns.map V.int) k=some (V.int (FF ns k)):=by
 obtain⟨n,rfl⟩:=Dx b;have a:n<ns.length:=(by lia);refine BQ ?_;rw[A8,AC a];show some (V.int ns[n])=some (V.int ((ns[((n:Int)).toNat]?).getD 0));rw[Bo,AC a];rfl
def iT{k:Int}(a:0<=k)(b:¬k<ns.length):FF ns k=0:=by
 unfold FF;rw[Gg (by lia)];rfl
def iU (K:Ah):Sp:=λvs H Q _=>∃a ns k,vs=[.ref a,.int k]/\0<=k/\Ae K H a (ns.map V.int)/\Q (.int (FF ns k)) H
abbrev PU(P w K mg base):=BB P w K mg base "_law_cell_at" 1 ["_law_script", "_law_k"] (iU K)
theorem iV(B:BC mg)(F:Bp K "_law_cell_at" "_law_cell_at" R6 f fd)(g:mg "_law_cell_at" = some (.ref f)):PU P w K mg base:=by
 refine BO F g iI (λi H Q E h=>?_) (λl A m s H i Q E j h=>?_);obtain⟨a,ns,k,rfl,_⟩:=h;rfl;obtain⟨a,ns,k,rfl,d,e,q⟩:=h
 refine⟨_,(Ao (Bc (Bv Gx (pv 1) (BA Dy B.b_len (Ab (pv 0) Af)) (Bs _)) (As (AK (Ax Ay (pv 0) (pv 1)))) Bg)
  (As (AK Ai))),?_⟩
 rfl';refine⟨_,Or.inl ⟨_,e,rfl⟩,rfl,?_⟩;rw[Ak];refine Am (λb=>?_) (λc=>?_);have b:=Bm b;exact Or.inl ⟨_,_,e,iS d b,q⟩;have c:¬k<(ns.length:Int):=λz=>c (Ba z);show Q (.int 0) H;rw[iT d c] at q;exact q
def PV (n:Int):Nat->Int
 |0=>n
 |k+1=>PV n k/5
def G9 (n:Int) (m:Nat):List Int:=(List.range m).map λk=>PV n k%5
def Rx(n:Int)(m:Nat):(G9 n m).length=m:=by unfold G9;rw[Ak,List.length_range]
def iW(n:Int)(m:Nat):G9 n (m+1)=G9 n m++[PV n m%5]:=by unfold G9;rw[List.range_succ,Bk];rfl
def Vo(n:Int){k:Nat}(h:k<m):(G9 n m)[k]?=some (PV n k%5):=by unfold G9;rw[A8,List.getElem?_range h];rfl
inductive DE (K:Ah) (vs:List V) (H:Hp) (Q:VK):Prop where
 |mk (n:Int) (m:Nat) (h0:vs=[.int n,.int m]) (h1:m<=100) (h2:∀(D:Addr)(H':Hp),H D=none->Ac H H'->H' D=some (.lst ((G9 n m).map V.int))->Q (.ref D) H'):DE K vs H Q
def iX (K:Ah):Sp:=λvs H Q _=>DE K vs H Q
abbrev Ry(P w K mg base):=BB P w K mg base "_law_ranks" 1 ["_law_number", "_law_many"] (iX K)
theorem iY(B:BC mg)(F:Bp K "_law_ranks" "_law_ranks" R7 f fd)(j:mg "_law_ranks" = some (.ref f)):Ry P w K mg base:=by
 refine BO F j Ro (λp H Q E h=>?_) (λy A z s H p Q E v h=>?_);obtain⟨n,m,rfl,_⟩:=h;rfl
 . obtain⟨n,m,rfl,j,q⟩:=h
   refine⟨_,(Ao (AL (i:=2) Ro.nd (Cq Af))
    (Ao (CG Cn rfl (Hx rfl B.b_range (Ab (pv 1) Af)) (Az (i:=3) Ro.nd) (Ao (C8 (C3 C0 Ev Ew Ex (pv 2) (Ab (AE Bu (pv 0) Ai) Af)))
     (As (AL (i:=0) Ro.nd (AE FQ (pv 0) Ai)))))
    (As (AK (pv 2))))),?_⟩
   rfl';refine⟨by decide,λD c=>?_⟩;obtain⟨Y,t,r,u⟩:=new_at (o:=.lst []) c;rw[<-t];refine⟨by lia,by lia,Jv (lo:=0) (n:=m) (λi σ k=>∃d,σ=[some (.int (PV n i)),some (.int m),some (.ref D),d]/\Ac H k/\k D=some (.lst ((G9 n i).map V.int))) ⟨none,rfl,r,u⟩ ?_ ?_⟩;rotate_left;rintro σ l ⟨d,rfl,g,a⟩;exact q D l c g a;rintro i σ l x ⟨d,rfl,g,a⟩;refine⟨Or.inl ⟨rfl,_,Ae.of a⟩,(by show(0:Int)<5;decide),_,a,by rw[Ak,Rx];exact BK (by lia),?_⟩;refine⟨⟨by decide,by decide⟩,?_⟩;refine⟨_,rfl,λb o e=>?_,?_⟩;rw[AD (AX e c)];exact g _ _ e;rw[Aa,iW,Bk];rfl
def EJ (ls:List Str) (one oth:List Int) (j k:Nat):A':=if one.getD j 0<one.getD k 0/\oth.getD j 0<oth.getD k 0 then[(ls.getD j default,ls.getD k default)] else[]
def F9 (ls:List Str) (one oth:List Int) (j n:Nat):A':=(List.range n).flatMap (EJ ls one oth j)
def E3 (ls:List Str) (one oth:List Int) (n:Nat):A':=(List.range n).flatMap λj=>F9 ls one oth j ls.length
def Rz(ls:List Str)(one a:List Int)(j n:Nat):F9 ls one a j (n+1)=F9 ls one a j n++EJ ls one a j n:=by unfold F9;rw[List.range_succ,List.flatMap_append];simp
def YX(ls:List Str)(one a:List Int)(n:Nat):E3 ls one a (n+1)=E3 ls one a n++F9 ls one a n ls.length:=by unfold E3;rw[List.range_succ,List.flatMap_append];simp
def iZ(ls:List Str)(one a:List Int)(j k:Nat):(EJ ls one a j k).length<=1:=by unfold EJ;split<;>simp
theorem Vp(ls:List Str)(one a:List Int)(j:Nat):∀n,(F9 ls one a j n).length<=n
 |0=>AG _
 |n+1=>by
   rw[Rz,AS];have:=Vp ls one a j n;have:=iZ ls one a j n;lia
theorem RA(ls:List Str)(one a:List Int):∀n,(E3 ls one a n).length<=n*ls.length
 |0=>by simp[E3]
 |n+1=>by
   rw[YX,AS,Nat.succ_mul];have:=RA ls one a n;have:=Vp ls one a n ls.length;lia
def GC (c:Int) (m:Nat):List Int:=G9 (c*48271%2147483647) m
def Ga (c:Int) (m:Nat):List Int:=if c%2=1 then G9 (c*69621%2147483629) m else GC c m
def YY(c:Int)(m:Nat):(GC c m).length=m:=Rx _ _
def KC(c:Int)(m:Nat):(Ga c m).length=m:=by unfold Ga;split;exact Rx _ _;exact YY _ _
structure EK (c:Int) (ls:List Str) (ord:A'):Prop where
 perm:ord.Perm (E3 ls (GC c ls.length) (Ga c ls.length) ls.length)
 srt:ord.Pairwise (BP Dm Dm).kle
variable {ls:List Str}{o:A'}
def EK.uniq{u:A'}(h:EK c ls o)(k:EK c ls u):o=u:=Mv (O:=BP Dm Dm) (h.perm.trans k.perm.symm) h.srt k.srt
def EK.len(h:EK c ls o)(a:ls.length<=6):o.length<=36:=by
 have b:=h.perm.length_eq;have d:=RA ls (GC c ls.length) (Ga c ls.length) ls.length;have e:ls.length*ls.length<=6*6:=Nat.mul_le_mul a a;lia
set_option tactic.hygienic true in
def EK.irr(h:EK c ls o)(g:ls.Nodup)(x:Str):(x,x)∉o:=λi=>by
 have l:=h.perm.mem_iff.mp i;obtain⟨j,b,m⟩:=List.mem_flatMap.mp l;obtain⟨k,d,a⟩:=List.mem_flatMap.mp m;rw[List.mem_range] at b d;unfold EJ at a;split at a;rename_i p;have e:=AW.mp a;have n:x=ls.getD j default:=Bq Prod.fst e;have f:x=ls.getD k default:=Bq Prod.snd e;rw[n,B1,B1,AC b,AC d] at f
 have:=(List.getElem_inj g).mp (show ls[j]=ls[k] from f)
 subst this;exact absurd p.1 (Int.lt_irrefl _);cases a
variable {x:Str}
set_option tactic.hygienic true in
def IH{one d:List Int}{y:Str}(h:(x,y)∈E3 ls one d ls.length):∃j k,ls[j]?=some x/\ls[k]?=some y/\one.getD j 0<one.getD k 0/\d.getD j 0<d.getD k 0:=by
 obtain⟨j,b,i⟩:=List.mem_flatMap.mp h;obtain⟨k,c,a⟩:=List.mem_flatMap.mp i;rw[List.mem_range] at b c;unfold EJ at a;split at a;rename_i l;have e:=AW.mp a;have f:x=ls.getD j default:=Bq Prod.fst e;have g:y=ls.getD k default:=Bq Prod.snd e;rw[B1,AC b] at f;rw[B1,AC c] at g;refine⟨j,k,?_,?_,l⟩;rw[AC b,f];rfl;rw[AC c,g];rfl;cases a
def Nm{one a:List Int}{y:Str}{j k:Nat}(b:ls[j]?=some x)(c:ls[k]?=some y)(h:one.getD j 0<one.getD k 0/\a.getD j 0<a.getD k 0):(x,y)∈E3 ls one a ls.length:=by
 refine List.mem_flatMap.mpr ⟨j,List.mem_range.mpr (AY.mp b).1,List.mem_flatMap.mpr ⟨k,List.mem_range.mpr (AY.mp c).1,?_⟩⟩;unfold EJ;rw[Al h,B1,B1,b,c];exact AW.mpr rfl
def EK.tr(h:EK c ls o)(b:ls.Nodup)(x y z:Str)(d:(x,y)∈o)(e:(y,z)∈o):(x,z)∈o:=by
 obtain⟨j,k,f,a,n,p⟩:=IH (h.perm.mem_iff.mp d);obtain⟨g,l,i,m,q,r⟩:=IH (h.perm.mem_iff.mp e);have:k=g:=(List.getElem?_inj (AY.mp a).1 b).mp (a.trans i.symm);subst this;exact h.perm.mem_iff.mpr (Nm f m ⟨by lia,by lia⟩)
def LD{xs:List Int}{v:Int}(h:xs[i]?=some v):xs.getD i 0=v:=by rw[B1,h];rfl
variable {xs:List Str}
def YZ{v:Str}(h:xs[i]?=some v):xs.getD i default=v:=by rw[B1,h];rfl
inductive DF (K:Ah) (vs:List V) (H:Hp) (Q:VK):Prop where
 |mk (c:Int) (l:Addr) (ls:List Str) (h0:vs=[.int c,.ref l]) (h1:Ae K H l (ls.map V.str)) (h2:ls.length<=6) (h3:∀(D:Addr)(ts:List Addr)(ord:A')(H':Hp),H D=none->Ac H H'->H' D=some (.lst (ts.map V.ref))->Cf H' ts ord->EK c ls ord->Q (.ref D) H'):DF K vs H Q
def i0 (K:Ah):Sp:=λvs H Q _=>DF K vs H Q
abbrev Vq(P w K mg base):=BB P w K mg base "_law_order" 2 ["_law_cell", "_law_labels"] (i0 K)
theorem i3(B:BC mg)(ag:Ry P w K mg base)(F:Bp K "_law_order" "_law_order" R8 f fd)(hm:mg "_law_order" = some (.ref f)):Vq P w K mg base:=by
 refine BO F hm M9 (λvs H a0 a3 h=>?_) (λaK aF aN aG H vs a0 a3 hr h=>?_);obtain⟨c,l,ls,rfl,_⟩:=h;rfl
 . obtain⟨c,l,ls,rfl,E,U,a4⟩:=h
   refine⟨_,(Ao (AL (i:=2) M9.nd (A5 ag (Ab (AE Bu (AE EV (pv 0) Ai) Ai) (Ab (BA Dy B.b_len (Ab (pv 1) Af)) Af))))
    (Ao (AL (i:=3) M9.nd (GZ Qy B.b_list (Ab (pv 2) Af)))
    (Ao (Bc (Bv CJ (AE Bu (pv 0) Ai) Ai (Bs _)) (As (AL (i:=3) M9.nd (A5 ag (Ab (AE Bu (AE EV (pv 0) Ai) Ai) (Ab (BA Dy B.b_len (Ab (pv 1) Af)) Af))))) Bg)
    (Ao (AL (i:=4) M9.nd (Cq Af))
    (Ao (CG Cn rfl (Hx rfl B.b_range (Ab (BA Dy B.b_len (Ab (pv 1) Af)) Af)) (Az (i:=5) M9.nd) (As (CG Cn rfl (Hx rfl B.b_range (Ab (BA Dy B.b_len (Ab (pv 1) Af)) Af)) (Az (i:=6) M9.nd) (As (Bc (PW.pt (GY (Bv Gx (Ax Ay (pv 2) (pv 5)) (Ax Ay (pv 2) (pv 6)) (Bs _)) (GX (Bv Gx (Ax Ay (pv 3) (pv 5)) (Ax Ay (pv 3) (pv 6)) (Bs _))))) (As (C8 (C3 C0 Ev Ew Ex (pv 4) (Ab (BE (Ab (Ax Ay (pv 1) (pv 5)) (Ab (Ax Ay (pv 1) (pv 6)) Af))) Af)))) Bg)))))
    (As (AK (BA (WU EX EX) B.b_sorted (Ab (pv 4) Af))))))))),?_⟩
   rfl';refine⟨Or.inr ⟨by decide,by decide⟩,(by show(0:Int)<2147483647;decide),_,Or.inl ⟨_,E,rfl⟩,_,_,rfl,by rw[Ak];lia,λy aH a8 s1 G=>?_⟩;rw[Ak] at G;refine AR ?_;cbv;refine⟨y,_,rfl,Or.inl (Ae.of G),λA2 ah=>?_⟩;obtain⟨H2,a9,J,e2⟩:=new_at (o:=.lst ((G9 (c*48271%2147483647) ls.length).map V.int)) ah;rw[<-a9];refine AR ?_;cbv;have T:=s1.trans J;refine Hh (λσ' b=>∃g,σ'=[some (.int c),some (.ref l),some (.ref y),some (.ref g),none,none,none]/\Ac H b/\b y=some (.lst ((GC c ls.length).map V.int))/\b g=some (.lst ((Ga c ls.length).map V.int))) ?_ (λaI hN=>?_);rotate_left;refine⟨(by show(0:Int)<2;decide),rfl,rfl,Am (λp=>?_) (λp=>?_)⟩;have aa:c%2=1:=V.int.inj (Bm p);refine⟨Or.inr ⟨by decide,by decide⟩,(by show(0:Int)<2147483629;decide),_,Or.inl ⟨_,T.seq E,rfl⟩,_,_,rfl,by rw[Ak];lia,λg H3 aL I e3=>?_⟩;rw[Ak] at e3;refine hN _ _ ⟨g,rfl,T.trans I,I _ _ (J _ _ G),?_⟩;unfold Ga;rw[Al aa];exact e3;have aa:¬c%2=1:=λe=>p (Ba (by show V.int (c%2)=V.int 1;rw[e]));refine hN _ _ ⟨A2,rfl,T,J _ _ G,?_⟩;unfold Ga;rw[An aa];exact e2;rintro σ' H3 ⟨g,rfl,I,ai,aj⟩;clear G e2 s1 J T a8 ah;refine⟨by decide,λD L=>?_⟩;obtain⟨W,aA,X,ak⟩:=new_at (o:=.lst []) L;rw[<-aA];refine AR ?_;cbv;have ab:=I.trans X;have al:=I.free L;have l1:=YY c ls.length;have l2:=KC c ls.length
   refine⟨_,Or.inl ⟨_,ab.seq E,rfl⟩,by lia,by rw[Ak];lia,Jv (lo:=0) (n:=(ls.map V.str).length) (λj σ b=>∃Y r a,σ=[some (.int c),some (.ref l),some (.ref y),some (.ref g),some (.ref D),Y,r]/\Keeps (·=D) W b/\b D=some (.lst (a.map V.ref))/\Cf b a (E3 ls (GC c ls.length) (Ga c ls.length) j))
    ⟨none,none,[],rfl,Keeps.refl λx o m e=>by rw[m,ak] at e;exact⟨_,(Bz e).symm⟩,ak,Cf.nil⟩ ?_ ?_⟩
   rotate_left;refine λσ Z u=>AM λNz d=>?_;obtain⟨Y,r,a,rfl,M,ae,N⟩:=u;refine d ?_;clear d;rw[Ak] at N;obtain⟨zs,z1,z2,z3⟩:=Xf N
   have lz:zs.length<=36:=by
    have p:=Bq List.length z2;rw[Ak] at p;have O:=RA ls (GC c ls.length) (Ga c ls.length) ls.length;have Q:ls.length*ls.length<=6*6:=Nat.mul_le_mul U U;lia
   refine⟨D,zs,rfl,Ae.of (by rw[z1];exact ae),by lia,λz hz=>?_,λO2 af hp hw an=>?_⟩;obtain⟨t,a1,a2⟩:=z3 z hz;exact⟨t,a1,Ar.of a2⟩;have ao:Ac H Z:=λaJ o e=>M.at_ _ _ (ab _ _ e) (AX e al);have s6:=Bb (o:=.lst (af.map (·.1))) an;obtain⟨aB,t1,t2⟩:=Xg (H:=Z) (zs:=af) λz hz=>z3 z (hp.mem_iff.mp hz);refine a4 O2 aB (af.map (·.2)) _ (ao.free an) (ao.trans s6) (by rw[Aa,t1]) (t2.same s6) ⟨?_,hw⟩;rw[<-z2];exact hp.map _;refine λj σ Z R u=>AM λNz d=>?_;obtain⟨Y,r,a,rfl,M,ae,N⟩:=u;refine d ?_;clear d;refine GL ?_;intro Nx Cy;rw[Ak] at R;refine AR ?_;cbv;have aq:∀{b:Hp},Keeps (·=D) W b->Ac H b:=λk x o e=>k.at_ _ _ (ab _ _ e) (AX e al);have aC:y≠D:=AX ai L;have aD:g≠D:=AX aj L
   refine⟨_,Or.inl ⟨_,(aq M).seq E,rfl⟩,by lia,by rw[Ak];lia,Jv (lo:=0) (n:=(ls.map V.str).length) (λk σ b=>∃r a,σ=[some (.int c),some (.ref l),some (.ref y),some (.ref g),some (.ref D),some (.int (0+(j:Int))),r]/\Keeps (·=D) W b/\b D=some (.lst (a.map V.ref))/\Cf b a (E3 ls (GC c ls.length) (Ga c ls.length) j++F9 ls (GC c ls.length) (Ga c ls.length) j k))
    ⟨_,a,rfl,M,ae,by unfold F9;simpa using N⟩ ?_ ?_⟩
   rotate_left;refine λσ H6 u=>AM λNz d=>?_;obtain⟨r,a,rfl,q,C,s⟩:=u;refine d ?_;clear d;rw[Ak] at s;exact⟨_,_,a,rfl,q,C,by rw[YX];exact s⟩;refine λk σ H6 S u=>AM λNz d=>?_;obtain⟨r,a,rfl,q,C,s⟩:=u;refine d ?_;clear d;refine GL ?_;intro Nx Cy;rw[Ak] at S;refine AR ?_;cbv
   have aM:a.length<=100:=by
    rw[s.len,AS];have O:=RA ls (GC c ls.length) (Ga c ls.length) j;have Q:j*ls.length<=6*6:=Nat.mul_le_mul (by lia) U;have h4:=Vp ls (GC c ls.length) (Ga c ls.length) j k;lia
   have ar:=q.at_ _ _ (X _ _ ai) aC;have au:=q.at_ _ _ (X _ _ aj) aD;have av:∀n,n<ls.length->∃v,(GC c ls.length)[n]?=some v/\Bl ((GC c ls.length).map V.int) (0+(n:Int))=some (.int v):=λn A=>⟨_,AC (by lia),by rw[Int.zero_add];exact BQ (by rw[A8,AC (by lia)];rfl)⟩;have aw:∀n,n<ls.length->∃v,(Ga c ls.length)[n]?=some v/\Bl ((Ga c ls.length).map V.int) (0+(n:Int))=some (.int v):=λn A=>⟨_,AC (by lia),by rw[Int.zero_add];exact BQ (by rw[A8,AC (by lia)];rfl)⟩;have ax:∀n,n<ls.length->∃v,ls[n]?=some v/\Bl (ls.map V.str) (0+(n:Int))=some (.str v):=λn A=>⟨_,AC A,by rw[Int.zero_add];exact BQ (by rw[A8,AC A];rfl)⟩;obtain⟨a1,p,a5⟩:=av j R;obtain⟨a2,O,a6⟩:=av k S;obtain⟨b1,Q,a7⟩:=aw j R;obtain⟨b2,h4,g4⟩:=aw k S;obtain⟨x1,h5,g5⟩:=ax j R;obtain⟨x2,h6,g6⟩:=ax k S
   have skip:¬(a1<a2/\b1<b2)->EJ ls (GC c ls.length) (Ga c ls.length) j k=[]:=λA=>by
    unfold EJ;rw[LD p,LD O,LD Q,LD h4,An A]
   refine Or.inl ⟨_,_,Ae.of ar,a5,Or.inl ⟨_,_,Ae.of ar,a6,rfl,Am (λc1=>?_) (λc1=>A7 ?_)⟩⟩;rotate_left;refine⟨_,a,rfl,q,C,?_⟩;rw[Rz,skip λz=>c1 (Ba z.1),E7];exact s;refine Or.inl ⟨_,_,Ae.of au,a7,Or.inl ⟨_,_,Ae.of au,g4,rfl,Am (λc2=>?_) (λc2=>?_)⟩⟩;rotate_left;refine⟨_,a,rfl,q,C,?_⟩;rw[Rz,skip λz=>c2 (Ba z.2),E7];exact s;have ay:=(aq q).seq E;refine⟨Or.inl ⟨rfl,_,Ae.of C⟩,Or.inl ⟨_,.str x1,ay,g5,Or.inl ⟨_,.str x2,ay,g6,Cr,λt ht=>?_⟩⟩⟩;obtain⟨H7,aE,s7,et⟩:=new_at (o:=.tup [.str x1,.str x2]) ht;rw[<-aE];have az:=s7 _ _ C;have k7:Keeps (·=D) H7 (upd H7 D (.lst (a.map V.ref++[.ref t]))):=Keeps.one az;refine⟨_,az,by rw[Ak];exact BK (by lia),?_⟩;refine⟨_,a++[t],rfl,(q.same s7).set rfl,by rw[Aa,Bk];rfl,?_⟩
   have eP:EJ ls (GC c ls.length) (Ga c ls.length) j k=[(x1,x2)]:=by
    unfold EJ;rw[LD p,LD O,LD Q,LD h4,Al ⟨Bm c1,Bm c2⟩,YZ h5,YZ h6]
   rw[Rz,eP,<-Gf];exact k7.tups ((s.same s7).snoc et)
def Gb (c:Int):List Int:=G9 (c*864691128455135233%2305843009213693951) 20
def II (ls:List Str) (n c:Int):Nat->List (Str×Int)
 |0=>[]
 |k+1=>II ls n c k++if 0<(Gb c).getD k 0 then[(ls.getD k default,(Gb c).getD (5+k) 0%n)] else[]
def Jl (ls:List Str) (c:Int):Nat->List Str
 |0=>[]
 |k+1=>Jl ls c k++if 0<(Gb c).getD (10+k) 0 then[ls.getD k default] else[]
theorem Vr(ls:List Str)(n c:Int):∀k,(II ls n c k).length<=k
 |0=>AG _
 |k+1=>by
   have:=Vr ls n c k;rw[II,AS];split;rw[CZ];lia;rw[GF];lia
theorem Vs(ls:List Str)(c:Int):∀k,(Jl ls c k).length<=k
 |0=>AG _
 |k+1=>by
   have:=Vs ls c k;rw[Jl,AS];split;rw[CZ];lia;rw[GF];lia
theorem Y0{ls:List Str}{n c:Int}(b:0<n):∀k,∀p∈II ls n c k,0<=p.2/\p.2<n
 |0,p,a=>by cases a
 |k+1,p,a=>by
   rw[II] at a;rcases BI.mp a with a|a;exact Y0 b k p a;split at a;rw[AW.mp a];exact⟨Fy _ (by lia),Fw _ b⟩;cases a
structure PX (ls:List Str) (n c:Int) (s:Cu):Prop where
 pg:s.1.Perm (II ls n c 5)
 og:s.1.Pairwise (BP Dm JL).kle
 pe:s.2.Perm (Jl ls c 5)
 oe:s.2.Pairwise Dm.kle
variable {s:Cu}
def PX.uniq{n:Int}{u:Cu}(h:PX ls n c s)(k:PX ls n c u):s=u:=
 Prod.ext (Mv (O:=BP Dm JL) (h.pg.trans k.pg.symm) h.og k.og) (Mv (O:=Dm) (h.pe.trans k.pe.symm) h.oe k.oe)
structure PY (cs:List Int) (ls:List Str) (sts:List Cu) (inn:Int) (ord:A'):Prop where
 len:sts.length=(1+cs.getD 0 0%3).toNat
 at_:∀(i:Nat)(s:Cu),sts[i]?=some s->PX ls (1+cs.getD 0 0%3) (cs.getD (1+i) 0) s
 inn:inn=cs.getD 0 0/3%(1+cs.getD 0 0%3)
 ord:EK (cs.getD 4 0) ls ord
def PY.uniq{c:List Int}{ls:List Str}{a:List Cu}{inn:Int}{ord:A'}{b:List Cu}{f:Int}{g:A'}(h:PY c ls a inn ord)(k:PY c ls b f g):a=b/\inn=f/\ord=g:=by
 refine⟨List.ext_getElem? λi=>?_,h.inn.trans k.inn.symm,h.ord.uniq k.ord⟩;have j:=h.len.trans k.len.symm
 cases e:a[i]? with
 |none =>
   rw[List.getElem?_eq_none_iff] at e;exact(List.getElem?_eq_none_iff.mpr (by lia)).symm
 |some s =>
   have d:i<b.length:=by have:=(AY.mp e).1;lia
   rw[AC d,(h.at_ i s e).uniq (k.at_ i _ (AC d))]
variable {n:Nat}
def PZ{xs:List Int}(h:n<xs.length):Bl (xs.map V.int) (n:Int)=some (.int (xs.getD n 0)):=by
 rw[B1,AC h];exact BQ (by rw[A8,AC h];rfl)
def i4(h:n<xs.length):Bl (xs.map V.str) (n:Int)=some (.str (xs.getD n default)):=by
 rw[B1,AC h];exact BQ (by rw[A8,AC h];rfl)
def KD(c:Int):(Gb c).length=20:=Rx _ _
inductive DG (K:Ah) (vs:List V) (H:Hp) (Q:VK):Prop where
 |mk (C L:Addr) (cs:List Int) (ls:List Str) (h0:vs=[.ref C,.ref L]) (h1:Ae K H C (cs.map V.int)) (h2:cs.length=5) (h3:Ae K H L (ls.map V.str)) (h4:ls.length=5) (h5:∀(t:Addr)(sts:List Cu)(inn:Int)(ord:A')(H':Hp),Ac H H'->F1 K (λ_=>True) H' t sts inn ord->PY cs ls sts inn ord->Q (.ref t) H'):DG K vs H Q
def i6 (K:Ah):Sp:=λvs H Q _=>DG K vs H Q
abbrev Vt(P w K mg base):=BB P w K mg base "_law_table" 3 ["_law_cells", "_law_labels"] (i6 K)
theorem i7 (B:BC mg) (aR:Ry P w K mg base) (aS:Vq P w K mg base) (F:Bp K "_law_table" "_law_table" R9 f fd) (hm:mg "_law_table" = some (.ref f)):Vt P w K mg base:=by
 refine BO F hm Na (λvs a6 aO aP h=>?_) (λbw bu b3 s a6 vs aO aP hr h=>?_);obtain⟨C,L,a,ls,rfl,_⟩:=h;rfl
 . obtain⟨C,L,a,ls,rfl,U,c5,hL,l5,aQ⟩:=h
   have z0:=Fy (a.getD 0 0) (by decide:(3:Int)≠0);have z1:=Fw (a.getD 0 0) (by decide:(0:Int)<3);obtain⟨m,ao⟩:∃m:Nat,(m:Int)=1+a.getD 0 0%3:=⟨(1+a.getD 0 0%3).toNat,by lia⟩;have m0:1<=m/\m<=3:=(by lia);have aq:Bl (a.map V.int) ((0:Nat):Int)=some (.int (a.getD 0 0)):=PZ (by lia)
   refine⟨_,(Ao (AL (i:=2) Na.nd (Cq Af))
    (Ao (CG Cn rfl (Dk (OM OS (pv 0) (NR Ai) (NR (AE Hy Ai (AE Bu (Ax Ay (pv 0) Ai) Ai))))) (Az (i:=3) Na.nd) (Ao (AL (i:=4) Na.nd (A5 aR (Ab (AE Bu (AE EV (pv 3) Ai) Ai) (Ab Ai Af))))
     (Ao (AL (i:=5) Na.nd (Cq Af))
     (Ao (AL (i:=6) Na.nd (Cq Af))
     (Ao (CG Cn rfl (Hx rfl B.b_range (Ab Ai Af)) (Az (i:=7) Na.nd) (Ao (Bc (Bv HB (Ax Ay (pv 4) (pv 7)) Ai (Bs _)) (As (C8 (C3 C0 Ev Ew Ex (pv 5) (Ab (BE (Ab (Ax Ay (pv 1) (pv 7)) (Ab (AE Bu (Ax Ay (pv 4) (AE Hy Ai (pv 7))) (AE Hy Ai (AE Bu (Ax Ay (pv 0) Ai) Ai))) Af))) Af)))) Bg)
      (As (Bc (Bv HB (Ax Ay (pv 4) (AE Hy Ai (pv 7))) Ai (Bs _)) (As (C8 (C3 C0 Ev Ew Ex (pv 6) (Ab (Ax Ay (pv 1) (pv 7)) Af)))) Bg))))
     (As (C8 (C3 C0 Ev Ew Ex (pv 2) (Ab (BE (Ab (BA (WU EX JM) B.b_sorted (Ab (pv 5) Af)) (Ab (BA cG B.b_sorted (Ab (pv 6) Af)) Af))) Af)))))))))
    (As (AK (BE (Ab (pv 2) (Ab (AE Bu (AE FQ (Ax Ay (pv 0) Ai) Ai) (BA Dy B.b_len (Ab (pv 2) Af))) (Ab (A5 aS (Ab (Ax Ay (pv 0) Ai) (Ab (pv 1) Af))) Af)))))))),?_⟩
   rfl';refine⟨by decide,λD a9=>?_⟩;obtain⟨H2,aT,s2,aA⟩:=new_at (o:=.lst []) a9;rw[<-aT];refine AR ?_;cbv
   have bq:Em (a.map V.int) (some 1) (some (2+a.getD 0 0%3))=((a.drop 1).take m).map V.int:=by
    rw[show(2+a.getD 0 0%3:Int)=((m+1:Nat):Int) by lia];exact(Z2 _ 1 (m+1) (by lia)).trans (by rw[show m+1-1=m by lia,<-Qg,<-List.map_take])
   refine⟨_,rfl,Or.inl ⟨_,.int (a.getD 0 0),s2.seq U,aq,(by show(0:Int)<3;decide),_,rfl,C,_,rfl,s2.seq U,λp0 h0=>?_⟩⟩;rw[bq];obtain⟨H3,aU,s3,aB⟩:=new_at (o:=.lst (((a.drop 1).take m).map V.int)) h0;rw[<-aU];have aC:=s3 _ _ aA;have aV:p0≠D:=λz=>by rw[z,aA] at h0;cases h0
   have aW:=s2.trans s3;have a8:∀{b:Hp},Keeps (·=D) H3 b->Ac a6 b:=λk x o e=>k.at_ _ _ (aW _ _ e) (AX e a9);have aX:((a.drop 1).take m).length=m:=by rw[FP,Gp];lia
   refine⟨⟨_,Ae.of aB⟩,EU (xs:=((a.drop 1).take m).map V.int) (λi σ b=>∃u3 u4 u5 u6 W us A,σ=[some (.ref C),some (.ref L),some (.ref D),u3,u4,u5,u6,W]/\Keeps (·=D) H3 b/\b D=some (.lst (us.map V.ref))/\A3 K (λ_=>True) b D us A/\A.length=i/\∀(j:Nat)(s:Cu),A[j]?=some s->PX ls (m:Int) (a.getD (1+j) 0) s)
    ⟨none,none,none,none,none,[],[],rfl,Keeps.refl λx o m e=>by rw[m,aC] at e;exact⟨_,(Bz e).symm⟩,aC,A3.nil,rfl,λj s h=>by simp at h⟩ (λi σ b _ aY=>by obtain⟨_,_,_,_,_,_,_,_,k,_⟩:=aY;exact Ae.of (k.at_ _ _ aB aV)) ?_ ?_⟩
   . refine λi y σ H4 hy E=>AM λNz g=>?_
     obtain⟨u3,u4,u5,u6,W,us,A,rfl,Y,aa,ab,M,ar⟩:=E;refine g ?_;clear g;refine GL ?_;intro Nx Cy;obtain⟨c,hc,rfl⟩:=getm hy;have aZ:i<m:=by have:=(AY.mp hc).1;lia
     have ec:a.getD (1+i) 0=c:=by
      rw[List.getElem?_take_of_lt aZ,List.getElem?_drop] at hc;rw[B1,hc];rfl
     refine AR ?_;cbv;have N:=a8 Y;refine⟨Or.inr ⟨by decide,by decide⟩,(by show(0:Int)<2305843009213693951;decide),_,20,rfl,by decide,λX H5 hX Z Q=>?_⟩;have Q:H5 X=some (.lst ((Gb c).map V.int)):=Q;refine AR ?_;cbv;refine⟨by decide,λq au=>?_⟩;obtain⟨H6,ba,R,aD⟩:=new_at (o:=.lst []) au;rw[<-ba];refine AR ?_;cbv;refine⟨by decide,λE0 av=>?_⟩;have s7:=Bb (o:=.lst []) av;have aw:(upd H6 E0 (.lst [])) E0=some (.lst []):=Aa;have ax:=s7 _ _ aD;generalize upd H6 E0 (.lst [])=H7 at s7 aw ax ⊢;refine AR ?_;cbv;have bb:=R.trans s7;have aE:H5 E0=none:=R.free av;have aF:q≠E0:=AX aD av;have bx:X≠q:=AX Q au;have bz:X≠E0:=AX Q aE;have ay:∀{b:Hp},Keeps (λx=>x=q\/x=E0) H7 b->Ac H5 b:=λk x o e=>k.at_ _ _ (bb _ _ e) λz=>z.elim (AX e au) (AX e aE)
     have bc:∀x o,(x=q\/x=E0)->H7 x=some o->∃xs,o=HO.lst xs:=λx o m e=>by
      rcases m with rfl|rfl;rw[ax] at e;exact⟨_,(Bz e).symm⟩;rw[aw] at e;exact⟨_,(Bz e).symm⟩
     refine⟨by decide,by decide,Jv (lo:=0) (n:=5) (λj σ b=>∃W l,σ=[some (.ref C),some (.ref L),some (.ref D),some (.int c),some (.ref X),some (.ref q),some (.ref E0),W]/\Keeps (λx=>x=q\/x=E0) H7 b/\b q=some (.lst (l.map V.ref))/\GT b l (II ls (m:Int) c j)/\b E0=some (.lst ((Jl ls c j).map V.str)))
      ⟨_,[],rfl,⟨λx o e _=>e,bc⟩,ax,GT.nil,aw⟩ ?_ ?_⟩
     . refine λj σ H8 I E=>AM λNz g=>?_
       obtain⟨bd,l,rfl,k8,ae,S,ah⟩:=E;refine g ?_;clear g;refine GL ?_;intro Nx Cy;refine AR ?_;cbv;have ai:=ay k8;have aG:=N.trans (Z.trans ai);have aH:=ai _ _ Q;have lr:=KD c;have a1:Bl ((Gb c).map V.int) (0+(j:Int))=some (.int ((Gb c).getD j 0)):=by rw[Int.zero_add];exact PZ (by lia)
       have a2:Bl ((Gb c).map V.int) (5+(0+(j:Int)))=some (.int ((Gb c).getD (5+j) 0)):=by
        rw[show(5+(0+(j:Int)))=((5+j:Nat):Int) by lia];exact PZ (by lia)
       have a3:Bl ((Gb c).map V.int) (10+(0+(j:Int)))=some (.int ((Gb c).getD (10+j) 0)):=by
        rw[show(10+(0+(j:Int)))=((10+j:Nat):Int) by lia];exact PZ (by lia)
       have al:Bl (ls.map V.str) (0+(j:Int))=some (.str (ls.getD j default)):=by rw[Int.zero_add];exact i4 (by lia)
       have lG:=Vr ls (m:Int) c j;have lE:=Vs ls c j;have be:(l.map V.ref).length<sizeLine:=by rw[Ak,S.len];exact BK (by lia)
       have bf:((Jl ls c j).map V.str).length<sizeLine:=by rw[Ak];exact BK (by lia)
       refine Hh (λσ' b=>∃l,σ'=[some (.ref C),some (.ref L),some (.ref D),some (.int c),some (.ref X),some (.ref q),some (.ref E0),some (.int (0+(j:Int)))]/\Keeps (λx=>x=q\/x=E0) H7 b/\b q=some (.lst (l.map V.ref))/\GT b l (II ls (m:Int) c (j+1))/\b E0=some (.lst ((Jl ls c j).map V.str))) ?_ (λbv hN=>?_);refine λσ' H9 E=>AM λNz g=>?_;obtain⟨l,rfl,k9,H,T9,aj⟩:=E;refine g ?_;clear g;have aI:=ay k9;refine Or.inl ⟨_,_,Ae.of (aI _ _ Q),a3,rfl,Am (λd=>?_) (λd=>?_)⟩;have J:0<(Gb c).getD (10+j) 0:=Bm d;refine⟨Or.inl ⟨rfl,_,Ae.of aj⟩,Or.inl ⟨_,_,(N.trans (Z.trans aI)).seq hL,al,_,aj,bf,?_⟩⟩;refine⟨_,l,rfl,k9.set (.inr rfl),by rw[AD aF];exact H,T9.updL aj,?_⟩;rw[Aa,Jl,Al J,Bk];rfl;have J:¬0<(Gb c).getD (10+j) 0:=λz=>d (Ba z);refine⟨_,l,rfl,k9,H,T9,?_⟩;rw[Jl,An J,E7];exact aj;refine Or.inl ⟨_,_,Ae.of aH,a1,rfl,Am (λd=>?_) (λd=>?_)⟩;rotate_left;have J:¬0<(Gb c).getD j 0:=λz=>d (Ba z);refine hN _ _ ⟨l,rfl,k8,ae,?_,ah⟩;rw[II,An J,E7];exact S;have J:0<(Gb c).getD j 0:=Bm d;refine⟨Or.inl ⟨rfl,_,Ae.of ae⟩,Or.inl ⟨_,_,aG.seq hL,al,Or.inl ⟨_,_,Ae.of aH,a2,Or.inl ⟨_,.int (a.getD 0 0),aG.seq U,aq,(by show(0:Int)<3;decide),(by show 0<1+a.getD 0 0%3;lia),Cr,λt ht=>?_⟩⟩⟩⟩;cbv;rw[<-ao];obtain⟨H9,bg,v,et⟩:=new_at (o:=.tup [.str (ls.getD j default),.int ((Gb c).getD (5+j) 0%m)]) ht;rw[<-bg];have H:=v _ _ ae;refine⟨_,H,be,?_⟩;refine hN _ _ ⟨l++[t],rfl,(k8.same v).set (.inl rfl),by rw[Aa,Bk];rfl,?_,by rw[AD (Ne.symm aF)];exact v _ _ ah⟩;rw[II,Al J];exact((S.same v).snoc (p:=(ls.getD j default,(Gb c).getD (5+j) 0%m)) et).updL H
     refine λσ H8 E=>AM λNz g=>?_;obtain⟨bd,l,rfl,k8,ae,S,ah⟩:=E;refine g ?_;clear g;have ai:=ay k8;have az:=Z.trans ai;have bh:Keeps (·=D) H3 H8:=⟨λx o e n=>az _ _ (Y.at_ x o e n),Y.ls⟩;have ak:=az _ _ aa;have lG:=Vr ls (m:Int) c 5;have lE:=Vs ls c 5;obtain⟨zs,z1,z2,z3⟩:=Ue (K:=K) S.len S.at_;have b0:zs.length=(II ls (m:Int) c 5).length:=(by rw[<-z2,Ak]);refine⟨Or.inl ⟨rfl,_,Ae.of ak⟩,q,zs,rfl,Ae.of (by rw[z1];exact ae),by lia,z3,λG u hp hw hG=>?_⟩;have v:=Bb (o:=.lst (u.map (·.1))) hG;have H:(upd H8 G (.lst (u.map (·.1)))) G=some (.lst (u.map (·.1))):=Aa
     have aJ:∀z∈u,QI K (upd H8 G (.lst (u.map (·.1)))) z:=λz hz=>by
      obtain⟨t,a1,a2⟩:=z3 z (hp.mem_iff.mp hz);exact⟨t,a1,v.seqT a2⟩
     generalize upd H8 G (.lst (u.map (·.1)))=H9 at v H aJ ⊢;refine⟨E0,Jl ls c 5,rfl,Ae.of (v _ _ ah),by lia,λT O bi bj a0=>?_⟩;have af:=Bb (o:=.lst (O.map V.str)) a0;have aM:(upd H9 T (.lst (O.map V.str))) T=some (.lst (O.map V.str)):=Aa
     have z4:∀z∈u,QI K (upd H9 T (.lst (O.map V.str))) z:=λz hz=>by
      obtain⟨t,a1,a2⟩:=aJ z hz;exact⟨t,a1,af.seqT a2⟩
     generalize upd H9 T (.lst (O.map V.str))=b1 at af aM z4 ⊢;refine⟨Cr,λa7 hu=>?_⟩;obtain⟨bk,br,ag,eu⟩:=new_at (o:=.tup [.ref G,.ref T]) hu;rw[<-br];have a5:=(v.trans af).trans ag;have aN:=a5 _ _ ak;have nG:G≠D:=λy=>by rw[y,ak] at hG;cases hG
     have nE:T≠D:=λy=>by rw[y,v _ _ ak] at a0;cases a0
     have gG:Do K bk G (u.map (·.2)):=⟨_,Ae.of ((af.trans ag) _ _ H),(Uf u z4).same ag⟩;refine⟨_,aN,by rw[Ak,ab.len,M];exact BK (by lia),?_⟩;have bs:=((ab.same (az.trans a5)).snoc (r:=(u.map (·.2),O)) eu gG ((af.trans ag) _ _ H) (ag _ _ aM) nG nE True.intro True.intro).updL (o:=.lst (us.map V.ref++[.ref a7])) aN;refine⟨_,_,_,_,_,us++[a7],A++[(u.map (·.2),O)],rfl,(bh.same a5).set rfl,by rw[Aa,Bk];rfl,bs,by rw[AS,M];rfl,λj s I=>?_⟩;rcases Nat.lt_or_ge j A.length with bl|b2;rw[Ei bl] at I;exact ar j s I
     have aK:j=A.length:=by
      have:=(AY.mp I).1;rw[AS,CZ] at this;lia
     rw[aK,List.getElem?_concat_length] at I;rw[<-Bz I,aK,M,ec];exact⟨by rw[<-z2];exact hp.map _,hw,bi,bj⟩
   refine λσ H4 E=>AM λNz g=>?_;obtain⟨u3,u4,u5,u6,W,us,A,rfl,Y,aa,ab,M,ar⟩:=E;refine g ?_;clear g;rw[Ak,aX] at M;have N:=a8 Y;have bm:Bl (a.map V.int) ((4:Nat):Int)=some (.int (a.getD 4 0)):=PZ (by lia);have aL:(us.map V.ref).length=m:=(by rw[Ak,ab.len,M]);refine Or.inl ⟨_,.int (a.getD 0 0),N.seq U,aq,⟨by decide,by decide⟩,_,Or.inl ⟨_,Ae.of aa,rfl⟩,(by rw[aL];lia),Or.inl ⟨_,.int (a.getD 4 0),N.seq U,bm,_,L,ls,rfl,N.seq hL,by lia,λan bn bo H5 hO Z eO TO bt=>?_⟩⟩;rw[aL];refine⟨JQ,λt ht=>?_⟩;have R:=Bb (o:=.tup [.ref D,.int (a.getD 0 0/3%m),.ref an]) ht;have bp:D≠an:=λy=>by rw[<-y,aa] at hO;cases hO
   have a4:=Z.trans R;refine aQ t A (a.getD 0 0/3%m) bo _ (N.trans a4) ⟨D,an,us,bn,Aa,True.intro,True.intro,bp,a4 _ _ aa,ab.same a4,R _ _ eO,TO.same R⟩ ⟨by rw[M];lia,λj s I=>by rw[<-ao];exact ar j s I,by rw[ao],bt⟩
abbrev GR (c:Int):Int:=c*48271%65521
def GD (ns:List Str) (c:Int):List Str:=[ns.getD (GR c%3).toNat default]++if GR c/3%2=1 then[ns.getD (GR c/6%3).toNat default] else[]
def LF (ns:List Str) (c:Int):List Str:=GD ns c++if GR c/18%4=3 then[ns.getD (GR c/72%3).toNat default] else[]
def DH (ns:List Str) (m s c:Int):Qu:=(c*16807%65519%m,c*69621%65497%s,LF ns c)
def KE(ns:List Str)(c:Int):1<=(LF ns c).length/\(LF ns c).length<=3:=by
 unfold LF GD;split<;>split<;>simp
def Vu{i:Int}(b:0<=i)(c:i<xs.length):Bl (xs.map V.str) i=some (.str (xs.getD i.toNat default)):=by
 obtain⟨n,rfl⟩:=Dx b;have a:n<xs.length:=(by lia);rw[Bo,B1,AC a];exact BQ (by rw[A8,AC a];rfl)
def KG:([]:List V).length+1+1+1<=sizeLine:=by decide
def Ha(x:Int):0<=x%3/\x%3<3:=⟨Fy _ (by decide),Fw _ (by decide)⟩
inductive Cz (K:Ah) (vs:List V) (H:Hp) (Q:VK):Prop where
 |mk (c:Int) (N:Addr) (ns:List Str) (m s:Nat) (h0:vs=[.int c,.int m,.int s,.ref N]) (h1:Ae K H N (ns.map V.str)) (h2:ns.length=3) (h3:1<=m) (h4:1<=s) (h5:∀(p u:Addr)(H':Hp),Ac H H'->H' p=some (.tup [.int (DH ns m s c).1,.int (DH ns m s c).2.1,.ref u])->H' u=some (.tup ((DH ns m s c).2.2.map V.str))->Q (.ref p) H'):Cz K vs H Q
def i8 (K:Ah):Sp:=λvs H Q _=>Cz K vs H Q
abbrev Vv(P w K mg base):=BB P w K mg base "_law_question" 1 ["_law_cell", "_law_many", "_law_states", "_law_names_here"] (i8 K)
theorem i9(B:BC mg)(F:Bp K "_law_question" "_law_question" Sa f fd)(z:mg "_law_question" = some (.ref f)):Vv P w K mg base:=by
 refine BO F z Vf (λC H Q E h=>?_) (λaa A ab s H C Q E T h=>?_);obtain⟨c,N,ns,m,Z,rfl,_⟩:=h;rfl
 . obtain⟨c,N,ns,m,Z,rfl,j,U,W,X,q⟩:=h
   refine⟨_,(Ao (AL (i:=4) Vf.nd (AE Bu (AE EV (pv 0) Ai) Ai))
    (Ao (AL (i:=5) Vf.nd (Cq (Ab (Ax Ay (pv 3) (AE Bu (pv 4) Ai)) Af)))
    (Ao (Bc (Bv CJ (AE Bu (AE FQ (pv 4) Ai) Ai) Ai (Bs _)) (As (C8 (C3 C0 Ev Ew Ex (pv 5) (Ab (Ax Ay (pv 3) (AE Bu (AE FQ (pv 4) Ai) Ai)) Af)))) Bg)
    (Ao (Bc (Bv CJ (AE Bu (AE FQ (pv 4) Ai) Ai) Ai (Bs _)) (As (C8 (C3 C0 Ev Ew Ex (pv 5) (Ab (Ax Ay (pv 3) (AE Bu (AE FQ (pv 4) Ai) Ai)) Af)))) Bg)
    (As (AK (BE (Ab (AE Bu (AE Bu (AE EV (pv 0) Ai) Ai) (pv 1)) (Ab (AE Bu (AE Bu (AE EV (pv 0) Ai) Ai) (pv 2)) (Ab (GZ ZH B.b_tuple (Ab (pv 5) Af)) Af)))))))))),?_⟩
   rfl';refine⟨Or.inr ⟨by decide,by decide⟩,(by show(0:Int)<65521;decide),?_⟩;refine AR ?_;cbv;refine⟨(by show(0:Int)<3;decide),Or.inl ⟨_,_,j,Vu (Ha _).1 (by have:=(Ha (c*48271%65521)).2;lia),Hk,λP t=>?_⟩⟩;obtain⟨Y,O,k,l⟩:=new_at (o:=.lst [.str (ns.getD (GR c%3).toNat default)]) t;rw[<-O];refine AR ?_;cbv;have y:∀x o,H x=some o->x≠P:=λx o e=>AX e t;refine Hh (λσ' d=>σ'=[some (.int c),some (.int m),some (.int Z),some (.ref N),some (.int (GR c)),some (.ref P)]/\Ac H d/\d P=some (.lst ((GD ns c).map V.str))) ?_ (λD g=>?_);rotate_left;refine⟨⟨by decide,by decide⟩,(by show(0:Int)<2;decide),rfl,rfl,Am (λa=>?_) (λa=>?_)⟩;have b:GR c/3%2=1:=V.int.inj (Bm a);refine⟨Or.inl ⟨rfl,_,Ae.of l⟩,⟨by decide,by decide⟩,(by show(0:Int)<3;decide),Or.inl ⟨_,_,k.seq j,Vu (Ha _).1 (by have:=(Ha (c*48271%65521/6)).2;lia),_,l,BK (by show 1<=1000;decide),g _ _ ⟨rfl,λx o e=>?_,?_⟩⟩⟩;rw[AD (y x o e)];exact k _ _ e;rw[Aa];unfold GD;rw[Al b];rfl;have b:¬GR c/3%2=1:=λe=>a (Ba (by show V.int (GR c/3%2)=V.int 1;rw[e]));refine g _ _ ⟨rfl,k,?_⟩;unfold GD;rw[An b];exact l;rintro σ' H2 ⟨rfl,n,r⟩;refine Hh (λσ' d=>σ'=[some (.int c),some (.int m),some (.int Z),some (.ref N),some (.int (GR c)),some (.ref P)]/\Ac H d/\d P=some (.lst ((LF ns c).map V.str))) ?_ (λD g=>?_);rotate_left;have l2:(GD ns c).length<=2:=by unfold GD;split<;>simp
   refine⟨⟨by decide,by decide⟩,(by show(0:Int)<4;decide),rfl,rfl,Am (λa=>?_) (λa=>?_)⟩;have b:GR c/18%4=3:=V.int.inj (Bm a);refine⟨Or.inl ⟨rfl,_,Ae.of r⟩,⟨by decide,by decide⟩,(by show(0:Int)<3;decide),Or.inl ⟨_,_,n.seq j,Vu (Ha _).1 (by have:=(Ha (c*48271%65521/72)).2;lia),_,r,BK (by rw[Ak];lia),g _ _ ⟨rfl,λx o e=>?_,?_⟩⟩⟩;rw[AD (y x o e)];exact n _ _ e;rw[Aa];unfold LF;rw[Al b,Bk];rfl;have b:¬GR c/18%4=3:=λe=>a (Ba (by show V.int (GR c/18%4)=V.int 3;rw[e]));refine g _ _ ⟨rfl,n,?_⟩;unfold LF;rw[An b,E7];exact r;rintro σ' H3 ⟨rfl,G,R⟩;refine⟨Or.inr ⟨by decide,by decide⟩,(by show(0:Int)<65519;decide),(by show(0:Int)<m;lia),Or.inr ⟨by decide,by decide⟩,(by show(0:Int)<65497;decide),(by show(0:Int)<Z;lia),P,_,rfl,Or.inl ⟨Ae.of R,λu I=>?_⟩⟩;obtain⟨H4,S,J,L⟩:=new_at (o:=.tup ((LF ns c).map V.str)) I;rw[<-S];refine⟨KG,λp M=>?_⟩;have v:=Bb (o:=.tup [.int (c*16807%65519%m),.int (c*69621%65497%Z),.ref u]) M;exact q p u _ ((G.trans J).trans v) Aa (v _ _ L)
def Nn (m a c:Int):Str×Int:=if c*69621%65497%4=0 then("plain",0) else if c*69621%65497%4=1 then("sort",c*48271%65521%a) else("part",c*48271%65521%m)
variable {a:Nat}
def No(b:1<=m)(d:1<=a)(c:Int):F2 m a (Nn m a c):=by
 unfold Nn F2;split;exact .inl ⟨rfl,rfl⟩;split;exact .inr (.inr ⟨rfl,Fy _ (by lia),Fw _ (by lia)⟩);exact .inr (.inl ⟨rfl,Fy _ (by lia),Fw _ (by lia)⟩)
inductive DI (K:Ah) (vs:List V) (H:Hp) (Q:VK):Prop where
 |mk (c:Int) (m a:Nat) (h0:vs=[.int c,.int m,.int a]) (h1:1<=m) (h2:1<=a) (h3:∀(p:Addr)(H':Hp),H p=none->Ac H H'->H' p=some (.tup [.str (Nn m a c).1,.int (Nn m a c).2])->Q (.ref p) H'):DI K vs H Q
def jA (K:Ah):Sp:=λvs H Q _=>DI K vs H Q
abbrev Vw(P w K mg base):=BB P w K mg base "_law_thing" 1 ["_law_cell", "_law_many", "_law_asked"] (jA K)
def jB(B:BC mg)(F:Bp K "_law_thing" "_law_thing" Sb f fd)(o:mg "_law_thing" = some (.ref f)):Vw P w K mg base:=by
 refine BO F o YM (λr H Q E h=>?_) (λy A z s H r Q E u h=>?_);obtain⟨c,m,a,rfl,_⟩:=h;rfl;obtain⟨c,m,a,rfl,v,x,q⟩:=h
 refine⟨_,(Ao (AL (i:=3) YM.nd (AE Bu (AE EV (pv 0) Ai) Ai))
  (Ao (Bc (Bv CJ (AE Bu (pv 3) Ai) Ai (Bs _)) (As (AK (BE (Ab B8 (Ab Ai Af))))) Bg)
  (Ao (Bc (Bv CJ (AE Bu (pv 3) Ai) Ai (Bs _)) (As (AK (BE (Ab B8 (Ab (AE Bu (AE Bu (AE EV (pv 0) Ai) Ai) (pv 2)) Af))))) Bg)
  (As (AK (BE (Ab B8 (Ab (AE Bu (AE Bu (AE EV (pv 0) Ai) Ai) (pv 1)) Af)))))))),?_⟩
 rfl';refine⟨Or.inr ⟨by decide,by decide⟩,(by show(0:Int)<65497;decide),?_⟩;have j:∀k,Nn m a c=k->∀p,H p=none->Q (.ref p) (upd H p (.tup [.str k.1,.int k.2])):=λk t p n=>q p _ n (Bb n) (by rw[Aa,<-t]);refine⟨(by show(0:Int)<4;decide),rfl,rfl,Am (λd=>?_) (λd=>?_)⟩;have b:c*69621%65497%4=0:=V.int.inj (Bm d);exact⟨Cr,j (("plain" : Str),0) (Al b)⟩;have b:¬c*69621%65497%4=0:=λe=>d (Ba (by show V.int (c*69621%65497%4)=V.int 0;rw[e]));refine⟨(by show(0:Int)<4;decide),rfl,rfl,Am (λg=>?_) (λg=>?_)⟩;have l:c*69621%65497%4=1:=V.int.inj (Bm g);exact⟨Or.inr ⟨by decide,by decide⟩,(by show(0:Int)<65521;decide),(by show(0:Int)<a;lia),Cr,j (("sort" : Str),c*48271%65521%a) ((An b).trans (Al l))⟩;have l:¬c*69621%65497%4=1:=λe=>g (Ba (by show V.int (c*69621%65497%4)=V.int 1;rw[e]));exact⟨Or.inr ⟨by decide,by decide⟩,(by show(0:Int)<65521;decide),(by show(0:Int)<m;lia),Cr,j (("part" : Str),c*48271%65521%m) ((An b).trans (An l))⟩
def Np (m a c:Int):Str×Int:=if c*69621%65497%2=0 then("by",c*16807%65519%a) else("to",c*16807%65519%m)
def RB (ls:List Str) (m a c:Int):B9:=(ls.getD (c*48271%65521%5).toNat default,Np m a c)
def Nq(b:1<=m)(d:1<=a)(ls:List Str)(c:Int):EY m a (RB ls m a c):=by
 unfold RB EY Np;dsimp only;split;exact .inr ⟨rfl,Fy _ (by lia),Fw _ (by lia)⟩;exact .inl ⟨rfl,Fy _ (by lia),Fw _ (by lia)⟩
def jC{i:Int}(b:0<=i)(c:i<xs.length):Bl (xs.map V.str) i=some (.str (xs.getD i.toNat default)):=by
 obtain⟨n,rfl⟩:=Dx b;have a:n<xs.length:=(by lia);rw[Bo,B1,AC a];exact BQ (by rw[A8,AC a];rfl)
def Y1:([]:List V).length+1+1+1<=sizeLine:=by decide
inductive Ed (K:Ah) (vs:List V) (H:Hp) (Q:VK):Prop where
 |mk (c:Int) (L:Addr) (ls:List Str) (m a:Nat) (h0:vs=[.int c,.ref L,.int m,.int a]) (h1:Ae K H L (ls.map V.str)) (h2:ls.length=5) (h3:1<=m) (h4:1<=a) (h5:∀(p:Addr)(H':Hp),H p=none->Ac H H'->H' p=some (.tup (G2 (RB ls m a c)))->Q (.ref p) H'):Ed K vs H Q
def jD (K:Ah):Sp:=λvs H Q _=>Ed K vs H Q
abbrev Vx(P w K mg base):=BB P w K mg base "_law_step" 1 ["_law_cell", "_law_labels", "_law_many", "_law_asked"] (jD K)
def jE(B:BC mg)(F:Bp K "_law_step" "_law_step" Sc f fd)(l:mg "_law_step" = some (.ref f)):Vx P w K mg base:=by
 refine BO F l Vg (λn H Q E h=>?_) (λC A D s H n Q E u h=>?_);obtain⟨c,L,ls,m,a,rfl,_⟩:=h;rfl;obtain⟨c,L,ls,m,a,rfl,o,v,x,y,q⟩:=h;have r:=Fy (c*48271%65521) (by decide:(5:Int)≠0);have z:=Fw (c*48271%65521) (by decide:(0:Int)<5)
 refine⟨_,(Ao (AL (i:=4) Vg.nd (Ax Ay (pv 1) (AE Bu (AE Bu (AE EV (pv 0) Ai) Ai) Ai)))
  (Ao (AL (i:=5) Vg.nd (AE Bu (AE EV (pv 0) Ai) Ai))
  (Ao (Bc (Bv CJ (AE Bu (pv 5) Ai) Ai (Bs _)) (As (AK (BE (Ab (pv 4) (Ab B8 (Ab (AE Bu (AE Bu (AE EV (pv 0) Ai) Ai) (pv 3)) Af)))))) Bg)
  (As (AK (BE (Ab (pv 4) (Ab B8 (Ab (AE Bu (AE Bu (AE EV (pv 0) Ai) Ai) (pv 2)) Af))))))))),?_⟩
 rfl';refine⟨Or.inr ⟨by decide,by decide⟩,(by show(0:Int)<65521;decide),(by show(0:Int)<5;decide),Or.inl ⟨_,_,o,jC r (by lia),?_⟩⟩;refine⟨Or.inr ⟨by decide,by decide⟩,(by show(0:Int)<65497;decide),?_⟩;have j:∀k,Np m a c=k->∀p,H p=none->Q (.ref p) (upd H p (.tup [.str (ls.getD (c*48271%65521%5).toNat default),.str k.1,.int k.2])):=λk t p g=>q p _ g (Bb g) (by rw[Aa,<-t];rfl);refine⟨(by show(0:Int)<2;decide),rfl,rfl,Am (λb=>?_) (λb=>?_)⟩;have d:c*69621%65497%2=0:=V.int.inj (Bm b);exact⟨Or.inr ⟨by decide,by decide⟩,(by show(0:Int)<65519;decide),(by show(0:Int)<a;lia),Y1,j (("by" : Str),c*16807%65519%a) (Al d)⟩;have d:¬c*69621%65497%2=0:=λe=>b (Ba (by show V.int (c*69621%65497%2)=V.int 0;rw[e]));exact⟨Or.inr ⟨by decide,by decide⟩,(by show(0:Int)<65519;decide),(by show(0:Int)<m;lia),Y1,j (("to" : Str),c*16807%65519%m) (An d)⟩
def Nr (t a c:Int):Str×Int:=if c*69621%65497%3=0 then("by",c*16807%65519%a) else("thing",c*16807%65519%t)
def RC (ns ls:List Str) (t a c:Int):DT:=(ls.getD (c*48271%65521%5).toNat default,ns.getD (c*69621%65497/3%3).toNat default,Nr t a c)
def Nt{t:Nat}(b:1<=t)(d:1<=a)(ns ls:List Str)(c:Int):FG t a (RC ns ls t a c):=by
 unfold RC FG Nr;dsimp only;split;exact .inr ⟨rfl,Fy _ (by lia),Fw _ (by lia)⟩;exact .inl ⟨rfl,Fy _ (by lia),Fw _ (by lia)⟩
def Y2{i:Int}(b:0<=i)(c:i<xs.length):Bl (xs.map V.str) i=some (.str (xs.getD i.toNat default)):=by
 obtain⟨n,rfl⟩:=Dx b;have a:n<xs.length:=(by lia);rw[Bo,B1,AC a];exact BQ (by rw[A8,AC a];rfl)
def IJ:([]:List V).length+1+1+1+1<=sizeLine:=by decide
inductive CO (K:Ah) (vs:List V) (H:Hp) (Q:VK):Prop where
 |mk (c:Int) (L N:Addr) (ls ns:List Str) (t a:Nat) (h0:vs=[.int c,.ref L,.ref N,.int t,.int a]) (h1:Ae K H L (ls.map V.str)) (h2:ls.length=5) (h3:Ae K H N (ns.map V.str)) (h4:ns.length=3) (h5:1<=t) (h6:1<=a) (h7:∀(p:Addr)(H':Hp),H p=none->Ac H H'->H' p=some (.tup (G3 (RC ns ls t a c)))->Q (.ref p) H'):CO K vs H Q
def jF (K:Ah):Sp:=λvs H Q _=>CO K vs H Q
abbrev Vy(P w K mg base):=BB P w K mg base "_law_telling" 1 ["_law_cell", "_law_labels", "_law_names_here", "_law_things", "_law_asked"] (jF K)
def jG(B:BC mg)(F:Bp K "_law_telling" "_law_telling" Sd f fd)(l:mg "_law_telling" = some (.ref f)):Vy P w K mg base:=by
 refine BO F l Rp (λm H Q E h=>?_) (λJ A M s H m Q E x h=>?_);obtain⟨c,L,N,ls,ns,t,a,rfl,_⟩:=h;rfl;obtain⟨c,L,N,ls,ns,t,a,rfl,n,y,o,z,C,D,q⟩:=h;have r:=Fy (c*48271%65521) (by decide:(5:Int)≠0);have G:=Fw (c*48271%65521) (by decide:(0:Int)<5);have u:=Fy (c*69621%65497/3) (by decide:(3:Int)≠0);have I:=Fw (c*69621%65497/3) (by decide:(0:Int)<3)
 refine⟨_,(Ao (AL (i:=5) Rp.nd (Ax Ay (pv 1) (AE Bu (AE Bu (AE EV (pv 0) Ai) Ai) Ai)))
  (Ao (AL (i:=6) Rp.nd (AE Bu (AE EV (pv 0) Ai) Ai))
  (Ao (AL (i:=7) Rp.nd (Ax Ay (pv 2) (AE Bu (AE FQ (pv 6) Ai) Ai)))
  (Ao (Bc (Bv CJ (AE Bu (pv 6) Ai) Ai (Bs _)) (As (AK (BE (Ab (pv 5) (Ab (pv 7) (Ab B8 (Ab (AE Bu (AE Bu (AE EV (pv 0) Ai) Ai) (pv 4)) Af))))))) Bg)
  (As (AK (BE (Ab (pv 5) (Ab (pv 7) (Ab B8 (Ab (AE Bu (AE Bu (AE EV (pv 0) Ai) Ai) (pv 3)) Af))))))))))),?_⟩
 rfl';refine⟨Or.inr ⟨by decide,by decide⟩,(by show(0:Int)<65521;decide),(by show(0:Int)<5;decide),Or.inl ⟨_,_,n,Y2 r (by lia),?_⟩⟩;refine⟨Or.inr ⟨by decide,by decide⟩,(by show(0:Int)<65497;decide),?_⟩;refine⟨⟨by decide,by decide⟩,(by show(0:Int)<3;decide),Or.inl ⟨_,_,o,Y2 u (by lia),?_⟩⟩;have j:∀k,Nr t a c=k->∀p,H p=none->Q (.ref p) (upd H p (.tup [.str (ls.getD (c*48271%65521%5).toNat default),.str (ns.getD (c*69621%65497/3%3).toNat default),.str k.1,.int k.2])):=λk v p g=>q p _ g (Bb g) (by rw[Aa,<-v];rfl);refine⟨(by show(0:Int)<3;decide),rfl,rfl,Am (λb=>?_) (λb=>?_)⟩;have d:c*69621%65497%3=0:=V.int.inj (Bm b);exact⟨Or.inr ⟨by decide,by decide⟩,(by show(0:Int)<65519;decide),(by show(0:Int)<a;lia),IJ,j (("by" : Str),c*16807%65519%a) (Al d)⟩;have d:¬c*69621%65497%3=0:=λe=>b (Ba (by show V.int (c*69621%65497%3)=V.int 0;rw[e]));exact⟨Or.inr ⟨by decide,by decide⟩,(by show(0:Int)<65519;decide),(by show(0:Int)<t;lia),IJ,j (("thing" : Str),c*16807%65519%t) (An d)⟩
def E4 (m:Nat):Nat:=if m<4 then 3 else 2
abbrev BY (m:Nat) (c:Int):Int:=c/8*48271%65539%m
abbrev E5 (ss:List Bh) (i:Int):Bh:=ss.getD i.toNat ([],[])
def Jm (ls:List Str) (m a:Nat) (ss:List Bh) (c:Int):List Bh:=if c%8<3/\(E5 ss (BY m c)).1.length<E4 m then ss.set (BY m c).toNat ((E5 ss (BY m c)).1++[RB ls m a (c/8)],(E5 ss (BY m c)).2) else ss
def Oj (ls ns:List Str) (m t a:Nat) (ss:List Bh) (c:Int):List Bh:=if(2<c%8/\c%8<6)/\(E5 ss (BY m c)).2.length<2 then ss.set (BY m c).toNat ((E5 ss (BY m c)).1,(E5 ss (BY m c)).2++[RC ns ls t a (c/8)]) else ss
def RD (ls ns:List Str) (m t a:Nat) (ss:List Bh) (c:Int):List Bh:=Oj ls ns m t a (Jm ls m a ss c) c
def Ep (ls ns:List Str) (m t a:Nat) (cs:List Int) (i:Nat):List Bh:=(cs.take i).foldl (RD ls ns m t a) (List.replicate m ([],[]))
def KH(ls:List Str)(m a:Nat)(ss:List Bh)(c:Int):(Jm ls m a ss c).length=ss.length:=by unfold Jm;split;exact Ge;rfl
def RE(ls ns:List Str)(m t a:Nat)(ss:List Bh)(c:Int):(Oj ls ns m t a ss c).length=ss.length:=by unfold Oj;split;exact Ge;rfl
def Y3{ns:List Str}{t:Nat}{b:List Int}(h:b[i]?=some c):Ep ls ns m t a b (i+1)=RD ls ns m t a (Ep ls ns m t a b i) c:=by
 unfold Ep;rw[D0,h,KY];rfl
structure Hb (m t a:Nat) (ss:List Bh):Prop where
 len:ss.length=m
 st:∀s∈ss,s.1.length<=E4 m
 tl:∀s∈ss,s.2.length<=2
 kst:∀s∈ss,∀p∈s.1,EY m a p
 ktl:∀s∈ss,∀p∈s.2,FG t a p
variable {ss:List Bh}
def Y4{t:Nat}(h:Hb m t a ss)(i:Int):(E5 ss i).1.length<=E4 m/\(E5 ss i).2.length<=2/\(∀p∈(E5 ss i).1,EY m a p)/\∀p∈(E5 ss i).2,FG t a p:=by
 unfold E5;rw[B1]
 cases e:ss[i.toNat]? with
 |none=>exact⟨Di _,Di _,λp b=>(by cases b),λp b=>(by cases b)⟩
 |some s =>
   have:=A9 e;exact⟨h.st s this,h.tl s this,h.kst s this,h.ktl s this⟩
def Hb.setA{t:Nat}(h:Hb m t a ss){s:Bh}(c:s.1.length<=E4 m)(d:s.2.length<=2)(e:∀p∈s.1,EY m a p)(f:∀p∈s.2,FG t a p):Hb m t a (ss.set i s):=by
 refine⟨by rw[Ge];exact h.len,λu b=>?_,λu b=>?_,λu b=>?_,λu b=>?_⟩<;>rcases List.mem_or_eq_of_mem_set b with b|rfl;exact h.st u b;exact c;exact h.tl u b;exact d;exact h.kst u b;exact e;exact h.ktl u b;exact f
set_option tactic.hygienic true in
theorem RF{ls ns:List Str}{m t a:Nat}(n:1<=m)(o:1<=t)(k:1<=a)(f:List Int):∀i,Hb m t a (Ep ls ns m t a f i)
 |0=>by
   have e:∀s∈List.replicate m (([],[]):Bh),s=([],[]):=λs d=>(List.mem_replicate.mp d).2;exact⟨List.length_replicate,(λs d=>by rw[e s d];exact Di _),(λs d=>by rw[e s d];exact Di _),(λs d p b=>by rw[e s d] at b;cases b),(λs d p b=>by rw[e s d] at b;cases b)⟩
 | i + 1=>by
   have j:=RF (ls:=ls) (ns:=ns) n o k f i
   cases e:f[i]? with
   |none =>
     have q:Ep ls ns m t a f (i+1)=Ep ls ns m t a f i:=by unfold Ep;rw[D0,e];simp
     rw[q];exact j
   |some c =>
     rw[Y3 e];generalize Ep ls ns m t a f i=ss at j
     have l:Hb m t a (Jm ls m a ss c):=by
      have g:=Y4 j (BY m c);unfold Jm;split;rename_i h;refine j.setA (by rw[AS,CZ];exact h.2) g.2.1 (λp b=>?_) g.2.2.2;rcases BI.mp b with b|b;exact g.2.2.1 p b;rw[AW.mp b];exact Nq n k _ _;exact j
     unfold RD Oj;have g:=Y4 l (BY m c);split;rename_i h;refine l.setA g.1 (by rw[AS,CZ];exact h.2) g.2.2.1 (λp b=>?_);rcases BI.mp b with b|b;exact g.2.2.2 p b;rw[AW.mp b];exact Nt o k _ _ _;exact l
def jH(a b:V):Bl [a,b] 0=some a:=BQ (j:=0) rfl
def jI(a b:V):Bl [a,b] 1=some b:=BQ (j:=1) rfl
inductive Dd (K:Ah) (vs:List V) (H:Hp) (Q:VK):Prop where
 |mk (C L N Z:Addr) (cs:List Int) (ls ns:List Str) (m t a:Nat) (h0:vs=[.ref C,.ref L,.ref N,.int m,.ref Z]) (h1:Ae K H C (cs.map V.int)) (h2:cs.length<=63) (h3:Ae K H L (ls.map V.str)) (h4:ls.length=5) (h5:Ae K H N (ns.map V.str)) (h6:ns.length=3) (h7:Ar K H Z [.int t,.int a]) (h8:1<=m) (h9:m<=5) (h10:1<=t) (h11:1<=a) (h12:∀(S:Addr)(us Gs Es:List Addr)(H':Hp),Ac H H'->Dp H' S us Gs Es (Ep ls ns m t a cs cs.length)->Q (.ref S) H'):Dd K vs H Q
def jJ (K:Ah):Sp:=λvs H Q _=>Dd K vs H Q
abbrev Vz(P w K mg base):=BB P w K mg base "_law_scopes" 2 ["_law_cells", "_law_labels", "_law_names_here", "_law_many", "_law_sizes"] (jJ K)
theorem jK(B:BC mg)(a9:Vx P w K mg base)(aA:Vy P w K mg base)(F:Bp K "_law_scopes" "_law_scopes" Qi f fd)(hm:mg "_law_scopes" = some (.ref f)):Vz P w K mg base:=by
 refine BO F hm Od (λvs H a6 a7 h=>?_) (λaV aS aY s H vs a6 a7 hr h=>?_);obtain⟨af,L,ab,ag,T,ls,ns,m,t,a,rfl,_⟩:=h;rfl
 . obtain⟨af,L,ab,ag,T,ls,ns,m,t,a,rfl,hC,lc,hL,ll,hN,ln,hZ,m1,m5,E,a1,a8⟩:=h
   refine⟨_,(Ao (TM (i:=5) Od.nd rfl (Or.inl rfl) rfl Cw (Hx rfl B.b_range (Ab (pv 3) Af)) (λ_ _ _ _ _=>(Az (i:=0) Cw.nd)) (λ_ _ _ _ _=>Ja) (λ_ _ _ _ _=>(BE (Ab (Cq Af) (Ab (Cq Af) Af)))))
    (Ao (AL (i:=6) Od.nd (Ax Ay (Cq (Ab Ai (Ab Ai Af))) (GZ Wg B.b_int (Ab (IZ Gx (pv 3) Ai (Bs _)) Af))))
    (Ao (CG Cn rfl (Dk (pv 0)) (Az (i:=7) Od.nd) (Ao (AL (i:=8) Od.nd (AE Bu (AE Bu (AE EV (AE FQ (pv 7) Ai) Ai) Ai) (pv 3)))
     (Ao (AL (i:=9) Od.nd (AE FQ (pv 7) Ai))
     (Ao (Bc (PW.pt (GY (Bv Gx (AE Bu (pv 7) Ai) Ai (Bs _)) (GX (Bv Gx (BA Dy B.b_len (Ab (Ax Ay (Ax Ay (pv 5) (pv 8)) Ai) Af)) (pv 6) (Bs _))))) (As (C8 (C3 C0 Ev Ew Ex (Ax Ay (Ax Ay (pv 5) (pv 8)) Ai) (Ab (A5 a9 (Ab (pv 9) (Ab (pv 1) (Ab (pv 3) (Ab (Ax Ay (pv 4) Ai) Af))))) Af)))) Bg)
     (As (Bc (PW.pt (GY (Wc Gx Gx Ai (AE Bu (pv 7) Ai) Ai) (GX (Bv Gx (BA Dy B.b_len (Ab (Ax Ay (Ax Ay (pv 5) (pv 8)) Ai) Af)) Ai (Bs _))))) (As (C8 (C3 C0 Ev Ew Ex (Ax Ay (Ax Ay (pv 5) (pv 8)) Ai) (Ab (A5 aA (Ab (pv 9) (Ab (pv 1) (Ab (pv 2) (Ab (Ax Ay (pv 4) Ai) (Ab (Ax Ay (pv 4) Ai) Af)))))) Af)))) Bg))))))
    (As (AK (pv 5)))))),?_⟩
   try dsimp only[AF,Cx.nox,Cx.wish]
   refine⟨by lia,by lia,Ug (n:=m) (λD i ys r=>∃us d g:List Addr,ys=us.map V.ref/\Ac H r/\Dp r D us d g (List.replicate i (([],[]):Bh))/\(D::(d++g)).Nodup/\∀x∈d++g,H x=none)
    (λD hD=>⟨[],[],[],rfl,Bb hD,Dp.nil Aa,by simp,λx O=>by simp at O⟩) (λD i ys H7 RR hD hi hv k=>?_) (λS ys H7 aW hv=>?_)⟩
   refine AM λU b=>?_;obtain⟨us,d,g,rfl,l,SC,W,ae⟩:=hv;refine b ?_;clear b;have ay:=SC.lu;rw[List.length_replicate] at ay;refine⟨by decide,λG Q=>?_⟩;obtain⟨H8,aB,E,eG⟩:=new_at (o:=.lst []) Q;rw[<-aB];refine⟨by decide,λj A=>?_⟩;obtain⟨H9,aC,p,aD⟩:=new_at (o:=.lst []) A;rw[<-aC];refine⟨Cr,λu hu=>?_⟩;obtain⟨aE,aR,t3,eu⟩:=new_at (o:=.tup [.ref G,.ref j]) hu;rw[<-aR];have az:=(E.trans p).trans t3;have aF:=p.trans t3;have a0:=SC.same az;have al:=SC.alive
   have nG:G∉D::(d++g):=λy=>by
    rcases B5.mp y with y|y;rw[y,SC.top] at Q;cases Q;obtain⟨xs,e⟩:=al G y;rw[e] at Q;cases Q
   have nE:j∉D::(d++g):=λy=>by
    rcases B5.mp y with y|y;rw[y,E _ _ SC.top] at A;cases A;obtain⟨xs,e⟩:=al j y;rw[E _ _ e] at A;cases A
   have aG:G≠j:=λy=>by rw[<-y,eG] at A;cases A
   have aH:Hm aE u G j ([],[]):=⟨eu,⟨[],aF _ _ eG,RT.nil⟩,⟨[],t3 _ _ aD,RT.nil⟩⟩;have aI:=a0.snoc aH (λz=>nG (z▸Bn)) (λz=>nE (z▸Bn)) (λx O z=>(Gd.mp W).1 (z▸O));refine k _ _ a0.top (by rw[Ak,ay];exact BK (by lia)) ⟨us++[u],d++[G],g++[j],by rw[Bk];rfl,λaT o e=>?_,?_,cL W nG nE aG,λx O=>?_⟩;rw[AD (AX e hD)];exact az _ _ (l _ _ e);rw[List.replicate_succ'];exact aI
   have:x∈d++g\/x=G\/x=j:=by
    simp only[BI,AW] at O ⊢;rcases O with(h|h)|(h|h);exact .inl (.inl h);exact .inr (.inl h);exact .inl (.inr h);exact .inr (.inr h)
   rcases this with h|h|h;exact ae x h;rw[h];exact l.free Q;rw[h];exact(l.trans E).free A;refine AM λU b=>?_;obtain⟨us,d,g,rfl,s4,aJ,W,ae⟩:=hv;refine b ?_;clear b;cbv;refine⟨Cr,λaU hl=>?_⟩;obtain⟨H5,aK,s5,el⟩:=new_at (o:=.lst [.int 2,.int 3]) hl;rw[<-aK]
   have aL:Bl [V.int 2,V.int 3] (if decide ((m:Int)<4)=true then 1 else 0)=some (.int (E4 m)):=by
    unfold E4;by_cases h:m<4;rw[Al (Ba (by lia)),Al h];exact jI _ _;rw[An (by rw[D1 (by lia)];exact Ct),An h];exact jH _ _
   refine Or.inr ⟨_,rfl,Or.inl ⟨_,.int (E4 m),Ae.of el,aL,?_⟩⟩;refine AR ?_;cbv;have a2:=s4.trans s5;refine⟨⟨_,a2.seq hC⟩,EU (xs:=T.map V.int) (λi σ r=>∃u7 u8 u9,σ=[some (.ref af),some (.ref L),some (.ref ab),some (.int m),some (.ref ag),some (.ref S),some (.int (E4 m)),u7,u8,u9]/\Ac H r/\Dp r S us d g (Ep ls ns m t a T i)) ⟨none,none,none,rfl,a2,aJ.same s5⟩ (λi σ r _ aM=>by obtain⟨_,_,_,_,s,_⟩:=aM;exact s.seq hC) ?_ ?_⟩;rotate_left;refine λσ H6 ak=>AM λU b=>?_;obtain⟨u7,u8,u9,rfl,I,q⟩:=ak;refine b ?_;clear b;rw[Ak] at q;exact a8 S us d g _ I q;refine λi y σ H6 hy ak=>AM λU b=>?_;obtain⟨u7,u8,u9,rfl,I,q⟩:=ak;refine b ?_;clear b;obtain⟨c,hc,rfl⟩:=getm hy;have a3:=RF (ls:=ls) (ns:=ns) m1 E a1 T i;rw[Y3 hc];generalize Ep ls ns m t a T i=ss at q a3;refine AR ?_;cbv;refine⟨⟨by decide,by decide⟩,Or.inr ⟨by decide,by decide⟩,(by show(0:Int)<65539;decide),(by show(0:Int)<m;lia),?_⟩;refine AR ?_;cbv;refine⟨⟨by decide,by decide⟩,?_⟩;refine AR ?_;cbv;have r0:0<=BY m c:=Fy _ (by lia);have r1:BY m c<m:=Fw _ (by lia);obtain⟨n,R⟩:=Dx r0;have aN:=a3.len;have an:n<ss.length:=(by lia);have a4:E5 ss (BY m c)=ss[n]:=by unfold E5;rw[R,Bo,B1,AC an];rfl
   have aX:E4 m<=3:=by unfold E4;split<;>lia
   refine Hh (λσ' r=>σ'=[some (.ref af),some (.ref L),some (.ref ab),some (.int m),some (.ref ag),some (.ref S),some (.int (E4 m)),some (.int c),some (.int (BY m c)),some (.int (c/8))]/\Ac H r/\Dp r S us d g (Jm ls m a ss c)) ?_ (λNX ao=>?_);rotate_left
   . refine AM λU b=>?_
     obtain⟨u,G,j,ah,ai,aj,g4,⟨X,⟨tG,J,Y⟩,_⟩⟩:=q.get an;refine b ?_;clear b;have aa:Bl (us.map V.ref) (BY m c)=some (.ref u):=by rw[R];exact BQ (by rw[A8,ah];rfl)
     have aq:(tG.map V.ref).length=(E5 ss (BY m c)).1.length:=(by rw[Ak,Y.len,a4]);have no:¬(c%8<3/\(E5 ss (BY m c)).1.length<E4 m)->Jm ls m a ss c=ss:=λz=>An z;refine⟨(by show(0:Int)<8;decide),rfl,Am (λM=>?_) (λM=>?_)⟩;rotate_left;refine ao _ _ ⟨rfl,I,?_⟩;rw[no λz=>M (Ba z.1)];exact q;have ar:c%8<3:=Bm M;refine Or.inl ⟨_,.ref u,Ae.of q.top,aa,Or.inr (Or.inl ⟨_,.ref G,Ar.of X,rfl,_,Or.inl ⟨_,Ae.of J,rfl⟩,rfl,Am (λN=>?_) (λN=>?_)⟩)⟩;rotate_left;refine ao _ _ ⟨rfl,I,?_⟩;rw[no λz=>N (Ba (by rw[aq];exact Int.ofNat_lt.mpr z.2))];exact q
     have au:(E5 ss (BY m c)).1.length<E4 m:=by
      have:=Bm N;rw[aq] at this;exact Int.ofNat_lt.mp this
     refine Or.inl ⟨_,.ref u,Ae.of q.top,aa,Or.inr (Or.inl ⟨_,.ref G,Ar.of X,rfl,Or.inl ⟨rfl,_,Ae.of J⟩,Or.inr (Or.inl ⟨_,.int a,I.seqT hZ,rfl,c/8,L,ls,m,a,rfl,I.seq hL,ll,m1,a1,λtp H8 aO p av=>?_⟩)⟩)⟩;have Z:=p _ _ J;have mG:G∈d++g:=Eu _ (A9 ai);refine⟨_,Z,by rw[aq];exact BK (by lia),ao _ _ ⟨rfl,λx o e=>?_,?_⟩⟩;rw[AD (AX e (ae G mG))];exact p _ _ (I _ _ e);have:=(q.same p).step W an ai Z (Y.same p) av;unfold Jm;rw[Al ⟨ar,au⟩,a4,R,Bo];exact this
   rintro σ' H7 ⟨rfl,l,C⟩;have aP:(Jm ls m a ss c).length=m:=by rw[KH];exact aN
   show _;unfold RD;generalize Jm ls m a ss c=v at C aP;have ax:n<v.length:=(by lia);have a5:E5 v (BY m c)=v[n]:=by unfold E5;rw[R,Bo,B1,AC ax];rfl
   refine AM λU b=>?_;obtain⟨u,G,j,ah,ai,aj,g4,⟨X,_,⟨tE,J,Y⟩⟩⟩:=C.get ax;refine b ?_;clear b;have aa:Bl (us.map V.ref) (BY m c)=some (.ref u):=by rw[R];exact BQ (by rw[A8,ah];rfl)
   have aw:(tE.map V.ref).length=(E5 v (BY m c)).2.length:=(by rw[Ak,Y.len,a5]);have no:¬((2<c%8/\c%8<6)/\(E5 v (BY m c)).2.length<2)->Oj ls ns m t a v c=v:=λz=>An z;refine⟨(by show(0:Int)<8;decide),_,rfl,Am (λd0=>?_) (λd0=>?_)⟩;rotate_left;refine⟨rfl,A7 (A7 ⟨_,_,_,rfl,l,?_⟩)⟩;rw[no λz=>d0 (Ba z.1.1)];exact C;have aQ:2<c%8:=Bm d0;refine⟨rfl,Am (λM=>?_) (λM=>?_)⟩;rotate_left;refine⟨_,_,_,rfl,l,?_⟩;rw[no λz=>M (Ba z.1.2)];exact C;have ar:c%8<6:=Bm M;refine Or.inl ⟨_,.ref u,Ae.of C.top,aa,Or.inr (Or.inl ⟨_,.ref j,Ar.of X,rfl,_,Or.inl ⟨_,Ae.of J,rfl⟩,rfl,Am (λN=>?_) (λN=>?_)⟩)⟩;rotate_left;refine⟨_,_,_,rfl,l,?_⟩;rw[no λz=>N (Ba (by rw[aw];exact Int.ofNat_lt.mpr z.2))];exact C
   have au:(E5 v (BY m c)).2.length<2:=by
    have:=Bm N;rw[aw] at this;exact Int.ofNat_lt.mp this
   refine Or.inl ⟨_,.ref u,Ae.of C.top,aa,Or.inr (Or.inl ⟨_,.ref j,Ar.of X,rfl,Or.inl ⟨rfl,_,Ae.of J⟩,Or.inr (Or.inl ⟨_,.int t,l.seqT hZ,rfl,Or.inr (Or.inl ⟨_,.int a,l.seqT hZ,rfl,c/8,L,ab,ls,ns,t,a,rfl,l.seq hL,ll,l.seq hN,ln,E,a1,λtp H8 aO p av=>?_⟩)⟩)⟩)⟩;have Z:=p _ _ J;have mE:j∈d++g:=Du _ (A9 aj);refine⟨_,Z,by rw[aw];exact BK (by lia),⟨_,_,_,rfl,λx o e=>?_,?_⟩⟩;rw[AD (AX e (ae j mE))];exact p _ _ (l _ _ e);have:=(C.same p).tell W ax aj Z (Y.same p) av;unfold Oj;rw[Al ⟨⟨aQ,ar⟩,au⟩,a5,R,Bo];exact this
abbrev Er (ns:List Int):List Str:=G8 (FF ns 0) 3
abbrev Nu (ns:List Int):List Str:=G8 (FF ns 1) 5
def IK (ns:List Int) (n:Nat):List Int:=(List.range n).map λk:Nat=>FF ns (2+(k:Int))
abbrev Nv (ns:List Int):Int:=FF ns 7
abbrev BF (ns:List Int):Nat:=(1+Nv ns%5).toNat
abbrev Cj (ns:List Int):List Int:=ns.drop 9
def E6 (cs:List Int):Nat:=(cs.filter λc=>decide (c%8=7)).length
def BL (ns:List Int):Nat:=1+min 5 (E6 (Cj ns))
abbrev DJ (ns:List Int):Nat:=(1+FF ns 2%3).toNat
def LG (m a:Nat) (l:List (Str×Int)) (c:Int):List (Str×Int):=if c%8=6/\l.length<6 then l++[Nn m a (c/8)] else l
def BZ (ns:List Int) (i:Nat):List (Str×Int):=((Cj ns).take i).foldl (LG (BF ns) (BL ns)) [("part",Nv ns/5%BF ns)]
def KI (nm:List Str) (m s:Nat) (l:List Qu) (c:Int):List Qu:=if c%8=7/\l.length<6 then l++[DH nm m s (c/8)] else l
def FO (ns:List Int) (i:Nat):List Qu:=((Cj ns).take i).foldl (KI (Er ns) (BF ns) (DJ ns)) [DH (Er ns) (BF ns) (DJ ns) (Nv ns/25)]
def P0(ns:List Int):1<=BF ns/\BF ns<=5:=by unfold BF;lia
def VA(ns:List Int):1<=DJ ns/\DJ ns<=3:=by unfold DJ;lia
def P1(ns:List Int):1<=BL ns/\BL ns<=6:=by unfold BL;lia
def Y5(h:(Cj ns)[i]?=some c):BZ ns (i+1)=LG (BF ns) (BL ns) (BZ ns i) c:=by
 unfold BZ;rw[D0,h,KY];rfl
def Y6(h:(Cj ns)[i]?=some c):FO ns (i+1)=KI (Er ns) (BF ns) (DJ ns) (FO ns i) c:=by
 unfold FO;rw[D0,h,KY];rfl
set_option tactic.hygienic true in
def RG(ns:List Int)(i:Nat):1<=(BZ ns i).length/\(BZ ns i).length<=6:=by
 unfold BZ;generalize (Cj ns).take i=l
 have:∀(l:List Int)(g:List (Str × Int)),1<=g.length/\g.length<=6->1<=(l.foldl (LG (BF ns) (BL ns)) g).length/\(l.foldl (LG (BF ns) (BL ns)) g).length<=6:=by
  intro l
  induction l with
  |nil=>exact λg h=>h
  |cons c l a =>
    intro g h;refine a _ ?_;unfold LG;split;rename_i k;rw[AS,CZ];lia;exact h
 exact this l _ ⟨AG _,(by show 1<=6;decide)⟩
def KJ(ns:List Int)(i:Nat):∀p∈BZ ns i,F2 (BF ns) (BL ns) p:=by
 unfold BZ;generalize (Cj ns).take i=l;have b:=P0 ns;have d:=P1 ns
 have:∀(l:List Int)(g:List (Str × Int)),(∀p∈g,F2 (BF ns) (BL ns) p) -> ∀p∈l.foldl (LG (BF ns) (BL ns)) g,F2 (BF ns) (BL ns) p:=by
  intro l
  induction l with
  |nil=>exact λg h=>h
  |cons c l e =>
    intro g h;refine e _ ?_;unfold LG;split;intro p a;rcases BI.mp a with a|a;exact h p a;rw[AW.mp a];exact No b.1 d.1 _;exact h
 refine this l _ λp a=>?_;rw[AW.mp a];exact .inr (.inl ⟨rfl,Fy _ (by lia),Fw _ (by lia)⟩)
def Y7(ns:List Int)(i:Nat):(FO ns i).length=1+min 5 (E6 ((Cj ns).take i)):=by
 unfold FO;generalize (Cj ns).take i=l
 have:∀(l:List Int)(g:List Qu),g.length<=6->(l.foldl (KI (Er ns) (BF ns) (DJ ns)) g).length=min 6 (g.length+E6 l):=by
  intro l
  induction l with
  |nil=>intro g h;show g.length=min 6 (g.length+0);lia
  |cons c l d =>
    intro g h;show(l.foldl _ (KI (Er ns) (BF ns) (DJ ns) g c)).length=_
    have e:E6 (c::l)=(if c%8=7 then 1 else 0)+E6 l:=by
     unfold E6;rw[Jn];by_cases a:c%8=7;rw[Al (Ba a),Al a,Ej];lia;rw[An (by rw[D1 a];exact Ct),An a];lia
    rw[e];by_cases k:c%8=7/\g.length<6;have b:KI (Er ns) (BF ns) (DJ ns) g c=g++[DH (Er ns) (BF ns) (DJ ns) (c/8)]:=Al k;rw[b,d _ (by rw[AS,CZ];lia),AS,CZ,Al k.1];lia;have b:KI (Er ns) (BF ns) (DJ ns) g c=g:=An k;rw[b,d g h];by_cases a:c%8=7;have:¬g.length<6:=λz=>k ⟨a,z⟩;lia;rw[An a];lia
 rw[this l _ (by show 1<=6;decide)];show min 6 (1+E6 l)=_;lia
def VB(ns:List Int):(FO ns (Cj ns).length).length=BL ns:=by rw[Y7,Et];rfl
def Ny(ns:List Int)(i:Nat):∀q∈FO ns i,(0<=q.1/\q.1<BF ns)/\(0<=q.2.1/\q.2.1<DJ ns)/\1<=q.2.2.length/\q.2.2.length<=8:=by
 unfold FO;generalize (Cj ns).take i=l;have d:=P0 ns;have e:=VA ns
 have one:∀c,(0<=(DH (Er ns) (BF ns) (DJ ns) c).1/\(DH (Er ns) (BF ns) (DJ ns) c).1<BF ns)/\(0<=(DH (Er ns) (BF ns) (DJ ns) c).2.1/\(DH (Er ns) (BF ns) (DJ ns) c).2.1<DJ ns)/\1<=(DH (Er ns) (BF ns) (DJ ns) c).2.2.length/\(DH (Er ns) (BF ns) (DJ ns) c).2.2.length<=8:=λc=>by
  have:=KE (Er ns) c;exact⟨⟨Fy _ (by lia),Fw _ (by lia)⟩,⟨Fy _ (by lia),Fw _ (by lia)⟩,this.1,Ek this.2 (by decide)⟩
 have:∀(l:List Int)(g:List Qu),(∀q∈g,(0<=q.1/\q.1<BF ns)/\(0<=q.2.1/\q.2.1<DJ ns)/\1<=q.2.2.length/\q.2.2.length<=8) -> ∀q∈l.foldl (KI (Er ns) (BF ns) (DJ ns)) g,(0<=q.1/\q.1<BF ns)/\(0<=q.2.1/\q.2.1<DJ ns)/\1<=q.2.2.length/\q.2.2.length<=8:=by
  intro l
  induction l with
  |nil=>exact λg h=>h
  |cons c l b =>
    intro g h;refine b _ ?_;unfold KI;split;intro p a;rcases BI.mp a with a|a;exact h p a;rw[AW.mp a];exact one _;exact h
 refine this l _ λp a=>?_;rw[AW.mp a];exact one _
structure Ol (ns:List Int) (ss:List Bh) (gs:List (Str×Int)) (qs:List Qu) (sts:List Cu) (inn:Int) (ord:A'):Prop where
 ss:ss=Ep (Nu ns) (Er ns) (BF ns) (BZ ns (Cj ns).length).length (BL ns) (Cj ns) (Cj ns).length
 gs:gs=BZ ns (Cj ns).length
 qs:qs=FO ns (Cj ns).length
 tb:PY (IK ns 5) (Nu ns) sts inn ord
def Ol.uniq{ns:List Int}{ss d:List Bh}{gs e:List (Str×Int)}{qs f:List Qu}{g i:List Cu}{inn j:Int}{ord l:A'}(h:Ol ns ss gs qs g inn ord)(k:Ol ns d e f i j l):ss=d/\gs=e/\qs=f/\g=i/\inn=j/\ord=l:=by
 obtain⟨a,b,c⟩:=h.tb.uniq k.tb;exact⟨h.ss.trans k.ss.symm,h.gs.trans k.gs.symm,h.qs.trans k.qs.symm,a,b,c⟩
def jL(ns:List Int)(n:Nat):IK ns (n+1)=IK ns n++[FF ns (2+(n:Int))]:=by unfold IK;rw[List.range_succ,Bk];rfl
def Y8(ns:List Int)(n:Nat):(IK ns n).length=n:=by unfold IK;rw[Ak,List.length_range]
def RH(ns:List Int):(IK ns 5).getD 0 0=FF ns 2:=rfl
def P2{gs:List (Str×Int)}{qs:List Qu}{f:List Cu}{inn:Int}{ord:A'}(h:Ol ns ss gs qs f inn ord){as:List (C')}(g:as.length=qs.length)(o:∀p,some p∈as->p.1=("thing" : Str)->0<=p.2/\p.2<gs.length):Je ⟨ss,gs,as,f⟩ qs inn ord:=by
 have j:=P0 ns;have r:=P1 ns;have t:=RG ns (Cj ns).length;have F:=VA ns;have eq:qs.length=BL ns:=(by rw[h.qs,VB]);have u:gs.length=(BZ ns (Cj ns).length).length:=(by rw[h.gs]);have a:=RF (ls:=Nu ns) (ns:=Er ns) j.1 t.1 r.1 (Cj ns) (Cj ns).length;rw[<-h.ss,<-u] at a;have ls:f.length=DJ ns:=(by rw[h.tb.len,RH]);have k:(0:Int)<1+FF ns 2%3:=(by lia);have l:(DJ ns:Int)=1+FF ns 2%3:=by unfold DJ;lia
 have v:FL ⟨ss,gs,as,f⟩:=by
  refine⟨λs b=>?_,λs b p d=>?_,λp d=>?_,o,λs b p d=>?_⟩;have:=a.st s b;have:E4 (BF ns)<=3:=by unfold E4;split<;>lia
  lia;show EY ss.length as.length p;rw[a.len,g,eq];exact a.kst s b p d;show F2 ss.length as.length p;rw[a.len,g,eq];exact KJ ns _ p (h.gs▸d);obtain⟨i,w,e⟩:=List.getElem_of_mem b;have x:=h.tb.at_ i s (by rw[AC w,e]);have:=Y0 (ls:=Nu ns) (c:=(IK ns 5).getD (1+i) 0) (n:=1+(IK ns 5).getD 0 0%3) (by rw[RH];exact k) 5 p (x.pg.mem_iff.mp d);rw[RH] at this;show 0<=p.2/\p.2<(f.length:Int);rw[ls,l];exact this
 have y:∀s∈ss,s.1.length<=E4 (BF ns):=a.st
 have z:J8 (E4 (BF ns)) ss.length*max 2 (E4 (BF ns))<=62:=by
  rw[a.len];generalize BF ns=m at j;have:m=1\/m=2\/m=3\/m=4\/m=5:=(by lia);rcases this with e|e|e|e|e<;>subst e<;>decide
 obtain⟨ok,A⟩:=fG v (B:=E4 (BF ns)) y (by show ss.length<=100;rw[a.len];lia) z a.tl (λs b p d=>by
  show FG gs.length as.length p
  rw[g,eq];exact a.ktl s b p d)
 refine⟨ok,A,?_,h.tb.ord.irr (YW (by decide)),?_,λq C=>?_⟩;have:=h.tb.ord.len (by rw[Oi];decide);lia;rw[h.tb.inn,RH];show 0<=_/\_<(f.length:Int);have D:=Fy (FF ns 2/3) (show 1+FF ns 2%3≠0 by lia);have E:=Fw (FF ns 2/3) k;rw[ls,l];exact⟨D,E⟩;have:=Ny ns _ q (h.qs▸C);show(0<=q.1/\q.1<(ss.length:Int))/\(0<=q.2.1/\q.2.1<(f.length:Int))/\_;rw[a.len,ls];exact this
inductive Ee (K:Ah) (vs:List V) (H:Hp) (Q:VK):Prop where
 |mk (a:Addr) (ns:List Int) (h0:vs=[.ref a]) (h1:Ae K H a (ns.map V.int)) (h2:ns.length<=63) (h3:∀(r nt t S T R:Addr)(us Gs Es ts qt:List Addr)(ss:List Bh)(gs:List (Str×Int))(qs:List Qu)(sts:List Cu)(inn:Int)(ord:A')(H':Hp),Ac H H'->H' r=some (.tup [.ref nt,.ref t])->H' nt=some (.tup [.ref S,.ref T,.ref R])->FH H' S T R us Gs Es ts qt ss gs qs->F1 K (λ_=>True) H' t sts inn ord->Ol ns ss gs qs sts inn ord->Q (.ref r) H'):Ee K vs H Q
def jM (K:Ah):Sp:=λvs H Q _=>Ee K vs H Q
abbrev RI(P w K mg base):=BB P w K mg base "_law_made" 4 ["_law_script"] (jM K)
theorem jN (B:BC mg) (aB:Vn P w K mg base) (ah:PU P w K mg base) (bg:Vt P w K mg base) (aC:Vv P w K mg base) (bh:Vw P w K mg base) (bi:Vz P w K mg base) (F:Bp K "_law_made" "_law_made" Op f fd) (hm:mg "_law_made" = some (.ref f)):RI P w K mg base:=by
 refine BO F hm Hq (λvs aq ba bb ar=>?_) (λbH bF bT s aq vs ba bb hr ar=>?_);obtain⟨a,ns,rfl,_⟩:=ar;rfl
 . obtain⟨a,ns,rfl,S,bR,q⟩:=ar
   have U:=P0 ns;have z2:=P1 ns;have z3:=VA ns
   refine⟨_,(Ao (AL (i:=1) Hq.nd (A5 aB (Ab (A5 ah (Ab (pv 0) (Ab Ai Af))) (Ab Ai Af))))
    (Ao (AL (i:=2) Hq.nd (A5 aB (Ab (A5 ah (Ab (pv 0) (Ab Ai Af))) (Ab Ai Af))))
    (Ao (AL (i:=3) Hq.nd (A5 bg (Ab (Hg rfl C9 (Zt rfl B.b_range (Ab Ai (Ab Ai Af))) (λ_ _ _ _ _=>(Az (i:=0) C9.nd)) (λ_ _ _ _ _=>Ja) (λ_ _ _ _ _=>(A5 ah (Ab (pv 1) (Ab (pv 0) Af))))) (Ab (pv 2) Af))))
    (Ao (AL (i:=4) Hq.nd (A5 ah (Ab (pv 0) (Ab Ai Af))))
    (Ao (AL (i:=5) Hq.nd (AE Hy Ai (AE Bu (pv 4) Ai)))
    (Ao (AL (i:=6) Hq.nd (OM OS (pv 0) (NR Ai) Qw))
    (Ao (AL (i:=7) Hq.nd (Cq (Ab (BE (Ab B8 (Ab (AE Bu (AE FQ (pv 4) Ai) (pv 5)) Af))) Af)))
    (Ao (AL (i:=8) Hq.nd (Cq (Ab (A5 aC (Ab (AE FQ (pv 4) Ai) (Ab (pv 5) (Ab (BA Dy B.b_len (Ab (Ax Ay (pv 3) Ai) Af)) (Ab (pv 1) Af))))) Af)))
    (Ao (AL (i:=9) Hq.nd (AE Hy Ai (BA (Zz rfl) B.b_min (Ab Ai (Ab (BA Dy B.b_len (Ab (Hg rfl Db (Dk (pv 6)) (λ_ _ _ _ _=>(Az (i:=0) Db.nd)) (λ_ _ _ _ _=>(O1 (Bv CJ (AE Bu (pv 0) Ai) Ai (Bs _)))) (λ_ _ _ _ _=>(pv 0))) Af)) Af)))))
    (Ao (CG Cn rfl (Dk (pv 6)) (Az (i:=10) Hq.nd) (Ao (Bc (PW.pt (GY (Bv CJ (AE Bu (pv 10) Ai) Ai (Bs _)) (GX (Bv Gx (BA Dy B.b_len (Ab (pv 7) Af)) Ai (Bs _))))) (As (C8 (C3 C0 Ev Ew Ex (pv 7) (Ab (A5 bh (Ab (AE FQ (pv 10) Ai) (Ab (pv 5) (Ab (pv 9) Af)))) Af)))) Bg)
     (As (Bc (PW.pt (GY (Bv CJ (AE Bu (pv 10) Ai) Ai (Bs _)) (GX (Bv Gx (BA Dy B.b_len (Ab (pv 8) Af)) Ai (Bs _))))) (As (C8 (C3 C0 Ev Ew Ex (pv 8) (Ab (A5 aC (Ab (AE FQ (pv 10) Ai) (Ab (pv 5) (Ab (BA Dy B.b_len (Ab (Ax Ay (pv 3) Ai) Af)) (Ab (pv 1) Af))))) Af)))) Bg))))
    (Ao (AL (i:=11) Hq.nd (A5 bi (Ab (pv 6) (Ab (pv 2) (Ab (pv 1) (Ab (pv 5) (Ab (BE (Ab (BA Dy B.b_len (Ab (pv 7) Af)) (Ab (pv 9) Af))) Af)))))))
    (As (AK (BE (Ab (BE (Ab (pv 11) (Ab (pv 7) (Ab (pv 8) Af)))) (Ab (pv 3) Af)))))))))))))))),?_⟩
   rfl';refine⟨a,ns,0,rfl,by decide,S,_,3,rfl,by decide,by decide,λN bG hN s1 eN=>?_⟩;refine AR ?_;cbv;refine⟨a,ns,1,rfl,by decide,s1.seq S,_,5,rfl,by decide,by decide,λag H2 hL s2 eL=>?_⟩;have aD:=s1.trans s2;have bj:=s2 _ _ eN;refine AR ?_;cbv
   refine⟨_,_,rfl,⟨by decide,by decide,by decide,by decide⟩,Ug (lo:=2) (n:=5) (λD i A b=>Ac H2 b/\b D=some (.lst A)/\A=(IK ns i).map V.int)
    (λD E=>⟨Bb E,Aa,rfl⟩) (λD i A H3 RR E hi G k=>?_) (λTC A H3 bI G=>?_)⟩
   obtain⟨M,eD,rfl⟩:=G;refine⟨a,ns,2+(i:Int),rfl,by lia,(aD.trans M).seq S,?_⟩;refine k _ _ eD (by rw[Ak,Y8];exact BK (by lia)) ⟨λbc o e=>?_,Aa,?_⟩;rw[AD (AX e E)];exact M _ _ e;rw[jL,Bk];rfl;obtain⟨M,bk,rfl⟩:=G;have bl:=aD.trans M;have aE:=M _ _ eL;have aw:=M _ _ bj;refine⟨TC,ag,IK ns 5,Nu ns,rfl,Ae.of bk,Y8 ns 5,Ae.of aE,Oi _ _,λt bm bn bo H4 W TB aF=>?_⟩;have ai:=bl.trans W;refine AR ?_;cbv;refine⟨a,ns,7,rfl,by decide,ai.seq S,?_⟩;refine AR ?_;cbv;refine⟨(by show(0:Int)<5;decide),?_⟩;dsimp only[IY,IT];rw[show(1+FF ns 7%5:Int)=(BF ns:Int) by unfold BF Nv;lia];refine AR ?_;cbv
   refine⟨_,rfl,a,_,rfl,ai.seq S,λX h0=>?_⟩;rw[show Em (ns.map V.int) (some 9) none=(Cj ns).map V.int from(TU _ 9).trans (Qg).symm];obtain⟨H5,bp,s5,ax⟩:=new_at (o:=.lst ((Cj ns).map V.int)) h0;rw[<-bp];refine AR ?_;cbv
   have aG:=ai.trans s5;have bq:(Cj ns).length<=63:=by rw[Gp];lia
   refine⟨⟨by decide,by decide⟩,(by show(0:Int)<BF ns;lia),Cr,λp1 br=>?_⟩;obtain⟨H6,bs,s6,bt⟩:=new_at (o:=.tup [.str "part",.int (Nv ns/5%BF ns)]) br;rw[<-bs];refine⟨Hk,λT Y=>?_⟩;obtain⟨H7,bu,s7,aH⟩:=new_at (o:=.lst [.ref p1]) Y;rw[<-bu];refine AR ?_;cbv;have aj:=s6.trans s7;have aI:=aG.trans aj;refine AM λNz u=>?_;obtain⟨a9,tO,tu,bJ,et,_,_,_,aJ,SR,_⟩:=TB.ex;refine u ?_;clear u;have aK:(tu.map V.ref).length=DJ ns:=by rw[Ak,SR.len,aF.len];rfl
   have aa:=s5.trans aj;refine⟨⟨by decide,by decide⟩,Or.inr (Or.inl ⟨_,.ref a9,Ar.of (aa _ _ et),rfl,_,Or.inl ⟨_,Ae.of (aa _ _ aJ),rfl⟩,_,N,Er ns,BF ns,(tu.map V.ref).length,rfl,Ae.of ((W.trans aa) _ _ aw),Oi _ _,U.1,by lia,λpq pu H8 Z aL aM=>?_⟩)⟩;rw[aK] at aL aM;refine⟨Hk,λR H=>?_⟩;obtain⟨H9,bv,s9,bw⟩:=new_at (o:=.lst [.ref pq]) H;rw[<-bv];refine AR ?_;cbv;have ab:=Z.trans s9;have a7:=(aj.trans ab) _ _ ax
   refine⟨⟨_,Ae.of a7⟩,QJ (xs:=(Cj ns).map V.int) (λD i A b=>Ac H9 b/\b D=some (.lst A)/\A=(((Cj ns).take i).filter λc=>decide (c%8=7)).map V.int)
    (λD E=>⟨Bb E,Aa,rfl⟩) (λD i A b ay=>by obtain⟨s,_⟩:=ay;exact Ae.of (s _ _ a7)) (λD au bd A ak RR R0 E hy G k k0=>?_) (λCD A ak bK G=>?_)⟩
   obtain⟨v,eD,rfl⟩:=G;obtain⟨c,C,rfl⟩:=getm hy;have bL:au<(Cj ns).length:=(AY.mp C).1;refine⟨(by show(0:Int)<8;decide),rfl,rfl,Am (λav=>?_) (λav=>?_)⟩;have d':c%8=7:=V.int.inj (Bm av);refine k _ _ eD ?_ ⟨λbc o e=>?_,Aa,?_⟩;have h1:(((Cj ns).take au).filter λc=>decide (c%8=7)).length<=((Cj ns).take au).length:=Oo _ _;rw[FP] at h1;rw[Ak];exact BK (by lia);rw[AD (AX e E)];exact v _ _ e;rw[D0,C,KX,Bk];congr 1;show _=(List.filter _ [c]).map V.int;rw[Jn,Al (Ba d')];rfl;have d':¬c%8=7:=λz=>av (Ba (by show V.int (c%8)=V.int 7;rw[z]));refine k0 _ ⟨v,eD,?_⟩;rw[D0,C,KX,Bk];show _=_++(List.filter _ [c]).map V.int;rw[Jn,An (by rw[D1 d'];exact Ct)];exact(E7 _).symm;obtain⟨v,aN,rfl⟩:=G;rw[Ak,Et] at aN;have bx:(((Cj ns).filter λc=>decide (c%8=7)).map V.int).length=E6 (Cj ns):=Ak _;refine⟨_,Or.inl ⟨_,Ae.of aN,rfl⟩,_,_,rfl,?_⟩;rw[bx];dsimp only[IY,IT]
   rw[show(1+(if((E6 (Cj ns):Nat):Int)<5 then((E6 (Cj ns):Nat):Int) else 5):Int)=(BL ns:Int) by unfold BL;split<;>lia]
   refine AR ?_;cbv;have aR:=(ab.trans v) _ _ aH;have aS:=v _ _ bw;have bM:aq T=none:=(aG.trans s6).free Y;have bN:aq R=none:=(aI.trans Z).free H;have aO:T≠R:=λz=>by rw[<-z,Z _ _ aH] at H;cases H
   have a8:=v _ _ a7;have aT:X≠T:=λz=>by rw[<-z,s6 _ _ ax] at Y;cases Y
   have aU:X≠R:=λz=>by rw[<-z,(aj.trans Z) _ _ ax] at H;cases H
   have bS:=aI.trans (ab.trans v);have b9:=aa.trans (ab.trans v);have bz:H4 T=none:=(s5.trans s6).free Y;have b0:H4 R=none:=(aa.trans Z).free H;have az:∀{b:Hp},Keeps (λx=>x=T\/x=R) ak b->Ac H4 b:=λk x o e=>k.at_ _ _ (b9 _ _ e) λz=>z.elim (AX e bz) (AX e b0)
   refine⟨⟨_,Ae.of a8⟩,EU (xs:=(Cj ns).map V.int) (λi σ b=>∃a0 d g,σ=[some (.ref a),some (.ref N),some (.ref ag),some (.ref t),some (.int (FF ns 7)),some (.int (BF ns)),some (.ref X),some (.ref T),some (.ref R),some (.int (BL ns)),a0,none]/\Keeps (λx=>x=T\/x=R) ak b/\b T=some (.lst (d.map V.ref))/\GT b d (BZ ns i)/\b R=some (.lst (g.map V.ref))/\QT b g (FO ns i))
    ⟨none,[p1],[pq],rfl,Keeps.refl λx o m e=>?_,aR,?_,aS,?_⟩ (λi σ b _ ay=>by obtain⟨_,_,_,_,k,_⟩:=ay;exact Ae.of (k.at_ _ _ a8 λz=>z.elim aT aU)) ?_ ?_⟩
   rcases m with m|m;rw[m,aR] at e;exact⟨_,(Bz e).symm⟩;rw[m,aS] at e;exact⟨_,(Bz e).symm⟩;exact GT.nil.snoc (p:=(("part" : Str),Nv ns/5%BF ns)) ((s7.trans (ab.trans v)) _ _ bt);exact QT.nil.snoc (q:=DH (Er ns) (BF ns) (DJ ns) (Nv ns/25)) ((s9.trans v) _ _ aL) ((s9.trans v) _ _ aM)
   . refine λi bd σ b1 hy ae=>AM λNz u=>?_
     obtain⟨a0,d,g,rfl,L,h,j,l,y⟩:=ae;refine u ?_;clear u;refine GL ?_;intro Nx Cy;obtain⟨c,C,rfl⟩:=getm hy;refine AR ?_;cbv;have ao:=az L;have af:(d.map V.ref).length=(BZ ns i).length:=(by rw[Ak,j.len]);have a1:(g.map V.ref).length=(FO ns i).length:=(by rw[Ak,y.len]);have b6:=(RG ns i).2;have q6:(FO ns i).length<=6:=by rw[Y7];lia
     refine Hh (λσ' b=>∃d,σ'=[some (.ref a),some (.ref N),some (.ref ag),some (.ref t),some (.int (FF ns 7)),some (.int (BF ns)),some (.ref X),some (.ref T),some (.ref R),some (.int (BL ns)),some (.int c),none]/\Keeps (λx=>x=T\/x=R) ak b/\b T=some (.lst (d.map V.ref))/\GT b d (BZ ns (i+1))/\b R=some (.lst (g.map V.ref))/\QT b g (FO ns i)) ?_ (λNX a2=>?_);rotate_left
     . have no:¬(c%8=6/\(BZ ns i).length<6)->BZ ns (i+1)=BZ ns i:=λz=>by rw[Y5 C];exact An z
       refine⟨(by show(0:Int)<8;decide),rfl,rfl,Am (λI=>?_) (λI=>?_)⟩;rotate_left;refine a2 _ _ ⟨d,rfl,L,h,?_,l,y⟩;rw[no λz=>I (Ba (by show V.int (c%8)=V.int 6;rw[z.1]))];exact j;have a3:c%8=6:=V.int.inj (Bm I);refine⟨_,Or.inl ⟨_,Ae.of h,rfl⟩,rfl,Am (λJ=>?_) (λJ=>?_)⟩;rotate_left;refine a2 _ _ ⟨d,rfl,L,h,?_,l,y⟩;rw[no λz=>J (Ba (by rw[af];exact Int.ofNat_lt.mpr z.2))];exact j
       have a4:(BZ ns i).length<6:=by
        have:=Bm J;rw[af] at this;exact Int.ofNat_lt.mp this
       refine⟨Or.inl ⟨rfl,_,Ae.of h⟩,⟨by decide,by decide⟩,c/8,BF ns,BL ns,rfl,U.1,z2.1,λtp al bO r b2=>?_⟩;have aV:=r _ _ h;have kT:Keeps (·=T) al (upd al T (.lst (d.map V.ref++[.ref tp]))):=Keeps.one aV;refine⟨_,aV,by rw[af];exact BK (by lia),a2 _ _ ⟨d++[tp],rfl,(L.same r).set (.inl rfl),by rw[Aa,Bk];rfl,?_,kT.at_ _ _ (r _ _ l) (Ne.symm aO),(y.same r).keeps kT⟩⟩;rw[Y5 C,show LG (BF ns) (BL ns) (BZ ns i) c=BZ ns i++[Nn (BF ns) (BL ns) (c/8)] from Al ⟨a3,a4⟩];exact((j.same r).snoc b2).keeps kT
     refine λσ' al ae=>AM λNz u=>?_;obtain⟨d,rfl,an,h,j,l,y⟩:=ae;refine u ?_;clear u;have O:=az an;have no:¬(c%8=7/\(FO ns i).length<6)->FO ns (i+1)=FO ns i:=λz=>by rw[Y6 C];exact An z
     refine⟨(by show(0:Int)<8;decide),rfl,rfl,Am (λI=>?_) (λI=>?_)⟩;rotate_left;refine⟨_,d,g,rfl,an,h,j,l,?_⟩;rw[no λz=>I (Ba (by show V.int (c%8)=V.int 7;rw[z.1]))];exact y;have a3:c%8=7:=V.int.inj (Bm I);refine⟨_,Or.inl ⟨_,Ae.of l,rfl⟩,rfl,Am (λJ=>?_) (λJ=>?_)⟩;rotate_left;refine⟨_,d,g,rfl,an,h,j,l,?_⟩;rw[no λz=>J (Ba (by rw[a1];exact Int.ofNat_lt.mpr z.2))];exact y
     have a4:(FO ns i).length<6:=by
      have:=Bm J;rw[a1] at this;exact Int.ofNat_lt.mp this
     refine⟨Or.inl ⟨rfl,_,Ae.of l⟩,⟨by decide,by decide⟩,Or.inr (Or.inl ⟨_,.ref a9,Ar.of (O _ _ et),rfl,_,Or.inl ⟨_,Ae.of (O _ _ aJ),rfl⟩,c/8,N,Er ns,BF ns,(tu.map V.ref).length,rfl,Ae.of ((W.trans O) _ _ aw),Oi _ _,U.1,by lia,λaP bP a5 r aW aX=>?_⟩)⟩;rw[aK] at aW aX;have aY:=r _ _ l;have kR:Keeps (·=R) a5 (upd a5 R (.lst (g.map V.ref++[.ref aP]))):=Keeps.one aY;refine⟨_,aY,by rw[a1];exact BK (by lia),⟨_,d,g++[aP],rfl,(an.same r).set (.inr rfl),kR.at_ _ _ (r _ _ h) aO,(j.same r).keeps kR,by rw[Aa,Bk];rfl,?_⟩⟩;rw[Y6 C,show KI (Er ns) (BF ns) (DJ ns) (FO ns i) c=FO ns i++[DH (Er ns) (BF ns) (DJ ns) (c/8)] from Al ⟨a3,a4⟩];exact((y.same r).snoc aW aX).keeps kR
   refine λσ b1 ae=>AM λNz u=>?_;obtain⟨a0,d,g,rfl,L,h,j,l,y⟩:=ae;refine u ?_;clear u;rw[Ak] at j y;have ao:=az L;have bA:=ai.trans ao;have b3:=RG ns (Cj ns).length;have af:(d.map V.ref).length=(BZ ns (Cj ns).length).length:=(by rw[Ak,j.len]);have bB:=L.at_ _ _ a8 λz=>z.elim aT aU;refine⟨_,Or.inl ⟨_,Ae.of h,rfl⟩,Cr,λbe hZ=>?_⟩;rw[af];obtain⟨al,bC,a6,eZ⟩:=new_at (o:=.tup [.int (BZ ns (Cj ns).length).length,.int (BL ns)]) hZ;rw[<-bC];have O:=ao.trans a6;refine⟨X,ag,N,be,Cj ns,Nu ns,Er ns,BF ns,(BZ ns (Cj ns).length).length,BL ns,rfl,Ae.of (a6 _ _ bB),bq,Ae.of ((W.trans O) _ _ aE),Oi _ _,Ae.of ((W.trans O) _ _ aw),Oi _ _,Ar.of eZ,U.1,U.2,b3.1,z2.1,λaA us Gs Es a5 b4 SC=>?_⟩;refine AR ?_;cbv;have bE:=a6.trans b4;refine⟨JQ,λnt b5=>?_⟩;obtain⟨bQ,bD,b7,b8⟩:=new_at (o:=.tup [.ref aA,.ref T,.ref R]) b5;rw[<-bD];refine⟨Cr,λbf hr=>?_⟩;have aQ:=Bb (o:=.tup [.ref nt,.ref t]) hr;have aZ:=b7.trans aQ;have Q:=bE.trans aZ;exact q bf nt t aA T R us Gs Es d g _ _ _ bm bn bo _ (bA.trans Q) Aa (aQ _ _ b8) ⟨SC.same aZ,Q _ _ h,j.same Q,Q _ _ l,y.same Q⟩ (TB.same (ao.trans Q)) ⟨rfl,rfl,rfl,aF⟩
inductive DK (K:Ah) (vs:List V) (H:Hp) (Q:VK):Prop where
 |mk (t a o:Addr) (inn:V) (ss:List Cu) (n:Int) (k:Nat) (s:Cu) (x:Str) (h0:vs=[.ref t,.int n,.str x]) (h1:n=k) (h2:Ar K H t [.ref a,inn,.ref o]) (h3:HQ K H a ss) (h4:ss[k]?=some s) (h5:Q (En (Ez s.1 x)) H):DK K vs H Q
def jO (K:Ah):Sp:=λvs H Q _=>DK K vs H Q
abbrev RJ(P w K mg base):=BB P w K mg base "next_state" 1 ["table", "state", "label"] (jO K)
theorem jP(B:BC mg)(F:Bp K "next_state" "next_state" Se f fd)(D:mg "next_state" = some (.ref f)):RJ P w K mg base:=by
 refine BO F D Rq (λl H Q E h=>?_) (λae A af s H l Q E hr h=>?_);obtain⟨t,a,o,U,ss,n,k,s,x,rfl,_⟩:=h;rfl;obtain⟨t,a,o,U,ss,n,k,s,x,rfl,rfl,G,⟨l,I,J⟩,L,q⟩:=h;obtain⟨aa,M,W⟩:=J.get' (i:=k) (d:=Lf s) (by rw[A8,L];rfl);obtain⟨N,g,e,rfl,X,⟨O,u,C⟩,he⟩:=F0 W;have Y:=C.len_map
 refine⟨_,(Ao (AL (i:=3) Rq.nd (Ax Ay (Ax Ay (Ax Ay (pv 0) Ai) (pv 1)) Ai))
  (Ao (CG Cn rfl (Dk (pv 3)) (Cp (n:=2) rfl (AH (Az (i:=4) Rq.nd) (AH (Az (i:=5) Rq.nd) Co))) (As (Bc (Bv CJ (pv 4) (pv 2) (Bs _)) (As (AK (pv 5))) Bg)))
  (As (AK Gv)))),?_⟩
 rfl';refine Or.inr (Or.inl ⟨_,.ref a,G,rfl,?_⟩);refine Or.inl ⟨l,.ref N,I,BQ M,?_⟩;refine Or.inr (Or.inl ⟨_,.ref g,X,rfl,?_⟩);refine⟨⟨_,u⟩,EU (xs:=O) (λi σ v=>∃m r,σ=[some (.ref t),some (.int k),some (.str x),some (.ref g),m,r]/\v=H/\∀q∈s.1.take i,q.1≠x) ⟨none,none,rfl,rfl,λq b=>by simp at b⟩ (λi σ v _ Z=>by obtain⟨_,_,_,e,_⟩:=Z;exact by rw[e];exact u) ?_ ?_⟩;rintro i ab σ R S ⟨m,r,rfl,rfl,j⟩;obtain⟨p,t',y,rfl,T⟩:=C.goes_get S;refine⟨_,T,rfl,?_⟩;refine⟨rfl,rfl,?_⟩;refine Am (λc=>?_) (λc=>?_);have c:p.1=x:=V.str.inj (Bm c);rw[HY y c j] at q;exact q;have c:p.1≠x:=λz=>c (Ba (by rw[z]));refine⟨_,_,rfl,rfl,λq b=>?_⟩;rw[D0,y] at b;rcases BI.mp b with b|b;exact j q b;rw[AW.mp b];exact c;rintro σ R ⟨m,r,rfl,rfl,j⟩;rw[Y,Et] at j;rw[W6 j] at q;exact q
inductive Ck (K:Ah) (vs:List V) (H:Hp) (Q:VK):Prop where
 |mk (t S T R A:Addr) (ths:List (Str×Int)) (as:List (C')) (n:Int) (k:Nat) (h0:vs=[.ref t,.ref A,.int n]) (h1:n=k) (h2:k<as.length) (h3:Ar K H t [.ref S,.ref T,.ref R]) (h4:Do K H T ths) (h5:Hl K H A as) (h6:Fb ths as) (h7:∀(r:Addr)(H':Hp),H r=none->Ac H H'->H' r=some (.tup [.str (DS ths as n).1,.int (DS ths as n).2])->Q (.ref r) H'):Ck K vs H Q
def jQ (K:Ah):Sp:=λvs H Q _=>Ck K vs H Q
abbrev VC(P w K mg base):=BB P w K mg base "inside_of_sort" 1 ["net", "answers", "question"] (jQ K)
def jR(B:BC mg)(F:Bp K "inside_of_sort" "inside_of_sort" Sf f fd)(c:mg "inside_of_sort" = some (.ref f)):VC P w K mg base:=by
 refine BO F c Rr (λg H Q E h=>?_) (λaa A ab s H g Q E a h=>?_);obtain⟨t,S,T,R,A,e,x,n,k,rfl,_⟩:=h;rfl;obtain⟨t,S,T,R,A,e,x,n,k,rfl,rfl,y,C,D,G,ok,q⟩:=h;obtain⟨g,v,N,I,L⟩:=G.get y
 refine⟨_,(Ao (AL (i:=3) Rr.nd (Ax Ay (pv 1) (pv 2)))
  (Ao (Bc (ET (GW (pv 3))) (As (AK (BE (Ab B8 (Ab (pv 2) Af))))) Bg)
  (Ao (Bc (Bv CJ (Ax Ay (pv 3) Ai) B8 (Bs _)) (Ao (D6 (Ax Ay (Ax Ay (pv 0) Ai) (Ax Ay (pv 3) Ai)) (Cp (n:=2) rfl (AH (Az (i:=4) Rr.nd) (AH (Az (i:=5) Rr.nd) Co))))
   (As (Bc (Bv CJ (pv 4) B8 (Bs _)) (As (AK (BE (Ab B8 (Ab (pv 5) Af))))) Bg))) Bg)
  (As (AK (BE (Ab B8 (Ab Ai Af)))))))),?_⟩
 rfl';refine Or.inl ⟨g,v,N,BQ I,?_⟩;rcases L with⟨b,rfl⟩|⟨p,Z,b,rfl,u⟩;refine⟨rfl,Am (λ_=>?_) (λh=>absurd (Ba rfl) h)⟩;refine⟨Cr,λr a=>?_⟩;rw[cH b] at q;exact q r _ a (Bb a) Aa;refine⟨rfl,Am (λh=>absurd (Bm h) (by simp)) (λ_=>?_)⟩;refine Or.inr (Or.inl ⟨_,.str p.1,u,rfl,rfl,rfl,Am (λh=>?_) (λh=>?_)⟩);have d:p.1=("thing" : Str):=V.str.inj (Bm h);obtain⟨M,p1⟩:=ok.t p (A9 b) d;obtain⟨m,c⟩:=Dx M;have O:m<e.length:=(by lia);have j:=AC O;obtain⟨J,o,U,W,X⟩:=D.get j;have Y:Bl J p.2=some (.ref o):=by rw[c];exact BQ W
 refine Or.inr (Or.inl ⟨_,.ref T,C,rfl,Or.inr (Or.inl ⟨_,.int p.2,u,rfl,Or.inl ⟨J,.ref o,U,Y,?_⟩⟩)⟩);refine⟨_,X,rfl,?_⟩;refine⟨rfl,rfl,Am (λh=>?_) (λh=>?_)⟩;have l:e[m].1=("part" : Str):=V.str.inj (Bm h);refine⟨Cr,λr a=>?_⟩;rw[cJ b d c j l] at q;exact q r _ a (Bb a) Aa;have l:e[m].1≠("part" : Str):=λz=>h (Ba (by rw[z]));refine⟨Cr,λr a=>?_⟩;rw[cK b d c j l] at q;exact q r _ a (Bb a) Aa;have d:p.1≠("thing" : Str):=λz=>h (Ba (by rw[z]));refine⟨Cr,λr a=>?_⟩;rw[cI b d] at q;exact q r _ a (Bb a) Aa
inductive Gc (K:Ah) (vs:List V) (H:Hp) (Q:VK):Prop where
 |mk (t S T R A:Addr) (ths:List (Str×Int)) (as:List (C')) (n:Int) (k:Nat) (p:Str×Int) (h0:vs=[.ref t,.ref A,.int n]) (h1:n=k) (h2:ths[k]?=some p) (h3:Ar K H t [.ref S,.ref T,.ref R]) (h4:Do K H T ths) (h5:Hl K H A as) (h6:Fb ths as) (h7:∀(r:Addr)(H':Hp),H r=none->Ac H H'->H' r=some (.tup [.str (C4 ths as p).1,.int (C4 ths as p).2])->Q (.ref r) H'):Gc K vs H Q
def jS (K:Ah):Sp:=λvs H Q _=>Gc K vs H Q
abbrev RK(P w K mg base):=BB P w K mg base "inside" 2 ["net", "answers", "thing"] (jS K)
def jT(B:BC mg)(C:VC P w K mg base)(F:Bp K "inside" "inside" Sg f fd)(g:mg "inside" = some (.ref f)):RK P w K mg base:=by
 refine BO F g Vh (λu H Q E h=>?_) (λM A N s H u Q E a h=>?_);obtain⟨t,S,T,R,A,c,b,n,k,p,rfl,_⟩:=h;rfl;obtain⟨t,S,T,R,A,c,b,n,k,p,rfl,rfl,j,l,o,v,ok,q⟩:=h;obtain⟨J,x,D,G,I⟩:=o.get j
 refine⟨_,(Ao (D6 (Ax Ay (Ax Ay (pv 0) Ai) (pv 2)) (Cp (n:=2) rfl (AH (Az (i:=3) Vh.nd) (AH (Az (i:=4) Vh.nd) Co))))
  (Ao (Bc (Bv CJ (pv 3) B8 (Bs _)) (As (AK (BE (Ab B8 (Ab (pv 4) Af))))) Bg)
  (Ao (Bc (Bv CJ (pv 3) B8 (Bs _)) (As (AK (A5 C (Ab (pv 0) (Ab (pv 1) (Ab (pv 4) Af)))))) Bg)
  (As (AK (BE (Ab B8 (Ab Ai Af)))))))),?_⟩
 rfl';refine Or.inr (Or.inl ⟨_,.ref T,l,rfl,Or.inl ⟨J,.ref x,D,BQ G,?_⟩⟩);refine⟨_,I,rfl,?_⟩;refine⟨rfl,rfl,Am (λh=>?_) (λh=>?_)⟩;have d:p.1=("part" : Str):=V.str.inj (Bm h);refine⟨Cr,λr a=>?_⟩
 rw[show C4 c b p=(("to" : Str),p.2) from Al d] at q
 exact q r _ a (Bb a) Aa;have d:p.1≠("part" : Str):=λz=>h (Ba (by rw[z]));refine⟨rfl,rfl,Am (λh=>?_) (λh=>?_)⟩;have e:p.1=("sort" : Str):=V.str.inj (Bm h)
 obtain⟨y,L⟩:=ok.q p (A9 j) e;obtain⟨m,g⟩:=Dx y;rw[show C4 c b p=DS c b p.2 from(An d).trans (Al e)] at q;exact⟨t,S,T,R,A,c,b,p.2,m,rfl,g,by lia,l,o,v,ok,q⟩
 have e:p.1≠("sort" : Str):=λz=>h (Ba (by rw[z]));refine⟨Cr,λr a=>?_⟩
 rw[show C4 c b p=(("no" : Str),0) from(An d).trans (An e)] at q
 exact q r _ a (Bb a) Aa
inductive IL (K:Ah) (vs:List V) (H:Hp) (Q:VK):Prop where
 |mk (t S T R A st:Addr) (ths:List (Str×Int)) (as:List (C')) (p:B9) (h0:vs=[.ref t,.ref A,.ref st]) (h1:Ar K H t [.ref S,.ref T,.ref R]) (h2:Do K H T ths) (h3:Hl K H A as) (h4:Fb ths as) (h5:Ar K H st (G2 p)) (h6:(p.2.1≠("to" : Str)->0<=p.2.2/\p.2.2<as.length)) (h7:∀(r:Addr)(H':Hp),H r=none->Ac H H'->H' r=some (.tup [.str (BJ ths as p).1,.int (BJ ths as p).2])->Q (.ref r) H'):IL K vs H Q
def KL (K:Ah):Sp:=λvs H Q _=>IL K vs H Q
abbrev VD(P w K mg base):=BB P w K mg base "goal" 3 ["net", "answers", "step"] (KL K)
def jU(B:BC mg)(U:RK P w K mg base)(F:Bp K "goal" "goal" Sh f fd)(e:mg "goal" = some (.ref f)):VD P w K mg base:=by
 refine BO F e PK (λg H Q E h=>?_) (λaa A ab s H g Q E a h=>?_);obtain⟨t,S,T,R,A,D,o,u,p,rfl,_⟩:=h;rfl;obtain⟨t,S,T,R,A,D,o,u,p,rfl,G,I,x,ok,W,J,q⟩:=h
 refine⟨_,(Ao (D6 (pv 2) (Cp (n:=3) rfl (AH (Az (i:=3) PK.nd) (AH (Az (i:=4) PK.nd) (AH (Az (i:=5) PK.nd) Co)))))
  (Ao (Bc (Bv CJ (pv 4) B8 (Bs _)) (As (AK (BE (Ab B8 (Ab (pv 5) Af))))) Bg)
  (Ao (AL (i:=6) PK.nd (Ax Ay (pv 1) (pv 5)))
  (Ao (Bc (ET (GW (pv 6))) (As (AK (BE (Ab B8 (Ab (pv 5) Af))))) Bg)
  (Ao (Bc (Bv CJ (Ax Ay (pv 6) Ai) B8 (Bs _)) (As (AK (A5 U (Ab (pv 0) (Ab (pv 1) (Ab (Ax Ay (pv 6) Ai) Af)))))) Bg)
  (As (AK (BE (Ab B8 (Ab Ai Af)))))))))),?_⟩
 rfl';refine⟨_,W,rfl,?_⟩;refine⟨rfl,rfl,Am (λh=>?_) (λh=>?_)⟩;have b:p.2.1=("to" : Str):=V.str.inj (Bm h);refine⟨Cr,λr a=>?_⟩;rw[cM b] at q;exact q r _ a (Bb a) Aa;have b:p.2.1≠("to" : Str):=λz=>h (Ba (by rw[z]));obtain⟨L,Z⟩:=J b;obtain⟨n,j⟩:=Dx L;obtain⟨g,v,X,M,N⟩:=x.get (k:=n) (by lia);have Y:Bl g p.2.2=some v:=by rw[j];exact BQ M
 refine Or.inl ⟨g,v,X,Y,?_⟩;rcases N with⟨d,rfl⟩|⟨c,ta,d,rfl,y⟩;refine⟨rfl,Am (λ_=>?_) (λh=>absurd (Ba rfl) h)⟩;refine⟨Cr,λr a=>?_⟩;rw[cN b j d] at q;exact q r _ a (Bb a) Aa;refine⟨rfl,Am (λh=>absurd (Bm h) (by simp)) (λ_=>?_)⟩;refine Or.inr (Or.inl ⟨_,.str c.1,y,rfl,rfl,rfl,Am (λh=>?_) (λh=>?_)⟩);have l:c.1=("thing" : Str):=V.str.inj (Bm h);obtain⟨O,q1⟩:=ok.t c (A9 d) l;obtain⟨m,e⟩:=Dx O;have C:=AC (show m<o.length by lia);rw[cP b j d l e C] at q;exact Or.inr (Or.inl ⟨_,.int c.2,y,rfl,t,S,T,R,A,o,u,c.2,m,_,rfl,e,C,G,I,x,ok,q⟩);have l:c.1≠("thing" : Str):=λz=>h (Ba (by rw[z]));refine⟨Cr,λr a=>?_⟩;rw[cO b j d l] at q;exact q r _ a (Bb a) Aa
def KN:([]:List V).length+1+1+1+1<=sizeLine:=by decide
variable {W:Wd}
def jV{k:Nat}(h:W.sts[k]?=some s):D8 W (k:Int)=s.1:=by unfold D8;rw[Bo,h]
def jW{k:Nat}{s:Bh}(h:W.ss[k]?=some s):BV W (k:Int)=s.1:=by unfold BV;rw[Bo,h]
def jX{b:Int}{go:List (Str×Int)}{p:B9}{a:Int}(h:Ez go p.1=some a):Fe W b go p i=[((b,("step" : Str),(i:Int)),BJ W.gs W.as p,a)]:=by unfold Fe;rw[h]
def jY{a:Int}{go:List (Str×Int)}{p:B9}(h:Ez go p.1=none):Fe W a go p i=[]:=by unfold Fe;rw[h]
inductive DL (K:Ah) (vs:List V) (H:Hp) (Q:VK):Prop where
 |mk (nt A t:Addr) (W:Wd) (sc st:Int) (h0:vs=[.ref nt,.ref A,.ref t,.int sc,.int st]) (h1:Bw K H nt A t W) (h2:BS W) (h3:(0<=sc/\sc<W.ss.length)) (h4:(0<=st/\st<W.sts.length)) (h5:∀(D:Addr)(zs:List (Addr×Gn))(H':Hp),H D=none->Ac H H'->H' D=some (.lst (zs.map λz=>V.ref z.1))->(∀z∈zs,Lh H' z.1 z.2)->zs.map (·.2)=GI W sc st->Q (.ref D) H'):DL K vs H Q
def jZ (K:Ah):Sp:=λvs H Q _=>DL K vs H Q
abbrev RL(P w K mg base):=BB P w K mg base "steps_gone" 4 ["net", "answers", "table", "scope", "state"] (jZ K)
theorem j3(B:BC mg)(a0:RJ P w K mg base)(a1:VD P w K mg base)(F:Bp K "steps_gone" "steps_gone" Si f fd)(d:mg "steps_gone" = some (.ref f)):RL P w K mg base:=by
 refine BO F d Nb (λvs aa an ao h=>?_) (λaN A aP s aa vs an ao hr h=>?_);obtain⟨E,A,t,W,sc,ax,rfl,_⟩:=h;rfl
 . obtain⟨E,A,t,W,sc,ax,rfl,G,ok,a2,a3,aq⟩:=h
   obtain⟨ab,ar,au,us,Gs,Es,ts,qt,qs,eN,y⟩:=G.net;obtain⟨a,o,a4,b1,av,b2,b3⟩:=G.tab;obtain⟨n,hn⟩:=Dx a2.1;obtain⟨k,hk⟩:=Dx a3.1;subst hn hk;have T:n<W.ss.length:=(by lia);have a5:k<W.sts.length:=(by lia);obtain⟨ae,ag,E1,ay,aL,aM,g4,⟨c0,⟨tG,c1,H⟩,_⟩⟩:=y.sc.get T;have ah:=AC a5;have l:=jW g4;have eG:=jV ah;have a6:Bl (us.map V.ref) (n:Int)=some (.ref ae):=BQ (by rw[A8,ay];rfl);have aO:=ok.st _ (EC T)
   refine⟨_,(Ao (AL (i:=5) Nb.nd (Cq Af))
    (Ao (CG Cn rfl (N5 LK rfl B.b_enumerate (Ab (Ax Ay (Ax Ay (Ax Ay (pv 0) Ai) (pv 3)) Ai) Af)) (Cp (n:=2) rfl (AH (Az (i:=6) Nb.nd) (AH (Az (i:=7) Nb.nd) Co))) (Ao (AL (i:=8) Nb.nd (A5 a0 (Ab (pv 2) (Ab (pv 4) (Ab (Ax Ay (pv 7) Ai) Af)))))
     (As (Bc (ET (IU (pv 8))) (Ao (D6 (A5 a1 (Ab (pv 0) (Ab (pv 1) (Ab (pv 7) Af)))) (Cp (n:=2) rfl (AH (Az (i:=9) Nb.nd) (AH (Az (i:=10) Nb.nd) Co))))
      (As (C8 (C3 C0 Ev Ew Ex (pv 5) (Ab (BE (Ab (BE (Ab (pv 3) (Ab B8 (Ab (pv 6) Af)))) (Ab (pv 9) (Ab (pv 10) (Ab (pv 8) Af))))) Af))))) Bg))))
    (As (AK (pv 5))))),?_⟩
   rfl';refine⟨by decide,λD I=>?_⟩;obtain⟨aI,a7,q,a8⟩:=new_at (o:=.lst []) I;rw[<-a7];refine Or.inr (Or.inl ⟨_,.ref ab,Ar.of (q _ _ eN),rfl,Or.inl ⟨_,.ref ae,Ae.of (q _ _ y.sc.top),a6,Or.inr (Or.inl ⟨_,.ref ag,Ar.of (q _ _ c0),rfl,ag,rfl,⟨_,q _ _ c1⟩,?_⟩)⟩⟩)
   refine Q0 LK (xs:=tG.map V.ref) (λi σ C=>∃J L M N U c,σ=[some (.ref E),some (.ref A),some (.ref t),some (.int n),some (.int k),some (.ref D),J,L,M,N,U]/\Ac aa C/\C D=some (.lst (c.map λz:Addr×Gn=>V.ref z.1))/\(∀z∈c,Lh C z.1 z.2)/\c.map (·.2)=EA W n (D8 W k) ((BV W n).take i) 0)
    ⟨none,none,none,none,none,[],rfl,q,a8,λz g=>by simp at g,by rw[EE];rfl⟩ (λi σ C a9=>by obtain⟨_,_,_,_,_,_,_,s,_⟩:=a9;exact Ae.of (s _ _ c1)) ?_ ?_
   rotate_left;refine λσ H2 X=>AM λNz u=>?_;obtain⟨J,L,M,N,U,c,rfl,O,v,g,d⟩:=X;refine u ?_;clear u;refine aq D c H2 I O v g ?_;rw[d,Ak,H.len,l,Et];unfold GI;rw[l];refine λi x T' σ H2 hx aA X=>AM λNz u=>?_;obtain⟨J,L,M,N,U,c,rfl,O,v,g,d⟩:=X;refine u ?_;clear u;obtain⟨Q,ai,rfl⟩:=getm hx;have aj:i<W.ss[n].1.length:=by rw[<-H.len];exact(AY.mp ai).1
   have R:=AC aj;have Y:=H.at_ i Q _ ai R;have mp:=EC aj;generalize W.ss[n].1[i]=p at R Y mp;obtain⟨H3,aB,j,aC⟩:=new_at (o:=.tup [.int i,.ref Q]) aA;rw[<-aB];have b:=O.trans j
   have ak:EA W n (D8 W k) ((BV W n).take (i+1)) 0=EA W n (D8 W k) ((BV W n).take i) 0++Fe W n (D8 W k) p i:=by
    rw[D0,l,R];show EA W n (D8 W k) (W.ss[n].1.take i++[p]) 0=_;rw[W7,FP,Nat.zero_add,Nat.min_eq_left (by lia)]
   refine⟨_,Ar.of aC,rfl,?_⟩;refine Or.inr (Or.inl ⟨_,.str p.1,Ar.of (b _ _ Y),rfl,t,a,o,a4,W.sts,k,k,_,p.1,rfl,rfl,b.seqT b1,⟨av,b.seq b2,b3.same b⟩,ah,?_⟩);rw[<-eG]
   cases eg:Ez (D8 W k) p.1 with
   |none =>
     refine⟨rfl,Am (λh=>absurd h (by simp[En])) (λ_=>?_)⟩;refine⟨_,_,_,_,_,c,rfl,b,j _ _ v,λz h=>(g z h).same j,?_⟩;rw[ak,jY eg,E7,d]
   |some af =>
     refine⟨rfl,Am (λ_=>?_) (λh=>absurd (by simp[En]) h)⟩;refine⟨E,ab,ar,au,A,Q,W.gs,W.as,p,rfl,Ar.of (b _ _ eN),⟨_,Ae.of (b _ _ y.et),(y.tg.same b).dts⟩,G.ans.same b,ok.net,Ar.of (b _ _ Y),λe=>ok.by_ (EC T) mp e,λaJ H4 hr s4 er=>?_⟩;refine⟨_,Ar.of er,rfl,?_⟩;have aD:=s4 _ _ (j _ _ v);refine⟨Or.inl ⟨rfl,_,Ae.of aD⟩,JQ,λm aE=>?_⟩;obtain⟨H5,aF,s5,az⟩:=new_at (o:=.tup [.int n,.str "step",.int i]) aE;rw[<-aF];refine⟨KN,λz aG=>?_⟩;obtain⟨H6,aH,s6,ez⟩:=new_at (o:=.tup [.ref m,.str (BJ W.gs W.as p).1,.int (BJ W.gs W.as p).2,En (some af)]) aG;rw[<-aH];have Z:=(s4.trans s5).trans s6;have al:=Z _ _ (j _ _ v);have S:Keeps (·=D) H6 (upd H6 D (.lst (c.map (λz=>V.ref z.1)++[.ref z]))):=Keeps.one al
     have lz:c.length<=8:=by
      have e1:=Bq List.length d;have e2:=MC W n (D8 W k) ((BV W n).take i) 0;rw[FP,l] at e2;rw[Ak] at e1;rw[l] at e1;lia
     refine⟨_,al,by rw[Ak];exact BK (by lia),?_⟩;refine⟨_,_,_,_,_,c++[(z,(((n:Int),("step" : Str),(i:Int)),BJ W.gs W.as p,af))],rfl,λaK o e=>?_,by rw[Aa,Bk];rfl,λaw r=>?_,?_⟩;rw[AD (AX e I)];exact Z _ _ (b _ _ e);rcases BI.mp r with r|r;exact((g aw r).same (j.trans Z)).keeps S;rw[AW.mp r];exact⟨m,S.tup ez,S.tup (s6 _ _ az)⟩;rw[ak,jX eg,Bk,d];rfl
variable {b:AO}
def j6{r:Gn}(a:r.2.1.1=("to" : Str))(c:r.2.1.2∉AU b):kid b r=some (b.1++[r.1],r.2.1.2,r.2.2):=Al ⟨a,c⟩
def j7{r:Gn}(h:¬(r.2.1.1=("to" : Str)/\r.2.1.2∉AU b)):kid b r=none:=An h
def KO{α β:Type}(f:α->Option β)(l:List α)(x:α):(l++[x]).filterMap f=l.filterMap f++(f x).toList:=by
 rw[List.filterMap_append];cases e:f x<;>simp[e]
def j8(b:AO):(AU b).length=b.1.length+1:=by unfold AU;simp
inductive B0 (K:Ah) (vs:List V) (H:Hp) (Q:VK):Prop where
 |mk (nt A t bt:Addr) (W:Wd) (b:AO) (h0:vs=[.ref nt,.ref A,.ref t,.ref bt]) (h1:Bw K H nt A t W) (h2:BS W) (h3:Cg W b) (h4:(∃F,DU F H bt b)) (h5:∀(D:Addr)(zs:List (Addr×AO))(H':Hp),H D=none->Ac H H'->H' D=some (.lst (zs.map λz=>V.ref z.1))->(∀z∈zs,DU (λl=>H l=none/\l≠D) H' z.1 z.2)->zs.map (·.2)=CC W b->Q (.ref D) H'):B0 K vs H Q
def j9 (K:Ah):Sp:=λvs H Q _=>B0 K vs H Q
abbrev VE(P w K mg base):=BB P w K mg base "longer_by_a_step" 5 ["net", "answers", "table", "beginning"] (j9 K)
def kA(B:BC mg)(a2:RL P w K mg base)(F:Bp K "longer_by_a_step" "longer_by_a_step" Qj f fd)(d:mg "longer_by_a_step" = some (.ref f)):VE P w K mg base:=by
 refine BO F d Jj (λvs H ax ay h=>?_) (λaK A aO s H vs ax ay hr h=>?_);obtain⟨nt,A,t,bt,W,b,rfl,_⟩:=h;rfl
 . obtain⟨nt,A,t,bt,W,b,rfl,hC,ok,U,⟨F,l,g,E,q,j,_⟩,az⟩:=h
   have aL:g.length<=100:=by
    have:=HZ W.ss.length (AU b) U.nd U.rng;rw[j8] at this;have:=ok.s5;rw[j.len];lia
   have a3:=U.rng b.2.1 (by unfold AU;simp)
   refine⟨_,(Ao (D6 (pv 3) (Cp (n:=3) rfl (AH (Az (i:=4) Jj.nd) (AH (Az (i:=5) Jj.nd) (AH (Az (i:=6) Jj.nd) Co)))))
    (Ao (AL (i:=7) Jj.nd (AE OT (Hg (te:=IX (OQ K) (C1 0) (tC (.int ((0:Nat):Int)))) rfl BH (Dk (pv 4)) (λ_ _ _ _ _=>(Az (i:=0) BH.nd)) (λ_ _ _ _ _=>Ja) (λ_ _ _ _ _=>(Ax Ay (pv 0) Ai))) (Cq (Ab (pv 5) Af))))
    (Ao (AL (i:=8) Jj.nd (Cq Af))
    (Ao (CG Cn rfl (Dk (A5 a2 (Ab (pv 0) (Ab (pv 1) (Ab (pv 2) (Ab (pv 5) (Ab (pv 6) Af))))))) (Cp (n:=4) rfl (AH (Az (i:=9) Jj.nd) (AH (Az (i:=10) Jj.nd) (AH (Az (i:=11) Jj.nd) (AH (Az (i:=12) Jj.nd) Co))))) (As (Bc (PW.pt (GY (Bv CJ (pv 10) B8 (Bs _)) (GX (Bv (T4 hr.units) (pv 11) (pv 7) (by with_unfolding_all rfl))))) (As (C8 (C3 C0 Ev Ew Ex (pv 8) (Ab (BE (Ab (AE OT (pv 4) (Cq (Ab (pv 9) Af))) (Ab (pv 11) (Ab (pv 12) Af)))) Af)))) Bg)))
    (As (AK (pv 8))))))),?_⟩
   rfl';refine⟨_,Ar.of E,rfl,?_⟩
   refine⟨⟨_,Ae.of q⟩,T6 (xs:=g.map V.ref) (λD i J p=>Ac H p/\p D=some (.lst J)/\J=(b.1.take i).map λm=>V.int m.1)
    (λD r=>⟨Bb r,Aa,by rw[EE];rfl⟩) (λD i J p af=>by obtain⟨s,_⟩:=af;exact Ae.of (s _ _ q)) (λD i x J H2 RR r M hv k=>?_) (λa0 J aH aM hv=>?_)⟩
   obtain⟨N,eD,rfl⟩:=hv;obtain⟨tm,ao,rfl⟩:=getm M;have a4:i<b.1.length:=by rw[<-j.len];exact(AY.mp ao).1
   have d:=AC a4;have a5:=j.at_ i tm _ ao d;have aa:b.1.take (i+1)=b.1.take i++[b.1[i]]:=by rw[D0,d];rfl
   have a6:=j.len;refine Or.inr (Or.inl ⟨_,.int b.1[i].1,Ar.of (N _ _ a5),rfl,?_⟩);refine k _ _ eD (by rw[Ak,FP];exact BK (by lia)) ⟨λx o e=>?_,Aa,by rw[aa,Bk];rfl⟩;rw[AD (AX e r)];exact N _ _ e;obtain⟨s1,eC,rfl⟩:=hv;rw[Ak,j.len,Et] at eC;refine⟨Hk,λC2 a7=>?_⟩;obtain⟨H2,a8,N,a9⟩:=new_at (o:=.lst [.int b.2.1]) a7;rw[<-a8];have a6:=j.len;refine⟨a0,C2,_,_,rfl,rfl,N _ _ eC,a9,?_,λB hB=>?_⟩;rw[Ak];exact CI (BK (by show b.1.length+1<=1000;lia));have s3:=Bb (o:=.lst ((b.1.map λm=>V.int m.1)++[.int b.2.1])) hB
   have X:(upd H2 B (.lst ((b.1.map λm=>V.int m.1)++[.int b.2.1]))) B=some (.lst ((AU b).map V.int)):=by
    rw[Aa];unfold AU
    simp
   generalize upd H2 B (.lst ((b.1.map λm=>V.int m.1)++[.int b.2.1]))=H3 at s3 X ⊢;have aq:=(s1.trans N).trans s3;refine⟨by decide,λD r=>?_⟩;have ab:H D=none:=aq.free r;obtain⟨H4,aA,s4,ag⟩:=new_at (o:=.lst []) r;rw[<-aA];have ar:=aq.trans s4;refine⟨nt,A,t,W,b.2.1,b.2.2,rfl,hC.same ar,ok,a3,U.st,λaI u H5 hG Y eG aB au=>⟨⟨_,Ae.of eG⟩,?_⟩⟩;have ae:=ar.trans Y
   have aN:u.length<=8:=by
    have E:=Bq List.length au;have q:=MC W b.2.1 (D8 W b.2.2) (BV W b.2.1) 0;have j:=QM ok b.2.1;rw[Ak] at E;unfold GI at E;lia
   refine EU (xs:=u.map λz=>V.ref z.1) (λi σ p=>∃u9 ah ai aj a,σ=[some (.ref nt),some (.ref A),some (.ref t),some (.ref bt),some (.ref l),some (.int b.2.1),some (.int b.2.2),some (.ref B),some (.ref D),u9,ah,ai,aj]/\Keeps (·=D) H5 p/\p D=some (.lst (a.map λz:Addr×AO=>V.ref z.1))/\(∀z∈a,DU (λl=>H l=none/\l≠D) p z.1 z.2)/\a.map (·.2)=((u.map (·.2)).take i).filterMap (kid b))
    ⟨none,none,none,none,[],rfl,Keeps.refl λx o m e=>by rw[m,Y _ _ ag] at e;exact⟨_,(Bz e).symm⟩,Y _ _ ag,λz v=>by simp at v,by rw[EE];rfl⟩ (λi σ p _ af=>by obtain⟨_,_,_,_,_,_,k,_⟩:=af;exact Ae.of (k.at_ _ _ eG λz=>by rw[z,ag] at hG;cases hG)) ?_ ?_
   rotate_left;refine λσ H6 I=>AM λNz S=>?_;obtain⟨u9,ah,ai,aj,a,rfl,c,C,v,d⟩:=I;refine S ?_;clear S;refine az D a H6 ab (λx o e=>?_) C v ?_;exact c.at_ _ _ (ae _ _ e) (AX e ab);rw[d,Ak,<-Ak (f:=(·.2)),Et,au];rfl;refine λi x σ H6 M I=>AM λNz S=>?_;obtain⟨u9,ah,ai,aj,a,rfl,c,C,v,d⟩:=I;refine S ?_;clear S;refine GL ?_;intro Nx Cy;obtain⟨z,I,rfl⟩:=getm M;obtain⟨m,ak,al⟩:=aB z (A9 I);have ak:=c.tup ak;have al:=c.tup al
   have aa:((u.map (·.2)).take (i+1)).filterMap (kid b)=((u.map (·.2)).take i).filterMap (kid b)++(kid b z.2).toList:=by
    rw[D0,A8,I];exact KO _ _ _
   have lz:a.length<=8:=by
    have E:=Bq List.length d;have q:=List.length_filterMap_le (kid b) ((u.map (·.2)).take i);rw[FP,Ak] at q;rw[Ak] at E;lia
   refine⟨_,Ar.of ak,rfl,?_⟩
   have skip:¬(z.2.2.1.1=("to" : Str)/\z.2.2.1.2∉AU b)->a.map (·.2)=((u.map (·.2)).take (i+1)).filterMap (kid b):=λhn=>by
    rw[aa,j7 hn,d];simp
   have aC:=c.at_ _ _ ((s4.trans Y) _ _ X) (λz=>by rw[z,r] at X;cases X);refine⟨rfl,rfl,Am (λO=>?_) (λO=>A7 ?_)⟩;rotate_left;exact⟨_,_,_,_,a,rfl,c,C,v,skip λh=>O (Ba (by rw[h.1]))⟩;have O:z.2.2.1.1=("to" : Str):=V.str.inj (Bm O);refine⟨2,.int z.2.2.1.2,(AU b).map Dt.int,B,_,λaJ hd=>?_,by decide,.int _,rfl,Ae.of aC,ME _,rfl,Am (λG=>?_) (λG=>?_)⟩;obtain⟨y,_,rfl⟩:=AZ.mp hd;exact .int _ _;rotate_left;refine⟨_,_,_,_,a,rfl,c,C,v,skip λh=>G ?_⟩;rw[FS λz=>h.2 (GJ.mp z)];rfl
   have G:z.2.2.1.2∉AU b:=λz=>by
    rw[Ey (GJ.mpr z)] at G;cases G
   have aD:=c.at_ _ _ (ae _ _ q) (AX q ab);refine⟨Or.inl ⟨rfl,_,Ae.of C⟩,Hk,λa1 hM=>?_⟩;obtain⟨H7,aE,Z,eM⟩:=new_at (o:=.lst [.ref m]) hM;rw[<-aE];refine⟨l,a1,_,_,rfl,rfl,Z _ _ aD,eM,by rw[Ak];exact CI (BK (by show g.length+1<=1000;lia)),λL hL=>?_⟩
   have aF:H L=none:=by
    have h6:=Z.free hL
    cases e:H L with
    |none=>rfl
    |some o=>rw[c.at_ _ _ (ae _ _ e) (AX e ab)] at h6;cases h6
   have av:L≠D:=λy=>by rw[y,Z _ _ C] at hL;cases hL
   have s8:=Bb (o:=.lst (g.map V.ref++[.ref m])) hL;have eL:(upd H7 L (.lst (g.map V.ref++[.ref m]))) L=some (.lst ((g++[m]).map V.ref)):=by rw[Aa,Bk];rfl
   generalize upd H7 L (.lst (g.map V.ref++[.ref m]))=H8 at s8 eL ⊢;refine⟨JQ,λan hr=>?_⟩;obtain⟨H9,aG,s9,er⟩:=new_at (o:=.tup [.ref L,.int z.2.2.1.2,.int z.2.2.2]) hr;rw[<-aG];have T:=(Z.trans s8).trans s9;have aw:=T _ _ C;have Q:Keeps (·=D) H9 (upd H9 D (.lst (a.map (λz=>V.ref z.1)++[.ref an]))):=Keeps.one aw;refine⟨_,aw,by rw[Ak];exact BK (by lia),?_⟩;refine⟨_,_,_,_,a++[(an,(b.1++[z.2.1],z.2.2.1.2,z.2.2.2))],rfl,⟨λx o e n=>?_,c.ls⟩,by rw[Aa,Bk];rfl,λy R=>?_,?_⟩;rw[AD n];exact T _ _ (c.at_ x o e n);rcases BI.mp R with R|R;exact((v y R).same T).keeps Q λx M=>M.2;rw[AW.mp R];refine⟨L,g++[m],Q.tup er,Q.at_ _ _ (s9 _ _ eL) av,?_,aF,av⟩;refine RT.snoc ?_ (Q.tup ((T) _ _ al));exact((j.same ae).keeps c |>.same T).keeps Q;rw[aa,j6 O G,Bk,d];rfl
inductive DM (K:Ah) (vs:List V) (H:Hp) (Q:VK):Prop where
 |mk (nt A t:Addr) (W:Wd) (sc st:Int) (h0:vs=[.ref nt,.ref A,.ref t,.int sc,.int st]) (h1:Bw K H nt A t W) (h2:BS W) (h3:(0<=sc/\sc<W.ss.length)) (h4:(0<=st/\st<W.sts.length)) (h5:∀(D:Addr)(zs:List (Addr×AO))(H':Hp),H D=none->Ac H H'->H' D=some (.lst (zs.map λz=>V.ref z.1))->(∀z∈zs,DU (λl=>H l=none/\l≠D) H' z.1 z.2)->Dq W sc st (zs.map (·.2))->Q (.ref D) H'):DM K vs H Q
def kB (K:Ah):Sp:=λvs H Q _=>DM K vs H Q
abbrev VF(P w K mg base):=BB P w K mg base "beginnings" 6 ["net", "answers", "table", "scope", "state"] (kB K)
theorem kC(B:BC mg)(aq:VE P w K mg base)(F:Bp K "beginnings" "beginnings" Sj f fd)(hm:mg "beginnings" = some (.ref f)):VF P w K mg base:=by
 refine BO F hm Rs (λvs H al an h=>?_) (λaB A aD s H vs al an Y h=>?_);obtain⟨L,A,t,W,g,j,rfl,_⟩:=h;rfl
 . obtain⟨L,A,t,W,g,j,rfl,hC,ok,Q,R,ao⟩:=h
   refine⟨_,(Ao (AL (i:=5) Rs.nd (Cq (Ab (BE (Ab (Cq Af) (Ab (pv 3) (Ab (pv 4) Af)))) Af)))
    (Ao (AL (i:=6) Rs.nd Ai)
    (Ao (S5 Cn (Bv Gx (pv 6) (BA Dy B.b_len (Ab (pv 5) Af)) (Bs _)) (Ao (C8 (C3 C0 PySem.F.slot_list_extend PySem.F.type_list_extend O3 (pv 5) (Ab (A5 aq (Ab (pv 0) (Ab (pv 1) (Ab (pv 2) (Ab (Ax Ay (pv 5) (pv 6)) Af))))) Af)))
     (Ao (Bc (Bv HB (BA Dy B.b_len (Ab (pv 5) Af)) (Jr (v:=.int 200) rfl (Classical.choose_spec B.c_MOST_BEGINNINGS) ⟨_,rfl⟩) (Bs _)) (As Zp) Bg)
     (As (WY (i:=6) Rs.nd rfl (Or.inl rfl) Ai V7)))))
    (As (AK (BA (cW N2 F3 F3 Y.units (by decide) (by decide) (by decide)) B.b_sorted (Ab (pv 5) Af))))))),?_⟩
   rfl';refine⟨by decide,λl hl=>?_⟩;obtain⟨a8,ar,s1,el⟩:=new_at (o:=.lst []) hl;rw[<-ar];refine⟨JQ,λaf Y=>?_⟩;obtain⟨H2,au,Z,er⟩:=new_at (o:=.tup [.ref l,.int g,.int j]) Y;rw[<-au];refine⟨Hk,λD hD=>?_⟩;have ag:=s1.trans Z;have av:H D=none:=ag.free hD;have aw:l≠D:=AX (Z _ _ el) hD;obtain⟨H3,ax,s3,ay⟩:=new_at (o:=.lst [.ref af]) hD;rw[<-ax];have az:=ag.trans s3;refine AR ?_;cbv;refine TQ ?_;cbv;refine Hh (λσ' d=>∃(u6:V)(a:List (Addr×AO)),σ'=[some (.ref L),some (.ref A),some (.ref t),some (.int g),some (.int j),some (.ref D),some u6]/\Ac H d/\d D=some (.lst (a.map λz=>V.ref z.1))/\(∀z∈a,DU (λl=>H l=none/\l≠D) d z.1 z.2)/\G5 W g j (a.map λz:Addr×AO=>z.2) (a.map λz:Addr×AO=>z.2).length) ?_ (λa9 hN=>?_);refine λσ' H4 S=>AM λNz C=>?_;obtain⟨u6,a,rfl,I,E,k,u⟩:=S;refine C ?_;clear C;have hf:=u.few ok Q R;rw[Ak] at hf;refine⟨D,a.map λz=>(V.ref z.1,z.2),rfl,?_,by rw[Ak];lia,λy M=>?_,λD2 G hp hs U=>?_⟩;rw[DR];exact Ae.of E;obtain⟨z,T,rfl⟩:=AZ.mp M;exact(k z T).dt;have n:=Bb (o:=.lst (G.map (·.1))) U
   obtain⟨c,rfl⟩:∃c:List (Addr×AO),G=c.map λz=>(V.ref z.1,z.2):=by
    have:∀{l:List (DW DX)},(∀y∈l,y∈a.map λz=>((V.ref z.1,z.2):DW DX))->∃c:List (Addr×AO),l=c.map λz=>(V.ref z.1,z.2):=by
     intro l
     induction l with
     |nil=>exact λ_=>⟨[],rfl⟩
     |cons y l ih =>
       intro h;obtain⟨c,rfl⟩:=ih λz k=>h z (B6 _ k);obtain⟨z,_,rfl⟩:=AZ.mp (h y Bn);exact⟨z::c,rfl⟩
    exact this λy M=>hp.mem_iff.mp M
   have N:(c.map λz=>((V.ref z.1,z.2):DW DX)).map (·.2)=c.map (·.2):=by rw[DR];rfl
   have O:(c.map λz=>((V.ref z.1,z.2):DW DX)).map (·.1)=c.map λz=>V.ref z.1:=by rw[DR];rfl
   have a0:(c.map (·.2)).Perm (a.map (·.2)):=by
    have:=hp.map (·.2)
    rwa [N,DR] at this
   rw[N] at hs;rw[O] at n ⊢
   have nm:∀z∈c,z∈a:=λz T=>by
    have:=hp.mem_iff.mp (AZ.mpr ⟨z,T,rfl⟩);obtain⟨y,M,e⟩:=AZ.mp this;injection e with O N;have:y=z:=Prod.ext (V.ref.inj O) N;rw[<-this];exact M
   refine ao D2 c _ (I.free U) (I.trans n) Aa (λz T=>?_) (u.all ok Q R a0 hs);refine((k z (nm z T)).mono' ?_).same n;intro x o ex q;exact⟨q.1,λy=>by rw[y,U] at ex;cases ex⟩;refine⟨λm σ d=>∃(p:Nat)(a:List (Addr×AO)),σ=[some (.ref L),some (.ref A),some (.ref t),some (.int g),some (.int j),some (.ref D),some (.int p)]/\Ac H d/\d D=some (.lst (a.map λz=>V.ref z.1))/\(∀z∈a,DU (λl=>H l=none/\l≠D) d z.1 z.2)/\G5 W g j (a.map λz:Addr×AO=>z.2) p/\m=62-p,⟨_,0,[(af,([],g,j))],rfl,az,ay,λz k=>?_,G5.start W g j,rfl⟩,?_⟩;rw[AW.mp k];exact⟨l,[],s3 _ _ er,(Z.trans s3) _ _ el,RT.nil,hl,aw⟩;refine λm σ H4 S=>AM λNz C=>?_;obtain⟨p,a,rfl,I,E,k,u,aA⟩:=S;refine C ?_;clear C;have hf:=u.few ok Q R;have a1:=u.le;rw[Ak] at hf a1;refine⟨_,Or.inl ⟨_,Ae.of E,rfl⟩,rfl,?_⟩;by_cases ah:p<a.length;rotate_left;have ep:p=a.length:=(by lia);rw[D1 (by rw[Ak];lia)];refine A7 (hN _ _ ⟨_,a,rfl,I,E,k,?_⟩);rw[Ak,<-ep];exact u;rw[Ba (by rw[Ak];lia)];refine CB ?_;have ai:=AC ah;have aj:(a.map (·.2))[p]?=some a[p].2:=by rw[A8,ai];rfl
   have aa:=u.turn aj;have ib:=(u.is _ (A9 aj)).ok ok Q R;refine⟨λσ' d=>∃(G:List (Addr×AO)),σ'=[some (.ref L),some (.ref A),some (.ref t),some (.int g),some (.int j),some (.ref D),some (.int ((p+1:Nat):Int))]/\Ac H d/\d D=some (.lst (G.map λz=>V.ref z.1))/\(∀z∈G,DU (λl=>H l=none/\l≠D) d z.1 z.2)/\G5 W g j (G.map λz:Addr×AO=>z.2) (p+1),?_,?_⟩;refine λσ' d S=>AM λNz C=>?_;obtain⟨G,rfl,n,X,a2,a3⟩:=S;refine C ?_;clear C;exact⟨_,by lia,p+1,G,rfl,n,X,a2,a3,rfl⟩;have a4:Bl (a.map λz=>V.ref z.1) (p:Int)=some (.ref a[p].1):=BQ (by rw[A8,ai];rfl);refine⟨Or.inl ⟨rfl,_,Ae.of E⟩,Or.inl ⟨_,.ref a[p].1,Ae.of E,a4,L,A,t,a[p].1,W,a[p].2,rfl,hC.same I,ok,ib,⟨_,k _ (EC ah)⟩,λD2 r J U n a5 a6 ab=>?_⟩⟩
   have aC:r.length<=8:=by
    have O:=Bq List.length ab;have N:=Xa W a[p].2;have e3:=QM ok a[p].2.2.1;rw[Ak] at O;lia
   have X:=n _ _ E;have k5:Keeps (·=D) J (upd J D (.lst (a.map (λz=>V.ref z.1)++r.map λz=>V.ref z.1))):=Keeps.one X;refine⟨D,D2,_,_,rfl,rfl,X,a5,by rw[Ak,Ak];exact CI (BK (by lia)),?_⟩;have a7:=aa.few ok Q R;rw[<-ab,<-Bk,Ak] at a7;rw[<-ab,<-Bk] at aa;have ae:(upd J D (.lst (a.map (λz=>V.ref z.1)++r.map λz=>V.ref z.1))) D=some (.lst ((a++r).map λz=>V.ref z.1)):=(by rw[Aa,Bk])
   have sn:Ac H (upd J D (.lst (a.map (λz=>V.ref z.1)++r.map λz=>V.ref z.1))):=λb o e=>by
    rw[AD (AX e av)];exact n _ _ (I _ _ e)
   have ak:∀z∈a++r,DU (λl=>H l=none/\l≠D) (upd J D (.lst (a.map (λz=>V.ref z.1)++r.map λz=>V.ref z.1))) z.1 z.2:=λz h=>by
    rcases BI.mp h with h|h;exact((k z h).same n).keeps k5 λx q=>q.2;refine((a6 z h).mono λx q=>⟨I.free q.1,?_⟩).keeps k5 λx q=>q.2;intro y;rw[y,E] at q;cases q.1
   generalize upd J D (.lst (a.map (λz=>V.ref z.1)++r.map λz=>V.ref z.1))=H6 at ae sn ak ⊢;refine⟨_,Or.inl ⟨_,Ae.of ae,rfl⟩,rfl,?_⟩;rw[D1 (by rw[Ak];lia)];refine A7 ?_;refine⟨_,rfl,a++r,?_,sn,ae,ak,aa⟩
   simp
inductive Fo (K:Ah) (vs:List V) (H:Hp) (Q:VK):Prop where
 |mk (t a o:Addr) (inn:V) (ss:List Cu) (n:Int) (k:Nat) (s:Cu) (x:Str) (h0:vs=[.ref t,.int n,.str x]) (h1:n=k) (h2:Ar K H t [.ref a,inn,.ref o]) (h3:HQ K H a ss) (h4:ss[k]?=some s) (h5:Q (.bl (dec (x∈s.2))) H):Fo K vs H Q
def kD (K:Ah):Sp:=λvs H Q _=>Fo K vs H Q
abbrev VG(P w K mg base):=BB P w K mg base "has_end" 1 ["table", "state", "label"] (kD K)
def kE(B:BC mg)(F:Bp K "has_end" "has_end" Sk f fd)(c:mg "has_end" = some (.ref f)):VG P w K mg base:=by
 refine BO F c YN (λb H Q E h=>?_) (λO A R s H b Q E j h=>?_);obtain⟨t,a,o,J,ss,n,k,s,x,rfl,_⟩:=h;rfl;obtain⟨t,a,o,J,ss,n,k,s,x,rfl,rfl,l,⟨b,m,p⟩,r,q⟩:=h;obtain⟨v,u,L⟩:=p.get' (i:=k) (d:=Lf s) (by rw[A8,r];rfl);obtain⟨C,g,e,rfl,M,N,D⟩:=F0 L
 refine⟨_,(Ao (AL (i:=3) YN.nd (Ax Ay (Ax Ay (Ax Ay (pv 0) Ai) (pv 1)) Ai))
  (As (AK (IZ (HN j.units) (pv 2) (pv 3) (by with_unfolding_all rfl))))),?_⟩
 rfl';refine Or.inr (Or.inl ⟨_,.ref a,l,rfl,?_⟩);refine Or.inl ⟨b,.ref C,m,BQ u,?_⟩;refine Or.inr (Or.inl ⟨_,.ref e,M,rfl,?_⟩);refine⟨2,.str x,s.2.map Dt.str,e,_,λd hd=>?_,by decide,.str x,rfl,D,Aj.strs _,?_⟩;obtain⟨y,_,rfl⟩:=AZ.mp hd;exact .str _ _
 have G:dec (Dt.str x∈s.2.map Dt.str)=dec (x∈s.2):=NY ⟨λh=>by
  obtain⟨y,I,z⟩:=AZ.mp h
  rw[<-Dt.str.inj z];exact I,λh=>AZ.mpr ⟨x,h,rfl⟩⟩
 rw[G];exact q
def KP{k:Nat}(h:W.sts[k]?=some s):Ho W (k:Int)=s.2:=by unfold Ho;rw[Bo,h]
def kF{k:Nat}{s:Bh}(h:W.ss[k]?=some s):Gy W (k:Int)=s.2:=by unfold Gy;rw[Bo,h]
def NA{q:DT}(a:q.2.1=x)(c:q.1∈Ho W b.2.2):FI W b x q i=[b.1++[(b.2.1,("told" : Str),(i:Int))]]:=Al ⟨a,c⟩
def KQ{q:DT}(h:¬(q.2.1=x/\q.1∈Ho W b.2.2)):FI W b x q i=[]:=An h
def Y9{bs:List AO}(h:bs[i]?=some b):D9 W x (bs.take (i+1))=D9 W x (bs.take i)++DV W b x (Gy W b.2.1) 0:=by
 rw[D0,h];show(bs.take i++[b]).flatMap _=_;rw[List.flatMap_append];simp[D9]
def P4{bs:List AO}(i:Nat):(D9 W x (bs.take i)).length<=(D9 W x bs).length:=by
 have:D9 W x bs=D9 W x (bs.take i)++D9 W x (bs.drop i):=by
  unfold D9;rw[<-List.flatMap_append,List.take_append_drop]
 rw[this,AS];lia
theorem Za(W:Wd)(b:AO)(x:Str):∀(l:List DT)(j i:Nat),(DV W b x (l.take j) i).length<=(DV W b x l i).length
 |[],j,i=>by rw[List.take_nil];exact AG _
 |q::l,0,i=>Di _
 |q::l,j+1,i=>by
   show(FI W b x q i++DV W b x (l.take j) (i+1)).length<=(FI W b x q i++DV W b x l (i+1)).length;rw[AS,AS];have:=Za W b x l j (i+1);lia
inductive CP (K:Ah) (vs:List V) (H:Hp) (Q:VK):Prop where
 |mk (nt A t D:Addr) (x:Str) (F:Addr->Prop) (W:Wd) (zs:List (Addr×AO)) (h0:vs=[.ref nt,.ref t,.ref D,.str x]) (h1:Bw K H nt A t W) (h2:BS W) (h3:H D=some (.lst (zs.map λz=>V.ref z.1))) (h4:(∀z∈zs,DU F H z.1 z.2)) (h5:(∀z∈zs,Cg W z.2)) (h6:(D9 W x (zs.map (·.2))).length<=62) (h7:∀(D2:Addr)(ws:List (Addr×List Aq))(H':Hp),H D2=none->Ac H H'->H' D2=some (.lst (ws.map λz=>V.ref z.1))->(∀z∈ws,CV (λl=>H l=none/\l≠D2) H' z.1 z.2)->N4 W x (zs.map (·.2)) (ws.map (·.2))->Q (.ref D2) H'):CP K vs H Q
def kG (K:Ah):Sp:=λvs H Q _=>CP K vs H Q
abbrev VH(P w K mg base):=BB P w K mg base "found_behind" 2 ["net", "table", "begun", "name"] (kG K)
theorem kH(B:BC mg)(aC:VG P w K mg base)(F:Bp K "found_behind" "found_behind" Sl f fd)(u:mg "found_behind" = some (.ref f)):VH P w K mg base:=by
 refine BO F u Nc (λvs H a2 a3 h=>?_) (λbb an bf s H vs a2 a3 hr h=>?_);obtain⟨nt,an,t,D,x,F,W,v,rfl,_⟩:=h;rfl
 . obtain⟨nt,an,t,D,x,F,W,v,rfl,hC,ok,eD,hz,aD,bc,a4⟩:=h
   obtain⟨a5,aW,aX,us,Gs,Es,ts,qt,qs,eN,N3⟩:=hC.net;obtain⟨a,o,aE,b1,a6,b2,b3⟩:=hC.tab
   refine⟨_,(Ao (AL (i:=4) Nc.nd (Cq Af))
    (Ao (CG Cn rfl (Dk (pv 2)) (Cp (n:=3) rfl (AH (Az (i:=5) Nc.nd) (AH (Az (i:=6) Nc.nd) (AH (Az (i:=7) Nc.nd) Co)))) (As (CG Cn rfl (N5 LK rfl B.b_enumerate (Ab (Ax Ay (Ax Ay (Ax Ay (pv 0) Ai) (pv 6)) Ai) Af)) (Cp (n:=2) rfl (AH (Az (i:=8) Nc.nd) (AH (Az (i:=9) Nc.nd) Co))) (As (Bc (PW.pt (GY (Bv CJ (Ax Ay (pv 9) Ai) (pv 3) (Bs _)) (GX (FE (A5 aC (Ab (pv 1) (Ab (pv 7) (Ab (Ax Ay (pv 9) Ai) Af)))))))) (As (C8 (C3 C0 Ev Ew Ex (pv 4) (Ab (AE OT (pv 5) (Cq (Ab (BE (Ab (pv 6) (Ab B8 (Ab (pv 8) Af)))) Af))) Af)))) Bg)))))
    (As (AK (BA (cU N2 hr.units (by decide)) B.b_sorted (Ab (pv 4) Af)))))),?_⟩
   rfl';refine⟨by decide,λP hP=>?_⟩;obtain⟨Y,aF,s1,aq⟩:=new_at (o:=.lst []) hP;rw[<-aF];have bd:D≠P:=AX eD hP;have Q:∀{g:Hp},Keeps (·=P) Y g->Ac H g:=λk x o e=>k.at_ _ _ (s1 _ _ e) (AX e hP)
   refine⟨⟨_,Ae.of (s1 _ _ eD)⟩,EU (xs:=v.map λz=>V.ref z.1) (λi σ g=>∃u5 u6 u7 A C b,σ=[some (.ref nt),some (.ref t),some (.ref D),some (.str x),some (.ref P),u5,u6,u7,A,C]/\Keeps (·=P) Y g/\g P=some (.lst (b.map λz:Addr×List Aq=>V.ref z.1))/\(∀z∈b,CV (λl=>H l=none/\l≠P) g z.1 z.2)/\b.map (·.2)=D9 W x ((v.map (·.2)).take i))
    ⟨none,none,none,none,none,[],rfl,Keeps.refl λx o m e=>by rw[m,aq] at e;exact⟨_,(Bz e).symm⟩,aq,λz hz=>by simp at hz,by rw[EE];rfl⟩ (λi σ g _ af=>by obtain⟨_,_,_,_,_,_,_,k,_⟩:=af;exact Ae.of (Q k _ _ eD)) ?_ ?_⟩
   rotate_left;refine λσ H2 G=>AM λM d=>?_;obtain⟨u5,u6,u7,A,C,b,rfl,T,ag,U,u⟩:=G;refine d ?_;clear d;rw[Ak,<-Ak (f:=(·.2)),Et] at u;have lw:b.length<=62:=by have:=Bq List.length u;rw[Ak] at this;lia
   refine⟨P,b.map λz=>(V.ref z.1,z.2),rfl,?_,by rw[Ak];lia,λy q=>?_,λD2 aG N hs ah=>?_⟩;rw[DR];exact Ae.of ag;obtain⟨z,ai,rfl⟩:=AZ.mp q;exact(U z ai).dt;obtain⟨vs,r1,r2,r3,r4⟩:=Xj (c:=CK) N;have s3:=Bb (o:=.lst (aG.map (·.1))) ah;rw[r1] at s3 ⊢;rw[r2] at hs;have r:=Q T;refine a4 D2 vs _ (r.free ah) (r.trans s3) Aa (λz ai=>?_) ⟨by rw[<-u];exact r3,hs⟩;refine((U z (r4 z ai)).mono' ?_).same s3;intro x o ex hx;exact⟨hx.1,λy=>by rw[y,ah] at ex;cases ex⟩;refine λi y σ H2 q G=>AM λM d=>?_;obtain⟨u5,u6,u7,A,C,b,rfl,T,ag,U,u⟩:=G;refine d ?_;clear d;obtain⟨z,ar,rfl⟩:=getm q;have mz:=A9 ar;have aa:=aD z mz;have r:=Q T;refine AM λM d=>?_;obtain⟨l,E,a8,a9,e3,_⟩:=hz z mz;refine d ?_;clear d;have e1:=r _ _ a8;have aH:=aa.rng z.2.2.1 (by unfold AU;simp);have aI:=aa.st;obtain⟨n,X⟩:=Dx aH.1;obtain⟨k,hk⟩:=Dx aI.1;have aJ:n<W.ss.length:=(by lia);have aK:k<W.sts.length:=(by lia);refine AM λM d=>?_;obtain⟨ao,aY,E1,aA,aZ,ba,g4,⟨c0,_,⟨tE,c1,c2⟩⟩⟩:=N3.sc.get aJ;refine d ?_;clear d;have au:=AC aK;have eT:Gy W z.2.2.1=W.ss[n].2:=by rw[X];exact kF g4
   have eE:Ho W z.2.2.2=W.sts[k].2:=by rw[hk];exact KP au
   have aL:Bl (us.map V.ref) z.2.2.1=some (.ref ao):=by rw[X];exact BQ (by rw[A8,aA];rfl)
   have av:(v.map (·.2))[i]?=some z.2:=by rw[A8,ar];rfl
   have be:E.length<=100:=by
    have:=HZ W.ss.length (AU z.2) aa.nd aa.rng;rw[show(AU z.2).length=z.2.1.length+1 by unfold AU;simp] at this;have:=ok.s5;rw[e3.len];lia
   have aM:=P4 (W:=W) (x:=x) (bs:=v.map (·.2)) (i+1);rw[Y9 av,AS] at aM;refine⟨_,Ar.of e1,rfl,?_⟩;refine Or.inr (Or.inl ⟨_,.ref a5,Ar.of (r _ _ eN),rfl,Or.inl ⟨_,.ref ao,Ae.of (r _ _ N3.sc.top),aL,Or.inr (Or.inl ⟨_,.ref E1,Ar.of (r _ _ c0),rfl,E1,rfl,⟨_,r _ _ c1⟩,?_⟩)⟩⟩)
   refine Q0 LK (xs:=tE.map V.ref) (λj σ g=>∃A C b,σ=[some (.ref nt),some (.ref t),some (.ref D),some (.str x),some (.ref P),some (.ref l),some (.int z.2.2.1),some (.int z.2.2.2),A,C]/\Keeps (·=P) Y g/\g P=some (.lst (b.map λz:Addr×List Aq=>V.ref z.1))/\(∀z∈b,CV (λl=>H l=none/\l≠P) g z.1 z.2)/\b.map (·.2)=D9 W x ((v.map (·.2)).take i)++DV W z.2 x ((Gy W z.2.2.1).take j) 0)
    ⟨_,_,b,rfl,T,ag,U,by rw[u,EE];simp[DV]⟩ (λj σ g af=>by obtain⟨_,_,_,_,k,_⟩:=af;exact Ae.of (Q k _ _ c1)) ?_ ?_
   rotate_left;refine λσ H3 G=>AM λM d=>?_;obtain⟨A,C,b,rfl,Z,aj,ak,R⟩:=G;refine d ?_;clear d;refine⟨_,_,_,_,_,b,rfl,Z,aj,ak,?_⟩;rw[Y9 av,R,Ak,c2.len,eT,Et];refine λj y T' σ H3 q aN G=>AM λM d=>?_;obtain⟨A,C,b,rfl,Z,aj,ak,R⟩:=G;refine d ?_;clear d;obtain⟨tp,aw,rfl⟩:=getm q;have aO:j<W.ss[n].2.length:=by rw[<-c2.len];exact(AY.mp aw).1
   have N:=AC aO;have ax:=c2.at_ j tp _ aw N;generalize W.ss[n].2[j]=p at N ax;obtain⟨H4,aP,s4,aQ⟩:=new_at (o:=.tup [.int j,.ref tp]) aN;rw[<-aP];have aR:=Q Z;have I:=aR.trans s4;have k4:Keeps (·=P) Y H4:=Z.same s4;have S:=s4 _ _ aj;have al:∀z∈b,CV (λl=>H l=none/\l≠P) H4 z.1 z.2:=λz h=>(ak z h).same s4;have a1:=Ar.of (K:=K) (I _ _ ax)
   have ay:DV W z.2 x ((Gy W z.2.2.1).take (j+1)) 0=DV W z.2 x ((Gy W z.2.2.1).take j) 0++FI W z.2 x p j:=by
    rw[D0,eT,N];show DV W z.2 x (W.ss[n].2.take j++[p]) 0=_;rw[Xh,FP,Nat.zero_add,Nat.min_eq_left (by lia)]
   have skip:¬(p.2.1=x/\p.1∈Ho W z.2.2.2)->b.map (·.2)=D9 W x ((v.map (·.2)).take i)++DV W z.2 x ((Gy W z.2.2.1).take (j+1)) 0:=λX=>by
    rw[ay,KQ X,E7,R]
   have lw:b.length<100:=by
    have:=Bq List.length R;rw[Ak,AS] at this;have J:=Za W z.2 x (Gy W z.2.2.1) j 0;lia
   refine⟨_,Ar.of aQ,rfl,?_⟩;refine Or.inr (Or.inl ⟨_,.str p.2.1,a1,rfl,rfl,rfl,Am (λJ=>?_) (λJ=>A7 ?_)⟩);rotate_left;exact⟨_,_,b,rfl,k4,S,al,skip λh=>J (Ba (by rw[h.1]))⟩;have J:p.2.1=x:=V.str.inj (Bm J);refine Or.inr (Or.inl ⟨_,.str p.1,a1,rfl,t,a,o,aE,W.sts,z.2.2.2,k,_,p.1,rfl,hk,I.seqT b1,⟨a6,I.seq b2,b3.same I⟩,au,rfl,Am (λO=>?_) (λO=>?_)⟩);rotate_left;exact⟨_,_,b,rfl,k4,S,al,skip λh=>O (Ey (by rw[<-eE];exact h.2))⟩;have O:p.1∈Ho W z.2.2.2:=by rw[eE];exact DA.mp O
   refine⟨Or.inl ⟨rfl,_,Ae.of S⟩,JQ,λm aS=>?_⟩;obtain⟨H5,aT,s5,aB⟩:=new_at (o:=.tup [.int z.2.2.1,.str "told",.int j]) aS;rw[<-aT];refine⟨Hk,λa7 hM=>?_⟩;obtain⟨H6,aU,s6,eM⟩:=new_at (o:=.lst [.ref m]) hM;rw[<-aU];have ab:=s5.trans s6;refine⟨l,a7,_,_,rfl,rfl,ab _ _ (I _ _ a9),eM,by rw[Ak];exact CI (BK (by show E.length+1<=1000;lia)),λL hL=>?_⟩;have aV:H L=none:=(I.trans ab).free hL;have az:L≠P:=λy=>by rw[y,ab _ _ S] at hL;cases hL
   have s7:=Bb (o:=.lst (E.map V.ref++[.ref m])) hL;have eL:(upd H6 L (.lst (E.map V.ref++[.ref m]))) L=some (.lst ((E++[m]).map V.ref)):=by rw[Aa,Bk];rfl
   generalize upd H6 L (.lst (E.map V.ref++[.ref m]))=H7 at s7 eL ⊢;have ae:=ab.trans s7;have a0:=ae _ _ S;have k7:Keeps (·=P) H7 (upd H7 P (.lst (b.map (λz=>V.ref z.1)++[.ref L]))):=Keeps.one a0;refine⟨_,a0,by rw[Ak];exact BK (by lia),?_⟩;refine⟨_,_,b++[(L,z.2.1++[(z.2.2.1,("told" : Str),(j:Int))])],rfl,(k4.same ae).set rfl,by rw[Aa,Bk];rfl,λy q=>?_,?_⟩;rcases BI.mp q with q|q;exact((al y q).same ae).keeps k7 λx hx=>hx.2;rw[AW.mp q];refine⟨E++[m],k7.at_ _ _ eL az,?_,aV,az⟩;exact RT.snoc ((e3.same (I.trans ae)).keeps k7) (k7.tup ((s6.trans s7) _ _ aB));rw[ay,NA J O,Bk,R,Gf];rfl
inductive CQ (K:Ah) (vs:List V) (H:Hp) (Q:VK):Prop where
 |mk (t:Addr) (F:Addr->Prop) (sts:List Cu) (inn:Int) (ord:A') (h0:vs=[.ref t]) (h1:F1 K F H t sts inn ord) (h2:ord.length<=40) (h3:∀(p:Addr)(H':Hp),H p=none->Ac H H'->Ib H' p ord->Q (.ref p) H'):CQ K vs H Q
def kI (K:Ah):Sp:=λvs H Q _=>CQ K vs H Q
abbrev RM(P w K mg base):=BB P w K mg base "better_pairs" 1 ["table"] (kI K)
theorem kJ(B:BC mg)(F:Bp K "better_pairs" "better_pairs" Qk f fd)(J:mg "better_pairs" = some (.ref f)):RM P w K mg base:=by
 refine BO F J iJ (λL H Q E h=>?_) (λak ag an s H L Q E M h=>?_);obtain⟨t,F,X,Y,v,rfl,_⟩:=h;rfl;obtain⟨t,F,X,Y,v,rfl,N,aj,q⟩:=h;obtain⟨ta,o,al,Z,O,_,_,_,_,_,x,TO⟩:=N.ex;refine⟨_,(As (AK (GZ (dS rfl (MJ M)) B.b_dict (Ab (Hg rfl Ci (Dk (Ax Ay (pv 0) Ai)) (λ_ _ _ _ _=>(Az (i:=0) Ci.nd)) (λ_ _ _ _ _=>Ja) (λ_ _ _ _ _=>(BE (Ab (pv 0) (Ab FD Af))))) Af)))),?_⟩;rfl'
 refine Or.inr (Or.inl ⟨_,.ref o,Ar.of O,rfl,⟨_,Ae.of x⟩,T6 (xs:=Z.map V.ref) (λP i a g=>Ac H g/\g P=some (.lst a)/\a.length=i/\Fg g a ((v.take i).map λp=>(FK p,V.bl true)))
  (λP j=>⟨Bb j,Aa,rfl,.nil⟩) (λP i a g aa=>by obtain⟨s,_⟩:=aa;exact Ae.of (s _ _ x)) (λP i ah a R RR j S n k=>?_) (λP a R j n=>?_)⟩)
 obtain⟨c,r,d,m⟩:=n;obtain⟨y,D,rfl⟩:=getm S;have ab:i<v.length:=by rw[<-TO.len];exact(AY.mp D).1
 have G:=AC ab;have ae:=c _ _ (TO.at_ i _ _ D G);refine⟨Cr,λT U=>?_⟩;obtain⟨A,af,l,W⟩:=new_at (o:=.tup [.ref y,.bl true]) U;rw[<-af];have I:=l _ _ r
 have u:∀b xs,A b=some (.tup xs)->(upd A P (.lst (a++[.ref T]))) b=some (.tup xs):=λb xs e=>by
  rw[AD (NN e I (λz=>nomatch z))];exact e
 refine k _ _ I (by rw[d];exact BK (by lia)) ⟨λb ai e=>?_,Aa,by rw[AS,d];rfl,?_⟩;rw[AD (AX e j)];exact l _ _ (c _ _ e);rw[D0,G,Bk];exact Paired.snoc ((m.tups λb xs e=>l _ _ e).tups u) ⟨T,y,rfl,u _ _ W,u _ _ (l _ _ ae)⟩;obtain⟨c,r,d,m⟩:=n;rw[Ak,TO.len,Et] at m;rw[Ak,TO.len] at d;refine⟨P,a,_,rfl,r,by rw[d];exact BK (by lia),m,λp C=>?_⟩;exact q p _ (c.free C) (c.trans (Bb C)) ⟨_,Aa,d5⟩
inductive Fp (K:Ah) (vs:List V) (H:Hp) (Q:VK):Prop where
 |mk (D:Addr) (F:Addr->Prop) (zs:List (Addr×List Aq)) (h0:vs=[.ref D]) (h1:H D=some (.lst (zs.map λz=>V.ref z.1))) (h2:(∀z∈zs,CV F H z.1 z.2)) (h3:zs.length<=100) (h4:∀(d:List Aq->Addr)(c:List Aq->Aq->Addr)(H':Hp),Ac H H'->Bi dW H' (Be (zs.map (·.2))) d c->(∀p,Eo (Be (zs.map (·.2))) p->H (d p)=none)->Q (.ref (d [])) H'):Fp K vs H Q
def kK (K:Ah):Sp:=λvs H Q _=>Fp K vs H Q
abbrev RN(P w K mg base):=BB P w K mg base "tree_of" 1 ["ways"] (kK K)
theorem kL(B:BC mg)(F:Bp K "tree_of" "tree_of" Sm f fd)(q:mg "tree_of" = some (.ref f)):RN P w K mg base:=by
 refine BO F q Nd (λvs H an ao h=>?_) (λaA a6 aD s H vs an ao hr h=>?_);obtain⟨D,F,l,rfl,_⟩:=h;rfl
 . obtain⟨D,F,l,rfl,eD,hz,lz,aq⟩:=h
   refine⟨_,(Ao (AL (i:=1) Nd.nd Tz)
    (Ao (CG Cn rfl (N5 LK rfl B.b_enumerate (Ab (pv 0) Af)) (Cp (n:=2) rfl (AH (Az (i:=2) Nd.nd) (AH (Az (i:=3) Nd.nd) Co))) (Ao (AL (i:=4) Nd.nd (pv 1))
     (As (CG Cn rfl (Dk (pv 3)) (Az (i:=5) Nd.nd) (As (AL (i:=4) Nd.nd (Ax Ay (C3 PySem.F.plainAttrs_dict PySem.F.slot_dict_setdefault PySem.F.type_dict_setdefault (dN (Mq hr)) (pv 4) (Ab (pv 5) (Ab (BE (Ab (pv 2) (Ab Tz Af))) Af))) Ai)))))))
    (As (AK (pv 1))))),?_⟩
   rfl';refine λt ht=>?_;obtain⟨ar,au,s1,et⟩:=new_at (o:=.dT []) ht;rw[<-au]
   refine⟨D,rfl,⟨_,s1 _ _ eD⟩,Q0 LK (xs:=l.map λz=>V.ref z.1) (λi σ A=>∃(W X Y C:Option V)(d:List Aq->Addr)(c:List Aq->Aq->Addr),σ=[some (.ref D),some (.ref t),W,X,Y,C]/\Ac H A/\d []=t/\Bi dW A (Be ((l.map (·.2)).take i)) d c/\∀p,Eo (Be ((l.map (·.2)).take i)) p->H (d p)=none)
    ⟨none,none,none,none,λ_=>t,λ_ _=>t,rfl,s1,rfl,?_,λp v=>ht⟩ (λi σ A aa=>by obtain⟨_,_,_,_,_,_,_,s,_⟩:=aa;exact Ae.of (s _ _ eD)) ?_ ?_⟩
   have nil:∀p,Eo (Be ((l.map (·.2)).take 0)) p->p=[]:=λp v=>by
    rcases v with h|⟨kw,h,_⟩;exact h;rw[EE] at h;cases h
   refine⟨λp v=>?_,λp m k q=>?_,λp p' v av _=>(nil p v).trans (nil p' av).symm⟩;show ar t=some (.dT (DY _ _ p));rw[et,EE];rfl;rw[EE] at q;cases q;rotate_left;refine λσ H2 I=>AM λO r=>?_;obtain⟨W,X,Y,C,d,c,rfl,Z,rfl,Q,R⟩:=I;refine r ?_;clear r;rw[Ak,<-Ak (f:=(·.2)),Et] at Q R;exact aq d c H2 Z Q R;refine λi y a7 σ H2 hy hT I=>AM λO r=>?_;obtain⟨W,X,Y,C,d,c,rfl,Z,hd,Q,R⟩:=I;refine r ?_;clear r;refine GL ?_;intro Nx Cy;obtain⟨z,ab,rfl⟩:=getm hy;have mz:=A9 ab;have aB:=(AY.mp ab).1;have aw:(l.map (·.2))[i]?=some z.2:=by rw[A8,ab];rfl
   obtain⟨H3,ax,s3,eT⟩:=new_at (o:=.tup [.int (i:Int),.ref z.1]) hT;rw[<-ax];have ai:=Z.trans s3;obtain⟨ms,ag,f3,_⟩:=(hz z mz).same ai;refine⟨_,Ar.of eT,rfl,?_⟩
   refine⟨⟨_,Ae.of ag⟩,EU (xs:=ms.map V.ref) (λj σ A=>∃(C:Option V)(d:List Aq->Addr)(c:List Aq->Aq->Addr),σ=[some (.ref D),some (.ref t),some (.int (i:Int)),some (.ref z.1),some (.ref (d (z.2.take j))),C]/\Ac H A/\RT G4 A ms z.2/\A z.1=some (.lst (ms.map V.ref))/\d []=t/\Bi dW A (Be ((l.map (·.2)).take i)++[(i,z.2.take j)]) d c/\∀p,Eo (Be ((l.map (·.2)).take i)++[(i,z.2.take j)]) p->H (d p)=none)
    ⟨C,d,c,by rw[EE,hd];rfl,ai,f3,ag,hd,by rw[EE];exact(Q.sameW s3).begin,λp v=>R p ?_⟩ (λj σ A _ aa=>by obtain⟨_,_,_,_,_,_,e,_⟩:=aa;exact Ae.of e) ?_ ?_⟩
   rw[EE] at v;rcases v with h|⟨kw,h1,L⟩;exact .inl h;rcases BI.mp h1 with y|y;exact .inr ⟨kw,y,L⟩;rw[AW.mp y] at L;exact .inl (List.prefix_nil.mp L);rotate_left;refine λσ H4 I=>AM λO r=>?_;obtain⟨C,d,c,rfl,M,_,_,T,E,J⟩:=I;refine r ?_;clear r;rw[Ak,f3.len,Et,<-d7 aw] at E J;exact⟨_,_,_,_,d,c,rfl,M,T,E,J⟩;refine λj y σ H4 hy I=>AM λO r=>?_;obtain⟨C,d,c,rfl,M,S,e4,T,E,J⟩:=I;refine r ?_;clear r;refine GL ?_;intro Nx Cy;obtain⟨mk,aj,rfl⟩:=getm hy;have hj:j<z.2.length:=by rw[<-f3.len];exact(AY.mp aj).1
   have ae:=AC hj;have ah:=S.at_ j _ _ aj ae;have tk:z.2.take (j+1)=z.2.take j++[z.2[j]]:=by rw[D0,ae];rfl
   generalize z.2[j]=m at ae ah tk;generalize hg:z.2.take j=g at E J tk ⊢;have ak:Eo (Be ((l.map (·.2)).take i)++[(i,g)]) g:=.inr ⟨_,Du _ (AW.mpr rfl),List.prefix_refl g⟩;have eB:=E.dct g ak;have a9:=UB (Be ((l.map (·.2)).take i)++[(i,g)]) g
   have aC:(Be ((l.map (·.2)).take i)++[(i,g)]).length<=101:=by
    unfold Be;rw[AS,Ak,List.length_zipIdx,FP,Ak,CZ];lia
   have lr:(DY (Be ((l.map (·.2)).take i)++[(i,g)]) c g).length<sizeLine:=by unfold DY;rw[Ak];exact BK (by lia)
   refine⟨Or.inr (Or.inr (Or.inl ⟨rfl,Or.inr ⟨_,eB⟩⟩)),λe he=>?_⟩;have s5:=Bb (o:=.dT []) he;have ee:(upd H4 e (.dT [])) e=some (.dT []):=Aa;have al:=he;generalize upd H4 e (.dT [])=H5 at s5 ee ⊢;refine⟨Cr,λT5 ay=>?_⟩;obtain⟨H6,az,s6,U⟩:=new_at (o:=.tup [.int (i:Int),.ref e]) ay;rw[<-az];have u:=s5.trans s6;refine⟨d g,_,Gk m,mk,.ref T5,rfl,rfl,u _ _ eB,u _ _ ah,lr,λa8 G=>?_,λG=>?_⟩;rw[Pj] at G;by_cases q:m∈(TreeM.keysAt (Be ((l.map (·.2)).take i)++[(i,g)]) g).map (·.1);rw[Al q] at G;cases G;obtain⟨⟨m',k⟩,hk,rfl⟩:=AZ.mp q;have a0:=E.tup g m' k hk;refine Or.inr (Or.inl ⟨_,.ref (d (g++[m'])),Ar.of (u _ _ a0),rfl,?_⟩);refine⟨some (.ref mk),d,c,by rw[tk];rfl,M.trans u,S.same u,u _ _ e4,T,by rw[tk];exact(E.sameW u).stay q,λp v=>J p ((QS q).mp (by rw[tk] at v;exact v))⟩;rw[An q] at G;cases G;have q:m∉(TreeM.keysAt (Be ((l.map (·.2)).take i)++[(i,g)]) g).map (·.1):=λq=>by rw[Pj,Al q] at G;cases G
   refine AM λO r=>?_;obtain⟨d',c',T7,a1,a2,a3⟩:=E.grow q al J (M.free al) u (s6 _ _ ee) U;refine r ?_;clear r;have a4:∀{b o},H b=some o->b≠d g:=λ{b o}N z=>by rw[z,J g ak] at N;cases N
   have s7:Ac H (upd H6 (d g) (.dT (A1 (DY (Be ((l.map (·.2)).take i)++[(i,g)]) c g) (Gk m) (.ref T5)))):=λb o N=>by
    rw[AD (a4 N)];exact u _ _ (M _ _ N)
   have af:=u _ _ eB;have a5:T5≠d g:=λy=>by rw[y,af] at U;cases U
   refine Or.inr (Or.inl ⟨_,.ref e,Ar.of (by rw[AD a5];exact U),rfl,?_⟩);refine⟨some (.ref mk),d',c',by rw[tk,a1];rfl,s7,⟨S.len,λn a b h1 L=>?_⟩,?_,a3.trans T,by rw[tk];exact T7,by rw[tk];exact a2⟩;have x:=u _ _ (S.at_ n a b h1 L);rw[AD (NN x af (λz=>nomatch z))];exact x;have x:=u _ _ e4;rw[AD (NN x af (λz=>nomatch z))];exact x
inductive EL (K:Ah) (vs:List V) (H:Hp) (Q:VK):Prop where
 |mk (nt S T R mk:Addr) (us Gs Es:List Addr) (ss:List Bh) (m:Aq) (h0:vs=[.ref nt,.ref mk]) (h1:Ar K H nt [.ref S,.ref T,.ref R]) (h2:Dp H S us Gs Es ss) (h3:Ar K H mk (G4 m)) (h4:EH ss m) (h5:Q (.str (F5 ss m)) H):EL K vs H Q
def kM (K:Ah):Sp:=λvs H Q _=>EL K vs H Q
abbrev VI(P w K mg base):=BB P w K mg base "label_at" 1 ["net", "mark"] (kM K)
def kN(B:BC mg)(F:Bp K "label_at" "label_at" So f fd)(t:mg "label_at" = some (.ref f)):VI P w K mg base:=by
 refine BO F t Oe (λG H Q E h=>?_) (λah ab ai s H G Q E hr h=>?_);obtain⟨I,S,T,R,mk,us,J,L,ss,m,rfl,_⟩:=h;rfl;obtain⟨I,S,T,R,mk,us,J,L,ss,m,rfl,M,A,t,⟨n,k,Z,v,g,j,C⟩,q⟩:=h;have Y:n<ss.length:=(AY.mp j).1;obtain⟨u,ae,E1,N,af,ag,D,⟨O,⟨l,U,o⟩,⟨p,W,r⟩⟩⟩:=A.get Y;rw[j] at D;have X:=Bz D;rw[<-X] at o r;have aa:Bl (us.map V.ref) m.1=some (.ref u):=by rw[v];exact BQ (by rw[A8,N];rfl)
 refine⟨_,(Ao (D6 (pv 1) (Cp (n:=3) rfl (AH (Az (i:=2) Oe.nd) (AH (Az (i:=3) Oe.nd) (AH (Az (i:=4) Oe.nd) Co)))))
  (Ao (D6 (Ax Ay (Ax Ay (pv 0) Ai) (pv 2)) (Cp (n:=2) rfl (AH (Az (i:=5) Oe.nd) (AH (Az (i:=6) Oe.nd) Co))))
  (Ao (Bc (Bv CJ (pv 3) B8 (Bs _)) (As (AK (Ax Ay (Ax Ay (pv 5) (pv 4)) Ai))) Bg)
  (As (AK (Ax Ay (Ax Ay (pv 6) (pv 4)) Ai)))))),?_⟩
 rfl';refine⟨_,t,rfl,?_⟩;refine Or.inr (Or.inl ⟨_,.ref S,M,rfl,Or.inl ⟨_,.ref u,Ae.of A.top,aa,?_⟩⟩);refine⟨_,Ar.of O,rfl,?_⟩;refine⟨rfl,rfl,Am (λh=>?_) (λh=>?_)⟩;have b:m.2.1=("step" : Str):=V.str.inj (Bm h);rcases C with⟨_,a⟩|⟨e,_⟩;have c:=AC a;rw[dD v g j b c] at q;have d:l[k]?=some (l[k]'(by rw[o.len];exact a)):=AC _;have x:=o.at_ _ _ _ d c;have y:Bl (l.map V.ref) m.2.2=some (.ref (l[k]'(by rw[o.len];exact a))):=by rw[g];exact BQ (by rw[A8,d];rfl)
 exact Or.inl ⟨_,_,Ae.of U,y,Or.inr (Or.inl ⟨_,.str Z.1[k].1,Ar.of x,rfl,q⟩)⟩;exact absurd (e.symm.trans b) Ut;have b:m.2.1≠("step" : Str):=λz=>h (Ba (by rw[z]));rcases C with⟨e,_⟩|⟨_,a⟩;exact absurd e b;have c:=AC a;rw[dE v g j b c] at q;have d:p[k]?=some (p[k]'(by rw[r.len];exact a)):=AC _;have x:=r.at_ _ _ _ d c;have y:Bl (p.map V.ref) m.2.2=some (.ref (p[k]'(by rw[r.len];exact a))):=by rw[g];exact BQ (by rw[A8,d];rfl)
 exact Or.inl ⟨_,_,Ae.of W,y,Or.inr (Or.inl ⟨_,.str Z.2[k].1,Ar.of x,rfl,q⟩)⟩
def Zb{bet:Aq->Aq->Bool}{ws:TreeM.Ws Aq}{a:List Aq}{m:Aq}{t:List Aq}:TreeM.gat bet ws a (m::t)=((TreeM.keysAt ws a).filter λb=>bet b.1 m).map (·.2)++TreeM.gat bet ws (a++[m]) t:=rfl
theorem Zc{bet:Aq->Aq->Bool}{ws:TreeM.Ws Aq}:∀{b a:List Aq},(TreeM.gat bet ws a b).length<=b.length*ws.length
 |[],_=>Di _
 |m::t,a=>by
   rw[Zb,AS,Ak,Ej];have d:=Oo (λc:Aq×Nat=>bet c.1 m) (TreeM.keysAt ws a);have e:=UB ws a;have f:=Zc (bet:=bet) (ws:=ws) (b:=t) (a:=a++[m]);rw[Nat.add_mul,Nat.one_mul];lia
inductive De (K:Ah) (vs:List V) (H:Hp) (Q:VK):Prop where
 |mk (nt S T R bp l:Addr) (us Gs Es:List Addr) (ss:List Bh) (ord:A') (ws:TreeM.Ws Aq) (d:List Aq->Addr) (c:List Aq->Aq->Addr) (F:Addr->Prop) (w:List Aq) (h0:vs=[.ref nt,.ref bp,.ref (d []),.ref l]) (h1:H nt=some (.tup [.ref S,.ref T,.ref R])) (h2:Dp H S us Gs Es ss) (h3:Ib H bp ord) (h4:Bi dF H ws d c) (h5:ws.length<=100) (h6:(∀kw∈ws,∀m∈kw.2,EH ss m)) (h7:CV F H l w) (h8:JY ss w) (h9:∀H',Ac H H'->Q (MH ((TreeM.gat (Ch ss ord) ws [] w).map λk:Nat=>(k:Int))) H'):De K vs H Q
def kO (K:Ah):Sp:=λvs H Q _=>De K vs H Q
abbrev RO(P w K mg base):=BB P w K mg base "first_hider" 2 ["net", "better", "tree", "way"] (kO K)
theorem kP(B:BC mg)(ao:VI P w K mg base)(F:Bp K "first_hider" "first_hider" Sq f fd)(A:mg "first_hider" = some (.ref f)):RO P w K mg base:=by
 refine BO F A Nf (λvs H a2 a3 h=>?_) (λaP aK aT s H vs a2 a3 hr h=>?_);obtain⟨L,S,T,R,O,l,us,Gs,Es,ss,q,ws,d,c,F,w,rfl,_⟩:=h;rfl
 . obtain⟨L,S,T,R,O,l,us,Gs,Es,ss,q,ws,d,c,F,w,rfl,eN,SC,BD,TT,a6,a7,⟨ms,el,rl,_⟩,ok,a4⟩:=h
   obtain⟨kb,eb,hb⟩:=BD
   refine⟨_,(Ao (AL (i:=4) Nf.nd (Cq Af))
    (Ao (AL (i:=5) Nf.nd (pv 2))
    (Ao (CG Cn rfl (Dk (pv 3)) (Az (i:=6) Nf.nd) (Ao (AL (i:=7) Nf.nd (A5 ao (Ab (pv 0) (Ab (pv 6) Af))))
     (Ao (CG Cn rfl (JZ (pv 5)) (Az (i:=8) Nf.nd) (As (Bc (Bv (WJ (Mq hr)) (BE (Ab (A5 ao (Ab (pv 0) (Ab (pv 8) Af))) (Ab (pv 7) Af))) (pv 1) (by with_unfolding_all rfl)) (As (C8 (C3 C0 Ev Ew Ex (pv 4) (Ab (Ax Ay (Wx (Mq hr) (pv 5) (pv 8) (λ_ _=>rfl)) Ai) Af)))) Bg)))
     (As (AL (i:=5) Nf.nd (Ax Ay (ZQ (Mq hr) (pv 5) (pv 6) (BE (Ab Ai (Ab Tz Af))) ⟨rfl,rfl,rfl,rfl⟩) Ai))))))
    (As (AK (J1 rfl (by rfl) B.b_min (Ab (pv 4) Af))))))),?_⟩
   rfl';refine⟨by decide,λN Y=>?_⟩;obtain⟨aL,a8,s1,a9⟩:=new_at (o:=.lst []) Y;rw[<-a8];refine AR ?_;cbv;refine AR ?_;cbv
   refine⟨⟨_,Ae.of (s1 _ _ el)⟩,EU (xs:=ms.map V.ref) (λj σ n=>∃(a:Addr)(u6 u7 C:Option V)(ns:List Nat),σ=[some (.ref L),some (.ref O),some (.ref (d [])),some (.ref l),some (.ref N),some (.ref a),u6,u7,C]/\Ac H n/\n N=some (.lst ((ns.map λk:Nat=>(k:Int)).map V.int))/\ns++TreeM.gat (Ch ss q) ws (w.take j) (w.drop j)=TreeM.gat (Ch ss q) ws [] w/\a≠N/\((Eo ws (w.take j)/\a=d (w.take j))\/(¬Eo ws (w.take j)/\H a=none/\Rd n a (.dT []))))
    ⟨d [],none,none,none,[],rfl,s1,a9,rfl,?_,.inl ⟨.inl rfl,rfl⟩⟩ (λj σ n _ ae=>by obtain⟨_,_,_,_,_,_,s,_⟩:=ae;exact Ae.of (s _ _ el)) ?_ ?_⟩
   obtain⟨o,x⟩:=TT.dct [] (.inl rfl);exact AX x Y;rotate_left;refine λσ D af=>AM λNz U=>?_;obtain⟨a,u6,u7,C,ns,rfl,y,ag,t,_⟩:=af;refine U ?_;clear U;rw[Ak,rl.len,List.drop_length] at t;have t:ns=_:=(E7 ns).symm.trans t;subst t;exact⟨N,_,rfl,ag,a4 D y⟩;refine λj aM σ D hy af=>AM λNz U=>?_;obtain⟨a,u6,u7,C,ns,rfl,y,ag,t,aq,ah⟩:=af;refine U ?_;clear U;refine GL ?_;intro Nx Cy;obtain⟨mk,ar,rfl⟩:=getm hy;have hj:j<w.length:=by rw[<-rl.len];exact(AY.mp ar).1
   have ai:=AC hj;have ab:=rl.at_ j _ _ ar ai;have au:=ok.1 _ (EC hj);have tk:w.take (j+1)=w.take j++[w[j]]:=by rw[D0,ai];rfl
   have dk:w.drop j=w[j]::w.drop (j+1):=NH hj;rw[dk,Zb] at t;generalize w[j]=m at ai ab tk au t;generalize aQ:w.take j=g at tk t ah ⊢;refine⟨L,S,T,R,mk,us,Gs,Es,ss,m,rfl,Ar.of (y _ _ eN),SC.same y,Ar.of (y _ _ ab),au,?_⟩;refine AR ?_;cbv
   have aA:Rd D a (.dT (DY ws c g)):=by
    rcases ah with⟨u,p⟩|⟨u,_,p⟩;obtain⟨o,x⟩:=TT.dct g u;rw[p];exact .inr ⟨o,y _ _ x⟩;unfold DY;rw[Xw u];exact p
   refine Hh (λσ' n=>∃(C:Option V),σ'=[some (.ref L),some (.ref O),some (.ref (d [])),some (.ref l),some (.ref N),some (.ref a),some (.ref mk),some (.str (F5 ss m)),C]/\Ac H n/\n N=some (.lst (((ns++((TreeM.keysAt ws g).filter λE=>Ch ss q E.1 m).map (·.2)).map λk:Nat=>(k:Int)).map V.int))/\Rd n a (.dT (DY ws c g))) ?_ (λN' aB=>?_)
   case refine_2 =>
    refine⟨a,_,rfl,aA,λo G=>?_⟩
    have Q:Ac H (upd D a (.frz o (.dT (DY ws c g)))):=λb a5 e=>by
     by_cases av:b=a;subst av;rw[Aa];rcases ah with⟨u,p⟩|⟨_,p,_⟩;obtain⟨o',x⟩:=TT.dct g u;rw[<-p] at x;have x2:=y _ _ x;rcases G with G|G;rw[x2] at G;cases G;rw[x2] at G;cases G;rw[x] at e;exact e;rw[e] at p;cases p;rw[AD av];exact y _ _ e
    have M:(upd D a (.frz o (.dT (DY ws c g)))) N=_:=(AD (Ne.symm aq)).trans ag;have aw:(upd D a (.frz o (.dT (DY ws c g)))) a=some (.frz o (.dT (DY ws c g))):=Aa;generalize upd D a (.frz o (.dT (DY ws c g)))=H3 at Q M aw ⊢
    refine dP (λi σ n=>∃(C:Option V),σ=[some (.ref L),some (.ref O),some (.ref (d [])),some (.ref l),some (.ref N),some (.ref a),some (.ref mk),some (.str (F5 ss m)),C]/\Ac H n/\n N=some (.lst (((ns++(((TreeM.keysAt ws g).take i).filter λE=>Ch ss q E.1 m).map (·.2)).map λk:Nat=>(k:Int)).map V.int))/\n a=some (.frz o (.dT (DY ws c g))))
     ⟨_,rfl,Q,by rw[EE];show H3 N=some (.lst (((ns++[]).map _).map _));rw[E7];exact M,aw⟩ (λi σ n _ ae=>by obtain⟨_,_,_,_,e⟩:=ae;exact e) ?_ ?_
    rotate_left;rintro σ H4 ⟨aj,rfl,I,J,W⟩;unfold DY at J;rw[Ak,Et] at J;exact aB _ _ ⟨aj,rfl,I,J,.inr ⟨o,W⟩⟩;rintro i k aN b σ H4 hi ax ⟨aj,rfl,I,J,W⟩;unfold DY at hi;rw[A8] at hi;obtain⟨⟨x,aa⟩,hx,e⟩:=E8.mp hi;have e1:=Bq Prod.fst e;have e2:=Bq Prod.snd e;dsimp only at e1 e2;subst e1 e2;have mx:=A9 hx;have ak:x∈(TreeM.keysAt ws g).map (·.1):=AZ.mpr ⟨_,mx,rfl⟩
    have aC:EH ss x:=by
     obtain⟨kw,u,p⟩:=TreeM.keysAt_mem.mp ak;exact a7 kw u x (p.subset (by simp))
    have aD:=TT.tup g x aa mx
    have aR:Eo ws g:=by
     obtain⟨kw,u,p⟩:=TreeM.keysAt_mem.mp ak;exact .inr ⟨kw,u,(IR g _).trans p⟩
    have ay:(TreeM.keysAt ws g).take (i+1)=(TreeM.keysAt ws g).take i++[(x,aa)]:=by rw[D0,hx];rfl
    refine⟨L,S,T,R,b,us,Gs,Es,ss,x,rfl,Ar.of (I _ _ eN),SC.same I,Ar.of ax,aC,?_⟩;refine⟨Cr,λaO hp=>?_⟩;obtain⟨H5,al,r,ep⟩:=new_at (o:=.tup [.str (F5 ss x),.str (F5 ss m)]) hp;rw[<-al];have v:=I.trans r;refine⟨O,_,rfl,Dz.t (k:=FK (F5 ss x,F5 ss m)) (v _ _ eb) ep,rfl,?_⟩;rw[hb];refine Am (λh=>?_) (λh=>?_);have an:Ch ss q x m=true:=(by simpa [Ch] using h);refine⟨Or.inl ⟨rfl,_,Ae.of (r _ _ J)⟩,a,.ref (c g x),rfl,?_,Or.inr (Or.inl ⟨_,.int (aa:Int),Ar.of (v _ _ aD),rfl,_,r _ _ J,?_,?_⟩)⟩;refine .inr ⟨_,Gk x,b,.inr ⟨o,r _ _ W⟩,rfl,r _ _ ax,?_⟩;rw[Pj,Al ak];rw[Ak,Ak,AS,Ak];have u:=Oo (λE:Aq×Nat=>Ch ss q E.1 m) ((TreeM.keysAt ws g).take i);have p:=UB ws g;have h3:(((TreeM.keysAt ws g).take i)).length<=(TreeM.keysAt ws g).length:=by rw[FP];lia
    have h4:=Bq List.length t;have h5:=Zc (bet:=Ch ss q) (ws:=ws) (b:=w) (a:=[]);have h6:w.length*ws.length<=100*100:=Nat.mul_le_mul ok.2 a6;rw[AS] at h4;exact dG (by lia);refine⟨_,rfl,λb' a5 e=>?_,?_,?_⟩;rw[AD (AX e Y)];exact v _ _ e;rw[Aa,ay,KX,Jn,Al an]
    simp
    rw[AD aq];exact r _ _ W;have an:¬Ch ss q x m=true:=(by simpa [Ch] using h);refine⟨_,rfl,v,?_,r _ _ W⟩;rw[ay,KX,Jn,An an];simpa using r _ _ J
   rintro σ' H3 ⟨aj,rfl,Q,M,a1⟩;have aS:((DY ws c g).map (·.1)).length=(DY ws c g).length:=Ak _;refine⟨a,rfl,.inr ⟨_,a1⟩,λe Z=>?_⟩;obtain⟨H4,aE,I,ee⟩:=new_at (o:=.dT []) Z;rw[<-aE];refine⟨Cr,λT5 aF=>?_⟩;obtain⟨H5,al,r,aG⟩:=new_at (o:=.tup [.int 0,.ref e]) aF;rw[<-al];have X:=I.trans r;have v:=Q.trans X;have aJ:Rd H5 a (.dT (DY ws c g)):=a1.elim (λz=>.inl (X _ _ z)) λ⟨o,z⟩=>.inr ⟨o,X _ _ z⟩;have aH:e≠N:=λz=>by rw[z,M] at Z;cases Z
   refine⟨_,.inr ⟨_,Gk m,mk,aJ,rfl,v _ _ ab,rfl⟩,?_⟩;rw[Pj];have az:(ns++((TreeM.keysAt ws g).filter λE=>Ch ss q E.1 m).map (·.2))++TreeM.gat (Ch ss q) ws (g++[m]) (w.drop (j+1))=TreeM.gat (Ch ss q) ws [] w:=by rw[Gf];exact t
   by_cases A:m∈(TreeM.keysAt ws g).map (·.1);rw[Al A];obtain⟨⟨m',k⟩,hk,rfl⟩:=AZ.mp A;have aI:=TT.tup g m' k hk;have a0:=FJ.mpr A;refine Or.inr (Or.inl ⟨_,.ref (d (g++[m'])),Ar.of (v _ _ aI),rfl,?_⟩);refine⟨_,_,_,_,_,rfl,v,X _ _ M,by rw[tk];exact az,?_,.inl ⟨by rw[tk];exact a0,by rw[tk]⟩⟩;obtain⟨o,x⟩:=TT.dct _ a0;exact AX x Y;rw[An A];refine Or.inr (Or.inl ⟨_,.ref e,Ar.of aG,rfl,?_⟩);exact⟨_,_,_,_,_,rfl,v,X _ _ M,by rw[tk];exact az,aH,.inr ⟨λz=>A (FJ.mp (by rw[tk] at z;exact z)),Q.free Z,.inl (r _ _ ee)⟩⟩
inductive Ef (K:Ah) (vs:List V) (H:Hp) (Q:VK):Prop where
 |mk (nt S T R t D:Addr) (us Gs Es:List Addr) (ss:List Bh) (F G:Addr->Prop) (sts:List Cu) (inn:Int) (ord:A') (zs:List (Addr×List Aq)) (h0:vs=[.ref nt,.ref t,.ref D]) (h1:H nt=some (.tup [.ref S,.ref T,.ref R])) (h2:Dp H S us Gs Es ss) (h3:F1 K F H t sts inn ord) (h4:ord.length<=40) (h5:(∀x,(x,x)∉ord)) (h6:H D=some (.lst (zs.map λz=>V.ref z.1))) (h7:(∀z∈zs,CV G H z.1 z.2)) (h8:(∀z∈zs,JY ss z.2)) (h9:zs.length<=100) (h10:∀(P:Addr)(ys:List (Addr×List Aq))(H':Hp),H P=none->Ac H H'->H' P=some (.lst (ys.map λz=>V.ref z.1))->(∀z∈ys,CV (λl=>H l=none/\l≠P) H' z.1 z.2)->ys.map (·.2)=CH ss ord (zs.map (·.2)) (zs.map (·.2))->Q (.ref P) H'):Ef K vs H Q
def kQ (K:Ah):Sp:=λvs H Q _=>Ef K vs H Q
abbrev VJ(P w K mg base):=BB P w K mg base "seen_ways" 3 ["net", "table", "ways"] (kQ K)
theorem kS(B:BC mg)(ay:RM P w K mg base)(az:RN P w K mg base)(a0:RO P w K mg base)(F:Bp K "seen_ways" "seen_ways" Ql f fd)(L:mg "seen_ways" = some (.ref f)):VJ P w K mg base:=by
 refine BO F L Vi (λa H aq ar h=>?_) (λa9 a7 aC s H a aq ar hr h=>?_);obtain⟨nt,S,aa,ab,t,ae,us,Gs,Es,ss,F,G,ag,ah,j,d,rfl,_⟩:=h;rfl;obtain⟨nt,S,aa,ab,t,ae,us,Gs,Es,ss,F,G,ag,ah,j,d,rfl,eN,SC,TB,aw,irr,M,p,ai,lz,au⟩:=h
 refine⟨_,(Ao (AL (i:=3) Vi.nd (A5 ay (Ab (pv 1) Af)))
  (Ao (AL (i:=4) Vi.nd (Ia (A5 az (Ab (pv 2) Af))))
  (As (AK (Hg (te:=Ti (JT K) (Qv (C1 0) Md)) rfl Dc (Dk (pv 2)) (λ_ _ _ _ _=>(Az (i:=0) Dc.nd)) (λ_ _ _ _ _=>(O1 (ET (GW (A5 a0 (Ab (pv 1) (Ab (pv 2) (Ab (pv 3) (Ab (pv 0) Af))))))))) (λ_ _ _ _ _=>(GZ Qy B.b_list (Ab (pv 0) Af)))))))),?_⟩
 rfl';refine⟨t,F,ag,ah,j,rfl,TB,aw,λbp a8 aA N BD=>?_⟩;refine⟨ae,G,d,rfl,N _ _ M,λz h=>(p z h).same N,lz,λav c H2 s2 T2 aj H3 q f4=>?_⟩;have s3:=q.same s2;have T3:=T2.frz aj q f4;have a1:=BD.same s3;clear T2 aj q f4 s2 BD;have n:=N.trans s3;have lw:(Be (d.map (·.2))).length<=100:=by unfold Be;rw[Ak,List.length_zipIdx,Ak];exact lz
 have a2:∀kw∈Be (d.map (·.2)),∀m∈kw.2,EH ss m:=λkw a3 m L=>by
  obtain⟨z,h1,h2⟩:=AZ.mp (A9 (DB.mp a3));exact(ai z h1).1 m (by rw[h2];exact L)
 refine⟨⟨_,Ae.of (n _ _ M)⟩,QJ (xs:=d.map λz=>V.ref z.1) (λP i r C=>∃a:List (Addr×List Aq),r=(a.map λz=>V.ref z.1)/\Ac H3 C/\C P=some (.lst r)/\(∀z∈a,CV (λl=>H l=none/\l≠P) C z.1 z.2)/\a.map (·.2)=CH ss j (d.map (·.2)) ((d.map (·.2)).take i)/\a.length<=i)
  (λP u=>⟨[],rfl,Bb u,Aa,λz p=>by simp at p,by rw[EE];rfl,AG _⟩) (λP i r C a4=>by obtain⟨_,_,s,_⟩:=a4;exact Ae.of (s _ _ (n _ _ M))) (λP i af r H4 RR R0 u hy O k k0=>?_) (λP r H4 u O=>?_)⟩
 refine AM λNz y=>?_;obtain⟨a,rfl,g,Q,J,A,lv⟩:=O;refine y ?_;clear y;obtain⟨z,U,rfl⟩:=getm hy;have aB:i<d.length:=(AY.mp U).1;have R:=A9 U;have ak:(d.map (·.2))[i]?=some z.2:=by rw[A8,U];rfl
 have W:=n.trans g;refine⟨nt,S,aa,ab,bp,z.1,us,Gs,Es,ss,j,_,av,c,G,z.2,rfl,W _ _ eN,SC.same W,a1.same g,T3.same g,lw,a2,(p z R).same W,ai z R,λH5 D=>?_⟩;have X:=g.trans D;have al:=n.trans X;have Y:=D _ _ Q;refine⟨rfl,Am (λh=>?_) (λh=>?_)⟩;have Z:=(QU irr).mp (CW.mp (Bm h));obtain⟨ms,ax,q,_⟩:=(p z R).same al;refine⟨z.1,_,rfl,Or.inl (Ae.of ax),λl E=>?_⟩;obtain⟨H6,a5,I,el⟩:=new_at (o:=.lst (ms.map V.ref)) E;rw[<-a5];have an:=I _ _ Y;have ao:l≠P:=λaf=>by rw[af,Y] at E;cases E
 have T:Keeps (·=P) H6 (upd H6 P (.lst (a.map (λz=>V.ref z.1)++[.ref l]))):=Keeps.one an;refine k _ _ an (by rw[Ak];exact BK (by lia)) ⟨a++[(l,z.2)],by rw[Bk];rfl,λb o e=>?_,Aa,λw a6=>?_,?_,by rw[AS,CZ];lia⟩;rw[AD (AX e u)];exact I _ _ (X _ _ e);rcases BI.mp a6 with h|h;exact((J w h).same (D.trans I)).keeps T λx hx=>hx.2;rw[AW.mp h];exact⟨ms,T.at_ _ _ el ao,(q.same I).keeps T,al.free E,ao⟩;rw[XA ak,An (by rw[Z];exact Ct),Bk,A];rfl
 have Z:((d.map (·.2)).any λv=>B7 ss j v z.2)=true:=by
  cases e:(d.map (·.2)).any λv=>B7 ss j v z.2 with
  |true=>rfl
  |false=>exact absurd (Ba (CW.mpr ((QU irr).mpr e))) h
 exact k0 _ ⟨a,rfl,X,Y,λw hw=>(J w hw).same D,by rw[XA ak,Al Z];exact A,by lia⟩;refine AM λNz y=>?_;obtain⟨a,rfl,g,Q,J,A,lv⟩:=O;refine y ?_;clear y;rw[Ak,<-Ak (f:=(·.2)),Et] at A;exact au P a H4 ((n).free u) (n.trans g) Q J A
inductive EM (K:Ah) (vs:List V) (H:Hp) (Q:VK):Prop where
 |mk (nt A t D:Addr) (x:Str) (F G:Addr->Prop) (W:Wd) (inn:Int) (ord:A') (sc st:Int) (zs:List (Addr×AO)) (h0:vs=[.ref nt,.ref t,.ref D,.str x]) (h1:Bw K H nt A t W) (h2:F1 K F H t W.sts inn ord) (h3:BS W) (h4:Bd W) (h5:ord.length<=40) (h6:(∀x,(x,x)∉ord)) (h7:(0<=sc/\sc<W.ss.length)) (h8:(0<=st/\st<W.sts.length)) (h9:H D=some (.lst (zs.map λz=>V.ref z.1))) (h10:(∀z∈zs,DU G H z.1 z.2)) (h11:Dq W sc st (zs.map (·.2))) (h12:∀(r D2 P:Addr)(ws ys:List (Addr×List Aq))(H':Hp),Ac H H'->H' r=some (.tup [.ref D,.ref D2,.ref P])->H D2=none->H' D2=some (.lst (ws.map λz=>V.ref z.1))->(∀z∈ws,CV (λl=>H l=none) H' z.1 z.2)->N4 W x (zs.map (·.2)) (ws.map (·.2))->H P=none->H' P=some (.lst (ys.map λz=>V.ref z.1))->(∀z∈ys,CV (λl=>H l=none) H' z.1 z.2)->ys.map (·.2)=CH W.ss ord (ws.map (·.2)) (ws.map (·.2))->Q (.ref r) H'):EM K vs H Q
def kU (K:Ah):Sp:=λvs H Q _=>EM K vs H Q
abbrev VL(P w K mg base):=BB P w K mg base "look_for" 4 ["net", "table", "begun", "name"] (kU K)
def kW(B:BC mg)(aa:VH P w K mg base)(ab:VJ P w K mg base)(F:Bp K "look_for" "look_for" Sr f fd)(O:mg "look_for" = some (.ref f)):VL P w K mg base:=by
 refine BO F O YO (λU H Q E h=>?_) (λaj A ak s H U Q E y h=>?_);obtain⟨j,A,t,D,x,F,G,W,L,M,k,l,m,rfl,_⟩:=h;rfl;obtain⟨j,A,t,D,x,F,G,W,L,M,k,l,m,rfl,C,V,ok,I,X,irr,e,g,Y,Z,c,q⟩:=h;obtain⟨S,T,R,us,Gs,Es,ts,qt,qs,eN,N3⟩:=C.net
 refine⟨_,(Ao (AL (i:=4) YO.nd (A5 aa (Ab (pv 0) (Ab (pv 1) (Ab (pv 2) (Ab (pv 3) Af))))))
  (As (AK (BE (Ab (pv 2) (Ab (pv 4) (Ab (A5 ab (Ab (pv 0) (Ab (pv 1) (Ab (pv 4) Af)))) Af))))))),?_⟩
 rfl';refine⟨j,A,t,D,x,G,W,m,rfl,C,ok,Y,Z,λz ae=>((c.mem _).mp (AZ.mpr ⟨z,ae,rfl⟩)).ok ok e g,I.fnd x k l _ e g c,λn d ai af a N J p=>?_⟩;have ag:∀z∈d,z.2∈D9 W x (m.map (·.2)):=λz h=>p.perm.mem_iff.mp (AZ.mpr ⟨z,h,rfl⟩)
 have lw:d.length<=100:=by
  have h1:=p.perm.length_eq;have h2:=I.fnd x k l _ e g c;rw[Ak] at h1;lia
 refine⟨j,S,T,R,t,n,us,Gs,Es,W.ss,F,_,W.sts,L,M,d,rfl,a _ _ eN,N3.sc.same a,V.same a,X,irr,N,J,λz h=>QP ok e g c (ag z h),lw,λP ys H2 hP u eP hy ah=>?_⟩;refine⟨JQ,λr y=>?_⟩;have b:=Bb (o:=.tup [.ref D,.ref n,.ref P]) y;refine q r n P d ys _ ((a.trans u).trans b) Aa af (b _ _ (u _ _ N)) (λz h=>(((J z h).mono' λ_ _ _ v=>v.1).same u).same b) p (a.free hP) (b _ _ eP) (λz h=>((hy z h).mono' λx o _ v=>a.free v.1).same b) ah
inductive DN (K:Ah) (vs:List V) (H:Hp) (Q:VK):Prop where
 |mk (nt S T R t D O:Addr) (us Gs Es:List Addr) (ss:List Bh) (F G:Addr->Prop) (sts:List Cu) (inn:Int) (ord:A') (ws:List (Addr×List Aq)) (os:List (Addr×Ow)) (h0:vs=[.ref nt,.ref t,.ref D,.ref O]) (h1:H nt=some (.tup [.ref S,.ref T,.ref R])) (h2:Dp H S us Gs Es ss) (h3:F1 K F H t sts inn ord) (h4:ord.length<=40) (h5:(∀x,(x,x)∉ord)) (h6:H D=some (.lst (ws.map λz=>V.ref z.1))) (h7:(∀z∈ws,CV G H z.1 z.2)) (h8:(∀z∈ws,JY ss z.2)) (h9:ws.length<=100) (h10:H O=some (.lst (os.map λz=>V.ref z.1))) (h11:(∀z∈os,FU G H z.1 z.2)) (h12:(∀z∈os,JY ss z.2.1)) (h13:∀(v:V)(H':Hp),Ac H H'->UH G H' v (Fi ss ord (ws.map (·.2)) (os.map (·.2)))->Q v H'):DN K vs H Q
def kX (K:Ah):Sp:=λvs H Q _=>DN K vs H Q
abbrev VM(P w K mg base):=BB P w K mg base "first_owed" 3 ["net", "table", "found", "owed"] (kX K)
def kY(B:BC mg)(ao:RM P w K mg base)(aq:RN P w K mg base)(ar:RO P w K mg base)(F:Bp K "first_owed" "first_owed" Ss f fd)(r:mg "first_owed" = some (.ref f)):VM P w K mg base:=by
 refine BO F r PL (λvs ai aj ak h=>?_) (λa2 a0 a4 s ai vs aj ak hr h=>?_);obtain⟨u,S,T,R,t,D,O,us,J,L,ss,F,G,aa,ab,b,a,k,rfl,_⟩:=h;rfl
 . obtain⟨u,S,T,R,t,D,O,us,J,L,ss,F,G,aa,ab,b,a,k,rfl,eN,SC,TB,an,irr,eD,hw,au,ae,M,ho,av,q⟩:=h
   refine⟨_,(Ao (AL (i:=4) PL.nd (A5 ao (Ab (pv 1) Af)))
    (Ao (AL (i:=5) PL.nd (Ia (A5 aq (Ab (pv 2) Af))))
    (Ao (CG Cn rfl (Dk (pv 3)) (Cp (n:=2) rfl (AH (Az (i:=6) PL.nd) (AH (Az (i:=7) PL.nd) Co))) (As (Bc (ET (GW (A5 ar (Ab (pv 0) (Ab (pv 4) (Ab (pv 5) (Ab (pv 6) Af))))))) (As (AK (BE (Ab (pv 6) (Ab (pv 7) Af))))) Bg)))
    (As (AK Gv))))),?_⟩
   rfl';refine⟨t,F,aa,ab,b,rfl,TB,an,λN a1 a3 y Q=>?_⟩;refine⟨D,G,a,rfl,y _ _ eD,λz h=>(hw z h).same y,ae,λd c H2 U W af H3 A X=>?_⟩;have Y:=A.same U;have T3:=W.frz af A X;have aw:=Q.same Y;clear W af A X U Q;have p:=y.trans Y;have lw:(Be (a.map (·.2))).length<=100:=by unfold Be;rw[Ak,List.length_zipIdx,Ak];exact ae
   have ax:∀Z∈Be (a.map (·.2)),∀m∈Z.2,EH ss m:=λZ ay m r=>by
    obtain⟨z,h1,h2⟩:=AZ.mp (A9 (DB.mp ay));exact(au z h1).1 m (by rw[h2];exact r)
   refine⟨⟨_,Ae.of (p _ _ M)⟩,EU (xs:=k.map λz=>V.ref z.1) (λi σ H'=>∃C E,σ=[some (.ref u),some (.ref t),some (.ref D),some (.ref O),some (.ref N),some (.ref (d [])),C,E]/\Ac H3 H'/\Fi ss b (a.map (·.2)) (k.map (·.2))=Fi ss b (a.map (·.2)) ((k.map (·.2)).drop i))
    ⟨none,none,rfl,λ_ _ e=>e,rfl⟩ (λi σ H' _ az=>by obtain⟨_,_,_,s,_⟩:=az;exact Ae.of (s _ _ (p _ _ M))) ?_ ?_⟩
   rotate_left;rintro σ H4 ⟨C,E,rfl,g,j⟩;rw[Ak,<-Ak (f:=(·.2)),List.drop_length] at j;refine q _ _ (p.trans g) ?_;rw[j];rfl;rintro i x σ H4 hx ⟨C,E,rfl,g,j⟩;obtain⟨z,ag,rfl⟩:=getm hx;have mz:=A9 ag;have H:=p.trans g;obtain⟨l,e1,wl⟩:=((ho z mz).same H).way;have hd:=UI (l:=k.map (·.2)) (i:=i) (x:=z.2) (by rw[A8,ag];rfl);rw[hd] at j;refine⟨_,Ar.of e1,rfl,?_⟩;refine⟨u,S,T,R,N,l,us,J,L,ss,b,_,d,c,G,z.2.1,rfl,H _ _ eN,SC.same H,aw.same g,T3.same g,lw,ax,wl,av z mz,λH5 s5=>?_⟩;have ah:=g.trans s5;refine⟨rfl,Am (λh=>?_) (λh=>?_)⟩;have I:=(QU irr).mp (CW.mp (Bm h));refine⟨Cr,λal hp=>?_⟩;have s6:=Bb (o:=.tup [.ref l,.int z.2.2]) hp;refine q _ _ ((p.trans ah).trans s6) ?_;rw[j,UJ I];exact⟨al,l,rfl,Aa,(wl.same s5).same s6⟩
   have I:((a.map (·.2)).any λv=>B7 ss b v z.2.1)=true:=by
    cases e:(a.map (·.2)).any λv=>B7 ss b v z.2.1 with
    |true=>rfl
    |false=>exact absurd (Ba (CW.mpr ((QU irr).mpr e))) h
   exact⟨_,_,rfl,ah,by rw[j,UK I]⟩
inductive DO (K:Ah) (vs:List V) (H:Hp) (Q:VK):Prop where
 |mk (nt S T R mk:Addr) (us Gs Es:List Addr) (ss:List Bh) (m:Aq) (h0:vs=[.ref nt,.ref mk]) (h1:Ar K H nt [.ref S,.ref T,.ref R]) (h2:Dp H S us Gs Es ss) (h3:Ar K H mk (G4 m)) (h4:EH ss m) (h5:m.2.1=("told" : Str)) (h6:∀t,H t=some (.tup (G3 (Ln ss m)))->Q (.ref t) H):DO K vs H Q
def kZ (K:Ah):Sp:=λvs H Q _=>DO K vs H Q
abbrev P5(P w K mg base):=BB P w K mg base "telling_at" 1 ["net", "mark"] (kZ K)
def lB(B:BC mg)(F:Bp K "telling_at" "telling_at" Su f fd)(c:mg "telling_at" = some (.ref f)):P5 P w K mg base:=by
 refine BO F c PM (λv H Q E h=>?_) (λaf A ag s H v Q E hr h=>?_);obtain⟨x,S,T,R,mk,us,y,z,ss,m,rfl,_⟩:=h;rfl;obtain⟨x,S,T,R,mk,us,y,z,ss,m,rfl,C,j,c,⟨n,k,Z,l,o,d,D⟩,X,q⟩:=h;have U:n<ss.length:=(AY.mp d).1;obtain⟨u,aa,G,I,ab,ae,p,⟨J,⟨tG,b1,L⟩,⟨a,M,b⟩⟩⟩:=j.get U;rw[d] at p;have N:=Bz p;rw[<-N] at L b;have W:Bl (us.map V.ref) m.1=some (.ref u):=by rw[l];exact BQ (by rw[A8,I];rfl)
 refine⟨_,(Ao (D6 (pv 1) (Cp (n:=3) rfl (AH (Az (i:=2) PM.nd) (AH (Az (i:=3) PM.nd) (AH (Az (i:=4) PM.nd) Co)))))
  (Ao (AL (i:=5) PM.nd (Ax Ay (Ax Ay (Ax Ay (pv 0) Ai) (pv 2)) Ai))
  (As (AK (Ax Ay (pv 5) (pv 4)))))),?_⟩
 rfl';refine⟨_,c,rfl,?_⟩;refine Or.inr (Or.inl ⟨_,.ref S,C,rfl,Or.inl ⟨_,.ref u,Ae.of j.top,W,Or.inr (Or.inl ⟨_,.ref G,Ar.of J,rfl,?_⟩)⟩⟩);rcases D with⟨e,_⟩|⟨_,g⟩;exact absurd (X.symm.trans e) Ut;have r:=AC g;rw[XF l o d r] at q;have t:a[k]?=some (a[k]'(by rw[b.len];exact g)):=AC _;have O:=b.at_ _ _ _ t r;have Y:Bl (a.map V.ref) m.2.2=some (.ref (a[k]'(by rw[b.len];exact g))):=by rw[o];exact BQ (by rw[A8,t];rfl)
 exact Or.inl ⟨_,_,Ae.of M,Y,q _ O⟩
inductive DP (K:Ah) (vs:List V) (H:Hp) (Q:VK):Prop where
 |mk (nt A t P:Addr) (G:Addr->Prop) (W:Wd) (ys:List (Addr×List Aq)) (h0:vs=[.ref nt,.ref A,.ref P]) (h1:Bw K H nt A t W) (h2:Bd W) (h3:H P=some (.lst (ys.map λz=>V.ref z.1))) (h4:(∀z∈ys,CV G H z.1 z.2)) (h5:(∀z∈ys,C5 W.ss z.2)) (h6:∀(v:V)(H':Hp),Ac H H'->UH G H' v (Fh W (ys.map (·.2)))->Q v H'):DP K vs H Q
def lC (K:Ah):Sp:=λvs H Q _=>DP K vs H Q
abbrev VN(P w K mg base):=BB P w K mg base "first_open" 2 ["net", "answers", "seen"] (lC K)
def lD(B:BC mg)(ak:P5 P w K mg base)(F:Bp K "first_open" "first_open" Sv f fd)(hm:mg "first_open" = some (.ref f)):VN P w K mg base:=by
 refine BO F hm Of (λvs H aa ab h=>?_) (λao A ar s H vs aa ab hr h=>?_);obtain⟨g,A,t,P,ae,W,c,rfl,_⟩:=h;rfl
 . obtain⟨g,A,t,P,ae,W,c,rfl,J,sm,L,hy,R,q⟩:=h
   obtain⟨af,ag,ah,us,Gs,Es,ts,qt,qs,eN,N3⟩:=J.net
   refine⟨_,(Ao (CG Cn rfl (Dk (pv 2)) (Az (i:=3) Of.nd) (Ao (D6 (A5 ak (Ab (pv 0) (Ab (Ax Ay (pv 3) (K5 K6 Ai)) Af))) (Cp (n:=4) rfl (AH (Az (i:=4) Of.nd) (AH (Az (i:=5) Of.nd) (AH (Az (i:=6) Of.nd) (AH (Az (i:=7) Of.nd) Co))))))
    (As (Bc (PW.pt (GY (Bv CJ (pv 6) B8 (Bs _)) (GX (ET (GW (Ax Ay (pv 1) (pv 7))))))) (As (AK (BE (Ab (pv 3) (Ab (pv 7) Af))))) Bg))))
    (As (AK Gv))),?_⟩
   try dsimp only[AF,Cx.nox,Cx.wish]
   refine⟨⟨_,Ae.of L⟩,EU (xs:=c.map λz=>V.ref z.1) (λi σ M=>∃j r u v y,σ=[some (.ref g),some (.ref A),some (.ref P),j,r,u,v,y]/\Ac H M/\Fh W (c.map (·.2))=Fh W ((c.map (·.2)).drop i))
    ⟨none,none,none,none,none,rfl,λ_ _ e=>e,rfl⟩ (λi σ M _ al=>by obtain⟨_,_,_,_,_,_,s,_⟩:=al;exact Ae.of (s _ _ L)) ?_ ?_⟩
   rotate_left;refine λσ H4 G=>AM λNz d=>?_;obtain⟨j,r,u,v,y,rfl,a,b⟩:=G;refine d ?_;clear d;rw[Ak,<-Ak (f:=(·.2)),List.drop_length] at b;refine q _ _ a ?_;rw[b];rfl;refine λi x σ H4 hx G=>AM λNz d=>?_;obtain⟨j,r,u,v,y,rfl,a,b⟩:=G;refine d ?_;clear d;obtain⟨z,S,rfl⟩:=getm hx;have C:=A9 S;have hd:=UI (l:=c.map (·.2)) (i:=i) (x:=z.2) (by rw[A8,S];rfl);rw[hd] at b;have tk:=MN sm (R z C);have N:=(hy z C).same a;obtain⟨vv,m,O,mo,aj⟩:=R z C;have T:=N;rw[O] at T;obtain⟨ms,mk,l1,l2,l3⟩:=XI T;refine Or.inl ⟨_,.ref mk,Ae.of l1,l2,g,af,ag,ah,mk,us,Gs,Es,W.ss,m,rfl,Ar.of (a _ _ eN),N3.sc.same a,Ar.of l3,mo,aj,λtp U=>?_⟩;have et:Ln W.ss m=Cv W.ss z.2:=(by rw[O,Q1]);rw[et] at U;refine⟨_,Ar.of U,rfl,?_⟩;refine⟨rfl,rfl,Am (λh=>?_) (λh=>?_)⟩;rotate_left;have hn:(Cv W.ss z.2).2.2.1≠("by" : Str):=λe=>h (Ba (by rw[e]));refine A7 ?_;refine⟨_,_,_,_,_,rfl,a,?_⟩;rw[b,Pp (An λe=>hn e.1)];have X:(Cv W.ss z.2).2.2.1=("by" : Str):=V.str.inj (Bm h);rcases tk with⟨e,_⟩|⟨_,k0,k1⟩;rw[X] at e;exact absurd e (by decide +kernel);obtain⟨k,D⟩:=Dx k0;have an:k<W.as.length:=(by lia);obtain⟨I,ai,Y,hv,hc⟩:=(J.ans.same a).get an;have Z:Bl I (Cv W.ss z.2).2.2.2=some ai:=by rw[D];exact BQ hv
   rcases hc with⟨E,rfl⟩|⟨p,ta,E,rfl,aq⟩;refine Or.inl ⟨I,_,Y,Z,rfl,Am (λ_=>?_) (λh=>absurd (Ba rfl) h)⟩;refine⟨Cr,λp hp=>?_⟩;have Q:=Bb (o:=.tup [.ref z.1,.int (Cv W.ss z.2).2.2.2]) hp;refine q _ _ (a.trans Q) ?_;rw[b,UL (q:=(Cv W.ss z.2).2.2.2) (Al ⟨X,by rw[D,Bo];exact E⟩)];exact⟨p,z.1,rfl,Aa,N.same Q⟩;refine Or.inl ⟨I,_,Y,Z,rfl,Am (λh=>absurd (Bm h) (by simp)) (λ_=>?_)⟩;refine⟨_,_,_,_,_,rfl,a,?_⟩;rw[b,Pp (An λe=>by have:=e.2;rw[D,Bo,E] at this;cases this)]
inductive Fq (K:Ah) (vs:List V) (H:Hp) (Q:VK):Prop where
 |mk (nt A t l:Addr) (G:Addr->Prop) (W:Wd) (w:List Aq) (h0:vs=[.ref nt,.ref A,.ref l]) (h1:Bw K H nt A t W) (h2:Bd W) (h3:CV G H l w) (h4:C5 W.ss w) (h5:EQ W w=none) (h6:Q (En (Bt W w)) H):Fq K vs H Q
def lF (K:Ah):Sp:=λvs H Q _=>Fq K vs H Q
abbrev VO(P w K mg base):=BB P w K mg base "meaning" 2 ["net", "answers", "way"] (lF K)
def lH(B:BC mg)(aa:P5 P w K mg base)(F:Bp K "meaning" "meaning" Sw f fd)(D:mg "meaning" = some (.ref f)):VO P w K mg base:=by
 refine BO F D Ng (λI H Q E h=>?_) (λai A aj s H I Q E hr h=>?_);obtain⟨g,A,t,l,G,W,w,rfl,_⟩:=h;rfl;obtain⟨g,A,t,l,G,W,w,rfl,j,J,o,r,d,q⟩:=h;obtain⟨S,T,R,us,L,M,ts,qt,qs,N,O⟩:=j.net;have tk:=MN J r;obtain⟨vv,m,u,U,X⟩:=r;have Y:Ln W.ss m=Cv W.ss w:=(by rw[u,Q1]);rw[u] at o;obtain⟨ms,mk,Z,l2,l3⟩:=XI o
 refine⟨_,(Ao (D6 (A5 aa (Ab (pv 0) (Ab (Ax Ay (pv 2) (K5 K6 Ai)) Af))) (Cp (n:=4) rfl (AH (Az (i:=3) Ng.nd) (AH (Az (i:=4) Ng.nd) (AH (Az (i:=5) Ng.nd) (AH (Az (i:=6) Ng.nd) Co))))))
  (Ao (Bc (Bv CJ (pv 5) B8 (Bs _)) (As (AK (pv 6))) Bg)
  (Ao (D6 (Ax Ay (pv 1) (pv 6)) (Cp (n:=2) rfl (AH (Az (i:=5) Ng.nd) (AH (Az (i:=6) Ng.nd) Co))))
  (Ao (Bc (Bv CJ (pv 5) B8 (Bs _)) (As (AK (pv 6))) Bg)
  (As (AK Gv)))))),?_⟩
 rfl';refine Or.inl ⟨_,.ref mk,Ae.of Z,l2,g,S,T,R,mk,us,L,M,W.ss,m,rfl,Ar.of N,O.sc,Ar.of l3,U,X,λtp z=>?_⟩;rw[Y] at z;refine⟨_,Ar.of z,rfl,?_⟩;refine⟨rfl,rfl,Am (λh=>?_) (λh=>?_)⟩;have ht:(Cv W.ss w).2.2.1=("thing" : Str):=V.str.inj (Bm h)
 rw[show Bt W w=some (Cv W.ss w).2.2.2 from Al ht] at q;exact q
 have x:(Cv W.ss w).2.2.1≠("thing" : Str):=λe=>h (Ba (by rw[e]));rcases tk with⟨e,_⟩|⟨ab,k0,k1⟩;exact absurd e x;obtain⟨k,a⟩:=Dx k0;have ae:k<W.as.length:=(by lia);obtain⟨C,v,af,hv,hc⟩:=j.ans.get ae;have ag:Bl C (Cv W.ss w).2.2.2=some v:=by rw[a];exact BQ hv
 rcases hc with⟨b,rfl⟩|⟨p,ta,b,rfl,ah⟩;unfold EQ at d;rw[Al ⟨ab,by rw[a,Bo];exact b⟩] at d;cases d
 have y:Bt W w=if p.1=("thing" : Str) then some p.2 else none:=by
  unfold Bt;rw[An x,a,Bo,b]
 refine Or.inl ⟨C,_,af,ag,?_⟩;refine⟨_,ah,rfl,?_⟩;refine⟨rfl,rfl,Am (λh=>?_) (λh=>?_)⟩;have c:p.1=("thing" : Str):=V.str.inj (Bm h);rw[y,Al c] at q;exact q;have c:p.1≠("thing" : Str):=λe=>h (Ba (by rw[e]));rw[y,An c] at q;exact q
inductive LH (K:Ah) (vs:List V) (H:Hp) (Q:VK):Prop where
 |mk (nt A t O r D D2 P:Addr) (F G:Addr->Prop) (W:Wd) (inn:Int) (ord:A') (ws ys:List (Addr×List Aq)) (os:List (Addr×Ow)) (at_:Int) (h0:vs=[.ref nt,.ref A,.ref t,.ref O,.ref r,.int at_]) (h1:Bw K H nt A t W) (h2:F1 K F H t W.sts inn ord) (h3:Bd W) (h4:ord.length<=40) (h5:(∀x,(x,x)∉ord)) (h6:H r=some (.tup [.ref D,.ref D2,.ref P])) (h7:H D2=some (.lst (ws.map λz=>V.ref z.1))) (h8:(∀z∈ws,CV G H z.1 z.2)) (h9:(∀z∈ws,JY W.ss z.2)) (h10:ws.length<=100) (h11:(∀z∈ws,C5 W.ss z.2)) (h12:H P=some (.lst (ys.map λz=>V.ref z.1))) (h13:(∀z∈ys,CV G H z.1 z.2)) (h14:ys.map (·.2)=CH W.ss ord (ws.map (·.2)) (ws.map (·.2))) (h15:H O=some (.lst (os.map λz=>V.ref z.1))) (h16:(∀z∈os,FU G H z.1 z.2)) (h17:(∀z∈os,JY W.ss z.2.1)) (h18:∀(v:Addr)(a:C')(w:Option Wt)(H':Hp),Ac H H'->Cb W ord (ws.map (·.2)) (os.map (·.2)) at_=(a,w)->Bj G H' (.ref v) (.tup [BU a,Ii w])->Q (.ref v) H'):LH K vs H Q
def NB (K:Ah):Sp:=λvs H Q _=>LH K vs H Q
abbrev IM(P w K mg base):=BB P w K mg base "met" 4 ["net", "answers", "table", "owed", "look", "at"] (NB K)
theorem lI(B:BC mg)(a3:VM P w K mg base)(a4:VN P w K mg base)(a5:VO P w K mg base)(F:Bp K "met" "met" NK f fd)(hm:mg "met" = some (.ref f)):IM P w K mg base:=by
 refine BO F hm Ky (λm ai av aw h=>?_) (λaL A aN s ai m av aw hr h=>?_);obtain⟨R,A,t,af,aj,ak,D2,P,F,G,W,an,ord,a,p,S,at_,rfl,_⟩:=h;rfl
 . obtain⟨R,A,t,af,aj,ak,D2,P,F,G,W,an,ord,a,p,S,at_,rfl,hC,TB,sm,a1,irr,er,a6,hw,a7,lw,a8,eP,hy,N,eO,ho,a9,q⟩:=h
   obtain⟨ax,ay,az,us,Gs,Es,ts,qt,qs,eN,N3⟩:=hC.net
   have ao:∀z∈p,C5 W.ss z.2:=λz h=>by
    have g:z.2∈p.map (·.2):=AZ.mpr ⟨z,h,rfl⟩;rw[N] at g;obtain⟨aa,r,h3⟩:=AZ.mp (N7 g);rw[<-h3];exact a8 aa r
   have ly:p.length<=100:=by
    have g:=Bq List.length N;have r:=d9 (ss:=W.ss) (ord:=ord) (all:=a.map (·.2)) (l:=a.map (·.2));rw[Ak] at g r;lia
   refine⟨_,(Ao (D6 (pv 4) (Cp (n:=3) rfl (AH (Az (i:=6) Ky.nd) (AH (Az (i:=7) Ky.nd) (AH (Az (i:=8) Ky.nd) Co)))))
    (Ao (AL (i:=9) Ky.nd (A5 a3 (Ab (pv 0) (Ab (pv 2) (Ab (pv 7) (Ab (pv 3) Af))))))
    (Ao (Bc (ET (GW (pv 9))) (As (AL (i:=9) Ky.nd (A5 a4 (Ab (pv 0) (Ab (pv 1) (Ab (pv 8) Af)))))) Bg)
    (Ao (Bc (ET (IU (pv 9))) (Ao (D6 (pv 9) (Cp (n:=2) rfl (AH (Az (i:=10) Ky.nd) (AH (Az (i:=11) Ky.nd) Co))))
     (As (AK (BE (Ab Gv (Ab (BE (Ab (pv 5) (Ab (pv 10) (Ab (pv 11) Af)))) Af)))))) Bg)
    (Ao (AL (i:=12) Ky.nd (Hg rfl GO (Dk (pv 8)) (λ_ _ _ _ _=>(Az (i:=0) GO.nd)) (λ_ _ _ _ _=>Ja) (λ_ _ _ _ _=>(A5 a5 (Ab (pv 1) (Ab (pv 2) (Ab (pv 0) Af)))))))
    (Ao (Bc (FE (BA (ZW rfl) B.b_all (Ab (Hg rfl GP (Dk (pv 12)) (λ_ _ _ _ _=>(Az (i:=0) GP.nd)) (λ_ _ _ _ _=>Ja) (λ_ _ _ _ _=>(Hv (GW (pv 0))))) Af))) (As (AK (BE (Ab (BE (Ab B8 (Ab (pv 5) Af))) (Ab Gv Af))))) Bg)
    (Ao (Bc (FE (BA (Xo rfl) B.b_any (Ab (Hg (te:=IX V8 (C1 0) (IX (OQ K) (C1 1) (tC (.int ((0:Nat):Int))))) rfl GQ (Dk (pv 12)) (λ_ _ _ _ _=>(Az (i:=0) GQ.nd)) (λ_ _ _ _ _=>Ja) (λ_ _ _ _ _=>(IZ L9 (pv 0) (Ax Ay (pv 1) Ai) (Bs _)))) Af))) (As (AK (BE (Ab (BE (Ab B8 (Ab (pv 5) Af))) (Ab Gv Af))))) Bg)
    (As (AK (BE (Ab (BE (Ab B8 (Ab (Ax Ay (pv 12) Ai) Af))) (Ab Gv Af)))))))))))),?_⟩
   rfl';refine⟨_,Ar.of er,rfl,?_⟩;refine⟨R,ax,ay,az,t,D2,af,us,Gs,Es,W.ss,F,G,W.sts,an,ord,a,S,rfl,eN,N3.sc,TB,a1,irr,a6,hw,a7,lw,eO,ho,a9,λa2 aJ T ab=>?_⟩;refine AR ?_;cbv;refine Hh (λσ' H=>∃v,σ'=[some (.ref R),some (.ref A),some (.ref t),some (.ref af),some (.ref aj),some (.int at_),some (.ref ak),some (.ref D2),some (.ref P),some v,none,none,none]/\Ac ai H/\UH G H v (Ea W ord (a.map (·.2)) (S.map (·.2)))) ?_ (λaK hN=>?_);rotate_left
   cases e:Fi W.ss ord (a.map (·.2)) (S.map (·.2)) with
   |none =>
     rw[e] at ab;obtain rfl:a2=.non:=ab;refine⟨rfl,Am (λ_=>?_) (λh=>absurd (Ba rfl) h)⟩;refine⟨R,A,t,P,G,W,p,rfl,hC.same T,sm,T _ _ eP,λz h=>(hy z h).same T,ao,λv2 H2 u aq=>?_⟩;refine hN _ _ ⟨v2,rfl,T.trans u,?_⟩;unfold Ea;rw[e];rw[N] at aq;exact aq
   |some o =>
     rw[e] at ab;obtain⟨al,l,rfl,g,r⟩:=ab;refine⟨rfl,Am (λh=>absurd (Bm h) (by simp)) (λ_=>?_)⟩;refine hN _ _ ⟨_,rfl,T,?_⟩;unfold Ea;rw[e];exact⟨al,l,rfl,g,r⟩
   rintro σ' H2 ⟨v,rfl,u,j⟩
   cases e:Ea W ord (a.map (·.2)) (S.map (·.2)) with
   |some o =>
     rw[e] at j;obtain⟨al,l,rfl,g,r⟩:=j;refine⟨rfl,Am (λ_=>?_) (λh=>absurd rfl h)⟩;refine⟨_,Ar.of g,rfl,?_⟩;refine⟨JQ,λJ D=>?_⟩;obtain⟨H3,aA,x,e3⟩:=new_at (o:=.tup [.int at_,.ref l,.int o.2]) D;rw[<-aA];refine⟨Cr,λy E=>?_⟩;have c:=Bb (o:=.tup [.non,.ref J]) E;exact q y _ _ _ ((u.trans x).trans c) (MM e) (.tup Aa (.cons .non (.cons (.tup (c _ _ e3) (.cons (.int _) (.cons ((r.same x).same c).own (.cons (.int _) .nil)))) .nil)))
   |none =>
     rw[e] at j;obtain rfl:v=.non:=j;refine⟨rfl,Am (λh=>absurd h (by decide)) (λ_=>?_)⟩;have aB:=UM (XG e)
     refine⟨⟨_,Ae.of (u _ _ eP)⟩,T6 (xs:=p.map λz=>V.ref z.1) (λM i m H=>Ac H2 H/\H M=some (.lst m)/\m=((p.map (·.2)).take i).map λw=>En (Bt W w))
      (λM hM=>⟨Bb hM,Aa,by rw[EE];rfl⟩) (λM i m H aC=>by obtain⟨s,_⟩:=aC;exact Ae.of (s _ _ (u _ _ eP))) (λM i aa m H3 RR hM aD j k=>?_) (λM m H3 hM j=>?_)⟩
     obtain⟨x,I,rfl⟩:=j;obtain⟨z,ar,rfl⟩:=getm aD;have mz:=A9 ar;have O:=u.trans x;have mo:z.2∈CH W.ss ord (a.map (·.2)) (a.map (·.2)):=by rw[<-N];exact AZ.mpr ⟨z,mz,rfl⟩
     refine⟨R,A,t,z.1,G,W,z.2,rfl,hC.same O,sm,(hy z mz).same O,ao z mz,aB _ mo,?_⟩;refine k _ _ I ?_ ⟨λb o e=>?_,Aa,?_⟩;rw[Ak,FP,Ak];exact BK (by lia);rw[AD (AX e hM)];exact x _ _ e;rw[D0,A8,ar,Bk];rfl
     obtain⟨x,I,rfl⟩:=j;rw[Ak,<-Ak (f:=(·.2)),Et,N] at I;generalize ag:CH W.ss ord (a.map (·.2)) (a.map (·.2))=d at *
     have ls:d.length<=100:=by rw[<-N,Ak];exact ly
     have O:=u.trans x;refine AR ?_;cbv;refine⟨⟨_,Ae.of I⟩,TN (xs:=d.map λw=>En (Bt W w)) (λv=>V.bl (decide (v=V.non))) (by rw[Ak];exact CI (BK (by lia))) (Ae.of I) (λa0 aa H4 D4 R4 aM c aE k4=>(k4 _ (Ac.refl _))) (λH4 D4 c aE e4=>?_)⟩;refine⟨D4,(d.map λw=>En (Bt W w)).map λv=>decide (v=V.non),rfl,Ae.of (by rw[e4,DR (f:=λv=>decide (v=V.non))];rfl),rfl,Am (λh=>?_) (λh=>?_)⟩;refine⟨Cr,λJ D=>?_⟩;obtain⟨H5,aF,C,e5⟩:=new_at (o:=.tup [.str "none",.int at_]) D;rw[<-aF];refine⟨Cr,λy E=>?_⟩;have L:=Bb (o:=.tup [.ref J,.non]) E;refine q y (some ("none",at_)) none _ (((O.trans c).trans C).trans L) ?_ (.tup Aa (.cons (.tup (L _ _ e5) (.cons (.str _) (.cons (.int _) .nil))) (.cons .non .nil)));rw[Jc e,ag,Q2 (F7.mp h)];have U:¬∀w∈d,Bt W w=none:=λz=>h (F7.mpr z)
     cases Q:d with
     |nil=>rw[Q] at U;exact absurd (λw hw=>by cases hw) U
     |cons X r0 =>
       have ae:=c _ _ I;have h0:Bl (d.map λw=>En (Bt W w)) ((0:Nat):Int)=some (En (Bt W X)):=BQ (by rw[Q];rfl);refine⟨⟨_,Ae.of ae⟩,TN (xs:=d.map λw=>En (Bt W w)) (λv=>V.bl (!decide (v=En (Bt W X)))) (by rw[Ak];exact CI (BK (by lia))) (Ae.of ae) (λa0 aa H5 D5 R5 aG C aH k5=>?_) (λH5 D5 C aH e5=>?_)⟩;obtain⟨w,_,rfl⟩:=getm aG;exact Or.inl ⟨_,_,Ae.of (C _ _ ae),h0,eW _ _,k5 _ (Ac.refl _)⟩;refine⟨D5,(d.map λw=>En (Bt W w)).map λv=>!decide (v=En (Bt W X)),rfl,Ae.of (by rw[e5,DR (f:=λv=>!decide (v=En (Bt W X)))];rfl),rfl,Am (λh5=>?_) (λh5=>?_)⟩;refine⟨Cr,λJ D=>?_⟩;obtain⟨H6,ah,L,e6⟩:=new_at (o:=.tup [.str "torn",.int at_]) D;rw[<-ah];refine⟨Cr,λy E=>?_⟩;have Y:=Bb (o:=.tup [.ref J,.non]) E;refine q y (some ("torn",at_)) none _ ((((O.trans c).trans C).trans L).trans Y) ?_ (.tup Aa (.cons (.tup (Y _ _ e6) (.cons (.str _) (.cons (.int _) .nil))) (.cons .non .nil)));have Z:=Ij.mp h5;rw[Q] at U Z;rw[Jc e,ag,Q,Q3 U Z];have Z:∀v∈d,Bt W v=Bt W X:=Classical.byContradiction λz=>h5 (Ij.mpr z);have au:=U;rw[Q] at au Z;obtain⟨n,en,ea⟩:=Q4 (at_:=at_) au Z;have aI:=C _ _ ae;rw[en] at h0;refine Or.inl ⟨_,.int n,Ae.of aI,h0,Cr,λJ D=>?_⟩;obtain⟨H6,ah,L,e6⟩:=new_at (o:=.tup [.str "thing",.int n]) D;rw[<-ah];refine⟨Cr,λy E=>?_⟩;have Y:=Bb (o:=.tup [.ref J,.non]) E;refine q y (some ("thing",n)) none _ ((((O.trans c).trans C).trans L).trans Y) ?_ (.tup Aa (.cons (.tup (Y _ _ e6) (.cons (.str _) (.cons (.int _) .nil))) (.cons .non .nil)));rw[Jc e,ag,Q,ea]
inductive Df (K:Ah) (vs:List V) (H:Hp) (Q:VK):Prop where
 |mk (nt A t D:Addr) (F:Addr->Prop) (W:Wd) (zs:List (Addr×AO)) (h0:vs=[.ref nt,.ref A,.ref t,.ref D]) (h1:Bw K H nt A t W) (h2:BS W) (h3:H D=some (.lst (zs.map λz=>V.ref z.1))) (h4:(∀z∈zs,DU F H z.1 z.2)) (h5:(∀z∈zs,Cg W z.2)) (h6:zs.length<=62) (h7:(F4 W (zs.map (·.2))).length<=62) (h8:∀(D2:Addr)(ws:List (Addr×Ow))(H':Hp),H D2=none->Ac H H'->H' D2=some (.lst (ws.map λz=>V.ref z.1))->(∀z∈ws,FU (λl=>H l=none/\l≠D2) H' z.1 z.2)->Pd W (zs.map (·.2)) (ws.map (·.2))->Q (.ref D2) H'):Df K vs H Q
def lJ (K:Ah):Sp:=λvs H Q _=>Df K vs H Q
abbrev VP(P w K mg base):=BB P w K mg base "owed_behind" 5 ["net", "answers", "table", "begun"] (lJ K)
theorem lK(B:BC mg)(a6:RL P w K mg base)(F:Bp K "owed_behind" "owed_behind" Sx f fd)(D:mg "owed_behind" = some (.ref f)):VP P w K mg base:=by
 refine BO F D Kz (λa H a0 a1 h=>?_) (λaK A aT s H a a0 a1 hr h=>?_);obtain⟨Z,A,t,af,F,W,E,rfl,_⟩:=h;rfl
 . obtain⟨Z,A,t,af,F,W,E,rfl,hC,ok,eD,hz,a7,aL,aM,a2⟩:=h
   refine⟨_,(Ao (AL (i:=4) Kz.nd (Cq Af))
    (Ao (CG Cn rfl (Dk (pv 3)) (Cp (n:=3) rfl (AH (Az (i:=5) Kz.nd) (AH (Az (i:=6) Kz.nd) (AH (Az (i:=7) Kz.nd) Co)))) (As (CG Cn rfl (Dk (A5 a6 (Ab (pv 0) (Ab (pv 1) (Ab (pv 2) (Ab (pv 6) (Ab (pv 7) Af))))))) (Cp (n:=4) rfl (AH (Az (i:=8) Kz.nd) (AH (Az (i:=9) Kz.nd) (AH (Az (i:=10) Kz.nd) (AH (Az (i:=11) Kz.nd) Co))))) (As (Bc (Bv CJ (pv 9) B8 (Bs _)) (As (C8 (C3 C0 Ev Ew Ex (pv 4) (Ab (BE (Ab (AE OT (pv 5) (Cq (Ab (pv 8) Af))) (Ab (pv 10) Af))) Af)))) Bg)))))
    (As (AK (BA (cV N2 F3 hr.units (by decide) (by decide)) B.b_sorted (Ab (pv 4) Af)))))),?_⟩
   rfl';refine⟨by decide,λP hP=>?_⟩;obtain⟨aq,a8,s1,av⟩:=new_at (o:=.lst []) hP;rw[<-a8];have ag:∀{p:Hp},Keeps (·=P) aq p->Ac H p:=λk x o e=>k.at_ _ _ (s1 _ _ e) (AX e hP)
   refine⟨⟨_,Ae.of (s1 _ _ eD)⟩,EU (xs:=E.map λz=>V.ref z.1) (λi σ p=>∃u5 u6 u7 J M N O u,σ=[some (.ref Z),some (.ref A),some (.ref t),some (.ref af),some (.ref P),u5,u6,u7,J,M,N,O]/\Keeps (·=P) aq p/\p P=some (.lst (u.map λz:Addr×Ow=>V.ref z.1))/\(∀z∈u,FU (λl=>H l=none/\l≠P) p z.1 z.2)/\u.map (·.2)=F4 W ((E.map (·.2)).take i))
    ⟨none,none,none,none,none,none,none,[],rfl,Keeps.refl λx o m e=>by rw[m,av] at e;exact⟨_,(Bz e).symm⟩,av,λz hz=>by simp at hz,by rw[EE];rfl⟩ (λi σ p _ ah=>by obtain⟨_,_,_,_,_,_,_,_,_,k,_⟩:=ah;exact Ae.of (ag k _ _ eD)) ?_ ?_⟩
   rotate_left;refine λσ H2 Q=>AM λNz d=>?_;obtain⟨u5,u6,u7,J,M,N,O,u,rfl,T,X,hw,D⟩:=Q;refine d ?_;clear d;rw[Ak,<-Ak (f:=(·.2)),Et] at D;have lw:u.length<=62:=by have:=Bq List.length D;rw[Ak] at this;lia
   refine⟨P,u.map λz=>(V.ref z.1,z.2),rfl,?_,by rw[Ak];lia,λy r=>?_,λD2 a9 hp hs ai=>?_⟩;rw[DR];exact Ae.of X;obtain⟨z,aj,rfl⟩:=AZ.mp r;exact(hw z aj).dt;obtain⟨a,r1,r2,r3,r4⟩:=Xj (c:=QO) hp;have q:=Bb (o:=.lst (a9.map (·.1))) ai;rw[r1] at q ⊢;rw[r2] at hs;have I:=ag T;refine a2 D2 a _ (I.free ai) (I.trans q) Aa (λz aj=>?_) ⟨by rw[<-D];exact r3,hs⟩;refine((hw z (r4 z aj)).mono' ?_).same q;intro x o ex hx;exact⟨hx.1,λy=>by rw[y,ai] at ex;cases ex⟩;refine λi y σ H2 r Q=>AM λNz d=>?_;obtain⟨u5,u6,u7,J,M,N,O,u,rfl,T,X,hw,D⟩:=Q;refine d ?_;clear d;obtain⟨z,ak,rfl⟩:=getm r;have aN:i<E.length:=(AY.mp ak).1;have mz:=A9 ak;have aa:=a7 z mz;have I:=ag T;refine AM λNz d=>?_;obtain⟨l,v,a5,au,e3,_⟩:=hz z mz;refine d ?_;clear d;have e1:=I _ _ a5;have aA:=aa.rng z.2.2.1 (by unfold AU;simp);have aB:(E.map (·.2))[i]?=some z.2:=by rw[A8,ak];rfl
   have aO:v.length<=100:=by
    have:=HZ W.ss.length (AU z.2) aa.nd aa.rng;rw[show(AU z.2).length=z.2.1.length+1 by unfold AU;simp] at this;have:=ok.s5;rw[e3.len];lia
   have aC:u.length<=8*i:=by
    have G:=Bq List.length D;rw[Ak] at G;have h2:=Ur (f:=λb=>(GI W b.2.1 b.2.2).filterMap (ow b)) (k:=8) ((E.map (·.2)).take i) λb=>Ek (List.length_filterMap_le _ _) (Ek (MC W b.2.1 (D8 W b.2.2) (BV W b.2.1) 0) (QM ok b.2.1));rw[FP,Ak] at h2;unfold F4 at G;have h3:min i E.length=i:=(by lia);rw[h3] at h2;lia
   refine⟨_,Ar.of e1,rfl,?_⟩;refine⟨Z,A,t,W,z.2.2.1,z.2.2.2,rfl,hC.same I,ok,aA,aa.st,λa3 R H3 hG q eG aD aw=>⟨⟨_,Ae.of eG⟩,?_⟩⟩;have aE:a3≠P:=λy=>by rw[y,X] at hG;cases hG
   have aP:R.length<=8:=by
    have e1:=Bq List.length aw;have e2:=MC W z.2.2.1 (D8 W z.2.2.2) (BV W z.2.2.1) 0;have e3:=QM ok z.2.2.1;rw[Ak] at e1;unfold GI at e1;lia
   refine EU (xs:=R.map λz=>V.ref z.1) (λj σ p=>∃J M N O a,σ=[some (.ref Z),some (.ref A),some (.ref t),some (.ref af),some (.ref P),some (.ref l),some (.int z.2.2.1),some (.int z.2.2.2),J,M,N,O]/\Keeps (·=P) H3 p/\p P=some (.lst (a.map λz:Addr×Ow=>V.ref z.1))/\(∀z∈a,FU (λl=>H l=none/\l≠P) p z.1 z.2)/\a.map (·.2)=F4 W ((E.map (·.2)).take i)++((R.map (·.2)).take j).filterMap (ow z.2)/\a.length<=8*i+j)
    ⟨_,_,_,_,u,rfl,Keeps.refl λx o m e=>by rw[m,q _ _ X] at e;exact⟨_,(Bz e).symm⟩,q _ _ X,λz h=>(hw z h).same q,by rw[D,EE];simp,aC⟩ (λj σ p _ ah=>by obtain⟨_,_,_,_,_,_,k,_⟩:=ah;exact Ae.of (k.at_ _ _ eG aE)) ?_ ?_
   rotate_left;refine λσ H4 Q=>AM λNz d=>?_;obtain⟨J,M,N,O,a,rfl,C,S,ab,ae,_⟩:=Q;refine d ?_;clear d;refine⟨_,_,_,_,_,_,_,a,rfl,⟨λx o e n=>C.at_ _ _ (q _ _ (T.at_ x o e n)) n,T.ls⟩,S,ab,?_⟩;rw[dC aB,ae,Ak,<-Ak (f:=(·.2)),Et,aw];refine λj y σ H4 r Q=>AM λNz d=>?_;obtain⟨J,M,N,O,a,rfl,C,S,ab,ae,aQ⟩:=Q;refine d ?_;clear d;obtain⟨g,al,rfl⟩:=getm r;have aR:j<R.length:=(AY.mp al).1;obtain⟨m,an,ao⟩:=aD g (A9 al);have an:=C.tup an;have ao:=C.tup ao
   have ax:((R.map (·.2)).take (j+1)).filterMap (ow z.2)=((R.map (·.2)).take j).filterMap (ow z.2)++(ow z.2 g.2).toList:=by
    rw[D0,A8,al];exact MF _ _ _
   refine⟨_,Ar.of an,rfl,?_⟩;refine⟨rfl,rfl,Am (λG=>?_) (λG=>?_)⟩;rotate_left;refine⟨_,_,_,_,a,rfl,C,S,ab,?_,by lia⟩;rw[ax,JX (λe=>G (Ba (by rw[e]))),ae];simp;have G:g.2.2.1.1=("open" : Str):=V.str.inj (Bm G);have aS:Ac H2 H3:=q;have aF:H4 l=some (.lst (v.map V.ref)):=C.at_ _ _ (q _ _ (I _ _ au)) (AX au hP);have aG:RT G4 H4 v z.2.1:=(e3.same (I.trans q)).keeps C;refine⟨Or.inl ⟨rfl,_,Ae.of S⟩,Hk,λa4 hM=>?_⟩;obtain⟨H5,aH,s5,eM⟩:=new_at (o:=.lst [.ref m]) hM;rw[<-aH];refine⟨l,a4,_,_,rfl,rfl,s5 _ _ aF,eM,by rw[Ak];exact CI (BK (by show v.length+1<=1000;lia)),λL hL=>?_⟩
   have aI:H L=none:=by
    have h4:=s5.free hL
    cases e:H L with
    |none=>rfl
    |some o=>rw[C.at_ _ _ (q _ _ (I _ _ e)) (AX e hP)] at h4;cases h4
   have ay:L≠P:=λy=>by rw[y,s5 _ _ S] at hL;cases hL
   have s6:=Bb (o:=.lst (v.map V.ref++[.ref m])) hL;have eL:(upd H5 L (.lst (v.map V.ref++[.ref m]))) L=some (.lst ((v++[m]).map V.ref)):=by rw[Aa,Bk];rfl
   generalize upd H5 L (.lst (v.map V.ref++[.ref m]))=H6 at s6 eL ⊢;refine⟨Cr,λar hr=>?_⟩;obtain⟨H7,aJ,s7,er⟩:=new_at (o:=.tup [.ref L,.int g.2.2.1.2]) hr;rw[<-aJ];have Y:=(s5.trans s6).trans s7;have az:=Y _ _ S;have U:Keeps (·=P) H7 (upd H7 P (.lst (a.map (λz=>V.ref z.1)++[.ref ar]))):=Keeps.one az;refine⟨_,az,by rw[Ak];exact BK (by lia),?_⟩;refine⟨_,_,_,_,a++[(ar,(z.2.1++[g.2.1],g.2.2.1.2))],rfl,(C.same Y).set rfl,by rw[Aa,Bk];rfl,λy r=>?_,?_,by rw[AS,CZ];lia⟩;rcases BI.mp r with r|r;exact((ab y r).same Y).keeps U λx hx=>hx.2;rw[AW.mp r];refine⟨L,v++[m],U.tup er,U.at_ _ _ (s7 _ _ eL) ay,?_,aI,ay⟩;exact RT.snoc ((aG.same Y).keeps U) (U.tup (Y _ _ ao));rw[ax,JW G,Bk,ae,Gf];rfl
def both{A G:Prop}(k:A->G)(a:A):G:=k a
def P6:([]:List V).length+1+1+1+1<=sizeLine:=by decide
inductive Fs (K:Ah) (vs:List V) (H:Hp) (Q:VK):Prop where
 |mk (nt A t ask u:Addr) (F:Addr->Prop) (W:Wd) (inn:Int) (ord:A') (q:Qu) (h0:vs=[.ref nt,.ref A,.ref t,.ref ask]) (h1:Bw K H nt A t W) (h2:F1 K F H t W.sts inn ord) (h3:BS W) (h4:Bd W) (h5:ord.length<=40) (h6:(∀x,(x,x)∉ord)) (h7:(0<=inn/\inn<W.sts.length)) (h8:H ask=some (.tup [.int q.1,.int q.2.1,.ref u])) (h9:H u=some (.tup (q.2.2.map V.str))) (h10:(0<=q.1/\q.1<W.ss.length)) (h11:(0<=q.2.1/\q.2.1<W.sts.length)) (h12:1<=q.2.2.length) (h13:q.2.2.length<=8) (h14:∀(r L T:Addr)(av wv:V)(lv:List V)(a:C')(w:Option Wt)(ls:List Lk)(ts:List Int)(H':Hp),Ac H H'->H' r=some (.tup [av,wv,.ref L,.ref T])->H L=none->H' L=some (.lst lv)->H' T=some (.lst (ts.map V.int))->Bj (λx=>H x=none) H' av (BU a)->Bj (λx=>H x=none) H' wv (Ii w)->AA (λx=>H x=none/\x≠L) H' lv (ls.map N6)->LU W inn ord q.1 q.2.1 q.2.2 0 a w ls ts->Q (.ref r) H'):Fs K vs H Q
def lL (K:Ah):Sp:=λvs H Q _=>Fs K vs H Q
abbrev P7(P w K mg base):=BB P w K mg base "look_up" 7 ["net", "answers", "table", "asked"] (lL K)
theorem lM(B:BC mg)(b8:VF P w K mg base)(b9:VL P w K mg base)(bA:IM P w K mg base)(bB:VP P w K mg base)(bC:RK P w K mg base)(F:Bp K "look_up" "look_up" Sy f fd)(hm:mg "look_up" = some (.ref f)):P7 P w K mg base:=by
 refine BO F hm GB (λvs H aP bx h=>?_) (λcl A cx s H vs aP bx hr h=>?_);obtain⟨X,A,t,aS,a0,F,W,Z,aa,q,rfl,_⟩:=h;rfl
 . obtain⟨X,A,t,aS,a0,F,W,Z,aa,q,rfl,hC,TB,ok,sm,aR,irr,ca,eq,eu,bD,bE,cm,cn,qk⟩:=h
   obtain⟨bz,Tn,b0,us,Gs,Es,cp,qt,qs,eN,N3⟩:=hC.net
   refine⟨_,(Ao (D6 (pv 3) (Cp (n:=3) rfl (AH (Az (i:=4) GB.nd) (AH (Az (i:=5) GB.nd) (AH (Az (i:=6) GB.nd) Co)))))
    (Ao (AL (i:=7) GB.nd (Cq Af))
    (Ao (AL (i:=8) GB.nd (Cq Af))
    (As (CG Cn rfl (N5 TK rfl B.b_enumerate (Ab (pv 6) Af)) (Cp (n:=2) rfl (AH (Az (i:=9) GB.nd) (AH (Az (i:=10) GB.nd) Co))) (Ao (AL (i:=11) GB.nd (A5 b8 (Ab (pv 0) (Ab (pv 1) (Ab (pv 2) (Ab (pv 4) (Ab (pv 5) Af)))))))
     (Ao (C8 (C3 C0 Ev Ew Ex (pv 7) (Ab (A5 b9 (Ab (pv 0) (Ab (pv 2) (Ab (pv 11) (Ab (pv 10) Af))))) Af)))
     (Ao (D6 (A5 bA (Ab (pv 0) (Ab (pv 1) (Ab (pv 2) (Ab (A5 bB (Ab (pv 0) (Ab (pv 1) (Ab (pv 2) (Ab (pv 11) Af))))) (Ab (Ax Ay (pv 7) (K5 K6 Ai)) (Ab (pv 9) Af))))))) (Cp (n:=2) rfl (AH (Az (i:=12) GB.nd) (AH (Az (i:=13) GB.nd) Co))))
     (Ao (Bc (PW.pt (IV (ET (GW (pv 12))) (IV (Bv L9 (Ax Ay (pv 12) Ai) B8 (Bs _)) (NO (Bv CJ (pv 9) (AE Hz (BA Dy B.b_len (Ab (pv 6) Af)) Ai) (Bs _)))))) (As (AK (BE (Ab (pv 12) (Ab (pv 13) (Ab (pv 7) (Ab (pv 8) Af))))))) Bg)
     (Ao (C8 (C3 C0 Ev Ew Ex (pv 8) (Ab (Ax Ay (pv 12) Ai) Af)))
     (Ao (D6 (A5 bC (Ab (pv 0) (Ab (pv 1) (Ab (Ax Ay (pv 12) Ai) Af)))) (Cp (n:=2) rfl (AH (Az (i:=14) GB.nd) (AH (Az (i:=15) GB.nd) Co))))
     (Ao (Bc (Bv CJ (pv 14) B8 (Bs _)) (As (AK (BE (Ab Gv (Ab (BE (Ab (pv 9) (Ab (Cq Af) (Ab (pv 15) Af)))) (Ab (pv 7) (Ab (pv 8) Af))))))) Bg)
     (Ao (Bc (Bv CJ (pv 14) B8 (Bs _)) (As (AK (BE (Ab (BE (Ab B8 (Ab (AE Hy (pv 9) Ai) Af))) (Ab Gv (Ab (pv 7) (Ab (pv 8) Af))))))) Bg)
     (Ao (AL (i:=4) GB.nd (pv 15))
     (As (AL (i:=5) GB.nd (Ax Ay (pv 2) Ai))))))))))))))))),?_⟩
   rfl';refine⟨_,Ar.of eq,rfl,?_⟩;refine⟨by decide,λL hL=>?_⟩;obtain⟨aQ,bF,s1,a2⟩:=new_at (o:=.lst []) hL;rw[<-bF];refine AR ?_;cbv;refine⟨by decide,λT hT=>?_⟩;have s2:=Bb (o:=.lst []) hT;have aT:(upd aQ T (.lst [])) T=some (.lst []):=Aa;have aU:=s2 _ _ a2;generalize upd aQ T (.lst [])=H2 at s2 aT aU ⊢;have aV:L≠T:=λz=>by rw[z,hT] at a2;cases a2
   have bG:H T=none:=s1.free hT;refine AR ?_;cbv
   refine⟨a0,rfl,⟨_,Ar.of ((s1.trans s2) _ _ eu)⟩,Q0 TK (xs:=q.2.2.map V.str) (λi σ H'=>∃(C D:Int)(u9 aW aX aY aZ ba bb:Option V)(d:List V)(ls:List Lk)(l:List Int),σ=[some (.ref X),some (.ref A),some (.ref t),some (.ref aS),some (.int C),some (.int D),some (.ref a0),some (.ref L),some (.ref T),u9,aW,aX,aY,aZ,ba,bb]/\Ac H H'/\H' L=some (.lst d)/\H' T=some (.lst (l.map V.int))/\AA (λx=>H x=none/\x≠L/\x≠T) H' d (ls.map N6)/\d.length=i/\l.length=i/\i<q.2.2.length/\(0<=C/\C<W.ss.length)/\(0<=D/\D<W.sts.length)/\∀a w ak al,LU W Z aa C D (q.2.2.drop i) i a w ak al->LU W Z aa q.1 q.2.1 q.2.2 0 a w (ls++ak) (l++al))
    ⟨_,_,none,none,none,none,none,none,none,[],[],[],rfl,s1.trans s2,aU,aT,.nil,rfl,rfl,by lia,bD,bE,λa w ak al z=>z⟩ (λi σ H' bH=>by obtain⟨_,_,_,_,_,_,_,_,_,_,_,_,_,s,_⟩:=bH;exact Ar.of (s _ _ eu)) ?_ ?_⟩
   rotate_left;refine λσ H' a3=>AM λNz Q=>?_;obtain⟨_,_,_,_,_,_,_,_,_,_,_,_,_,_,_,_,_,_,_,hi,_⟩:=a3;refine Q ?_;clear Q;rw[Ak] at hi;exact absurd hi (Hs _);refine λi xv Te σ H3 hx bI a3=>AM λNz Q=>?_;obtain⟨C,D,u9,aW,aX,aY,aZ,ba,bb,d,ls,l,rfl,s3,bJ,bK,bL,bM,bN,hi,R,S,ay⟩:=a3;refine Q ?_;clear Q;refine GL ?_;intro Nx Cy;obtain⟨x,bO,rfl⟩:=getm hx;have ag:=UI bO;obtain⟨H4,bP,s4,bQ⟩:=new_at (o:=.tup [.int i,.str x]) bI;rw[<-bP];have an:=s3.trans s4;have ao:=s4 _ _ bJ;have a4:=s4 _ _ bK;refine⟨_,Ar.of bQ,rfl,?_⟩;refine⟨X,A,t,W,C,D,rfl,hC.same an,ok,R,S,λaj g H5 hD s5 eD hz E=>?_⟩;refine AR ?_;cbv;have ab:=an.trans s5;have U:=s5 _ _ ao;have ah:=s5 _ _ a4;have E9:∀{Hn:Hp}{x:Addr},Ac H Hn->Hn L=some (.lst d)->Hn T=some (.lst (l.map V.int))->Hn x=none->H x=none/\x≠L/\x≠T:=λ{Hn x}s Y e2 h=>⟨s.free h,λz=>(by rw[z,Y] at h;cases h),λz=>(by rw[z,e2] at h;cases h)⟩;refine⟨Or.inl ⟨rfl,_,Ae.of U⟩,X,A,t,aj,x,F,_,W,Z,aa,C,D,g,rfl,hC.same ab,TB.same ab,ok,sm,aR,irr,R,S,eD,hz,E,λr D2 P e u H6 s6 er a5 bc hw hF hP eP c bd=>?_⟩;have bR:=ab.trans s6;have be:=s6 _ _ U;have bS:=s6 _ _ ah;have v:Keeps (·=L) H6 (upd H6 L (.lst (d++[.ref r]))):=Keeps.one be;have aq:Ac H (upd H6 L (.lst (d++[.ref r]))):=λb o af=>by rw[AD (AX af hL)];exact bR _ _ af
   have a6:(upd H6 L (.lst (d++[.ref r]))) L=some (.lst (d++[.ref r])):=Aa;refine⟨_,be,BK (by lia),?_⟩;generalize upd H6 L (.lst (d++[.ref r]))=N at v aq a6 ⊢;have nD:aj≠L:=λz=>by rw[z,ao] at hD;cases hD
   have bT:D2≠L:=λz=>by rw[z,U] at a5;cases a5
   have nP:P≠L:=λz=>by rw[z,U] at hP;cases hP
   have bf:=v.at_ _ _ bS (Ne.symm aV);have a7:=v.tup er;have a8:=v.at_ _ _ (s6 _ _ eD) nD;have aK:=v.at_ _ _ bc bT;have a9:=v.at_ _ _ eP nP;have aA:∀z∈g,DU (λx=>H x=none/\x≠L/\x≠T) N z.1 z.2:=λz h=>(((hz z h).mono' λy o _ c=>E9 an ao a4 c.1).same s6).keeps v λy c=>c.2.1;have aB:∀z∈e,CV (λx=>H x=none/\x≠L/\x≠T) N z.1 z.2:=λz h=>((hw z h).mono' λy o _ c=>E9 ab U ah c).keeps v λy c=>c.2.1;have aC:∀z∈u,CV (λx=>H x=none/\x≠L/\x≠T) N z.1 z.2:=λz h=>((c z h).mono' λy o _ c=>E9 ab U ah c).keeps v λy c=>c.2.1;have bs:AA (λx=>H x=none/\x≠L/\x≠T) N d (ls.map N6):=(((bL.same s4).same s5).same s6).keeps v λy c=>c.2.1;have cq:=E;have bg:=E.few;rw[Ak] at bg;refine⟨X,A,t,aj,_,W,g,rfl,hC.same aq,ok,a8,aA,λz bU=>((E.mem _).mp (AZ.mpr ⟨z,bU,rfl⟩)).ok ok R S,bg,sm.owd C D _ R S E,λb1 a1 H8 hO G eO ho bh=>?_⟩;have aD:=aq.trans G;have bi:=G _ _ a6;have bV:=G _ _ bf;have bj:∀z∈e,z.2∈D9 W x (g.map (·.2)):=λz h=>hF.perm.mem_iff.mp (AZ.mpr ⟨z,h,rfl⟩)
   have lw:e.length<=100:=by
    have h1:=hF.perm.length_eq;have h2:=sm.fnd x C D _ R S E;rw[Ak] at h1;lia
   have bk:∀z∈e,C5 W.ss z.2:=λz h=>UG ok R S E (bj z h);have cb:∀{x:Addr},N x=none->H x=none/\x≠L/\x≠T:=λ{x}h=>⟨aq.free h,λz=>(by rw[z,a6] at h;cases h),λz=>(by rw[z,bf] at h;cases h)⟩;refine Or.inl ⟨_,.ref r,Ae.of bi,Up _ _,X,A,t,b1,r,aj,D2,P,F,(λx=>H x=none/\x≠L/\x≠T),W,Z,aa,e,u,a1,(i:Int),rfl,hC.same aD,TB.same aD,sm,aR,irr,G _ _ a7,G _ _ aK,λz h=>(aB z h).same G,λz h=>QP ok R S E (bj z h),lw,bk,G _ _ a9,λz h=>(aC z h).same G,bd,eO,λz h=>(ho z h).mono' λy o _ c=>cb c.1,λz h=>Xl ok R S E (bh.perm.mem_iff.mp (AZ.mpr ⟨z,h,rfl⟩)),λm a w I s9 bt hm=>?_⟩;have aE:=aD.trans s9;have bl:=s9 _ _ bi;have ar:=s9 _ _ bV;obtain⟨av,wv,b2,ha,bW⟩:=hm.two;have LK:Cs W aa C D x (g.map (·.2),e.map (·.2),u.map (·.2)) (a1.map (·.2)):=⟨E,hF,bd,bh⟩
   have bm:Bj (λx=>H x=none/\x≠L/\x≠T) I (.ref r) (N6 (g.map (·.2),e.map (·.2),u.map (·.2))):=by
    have b3:=E9 an ao a4 hD;have b4:=E9 ab U ah a5;have b5:=E9 ab U ah hP
    have b6:AA (λx=>H x=none/\x≠L/\x≠T) N (g.map λz=>V.ref z.1) ((g.map (·.2)).map DX.D):=by
     rw[DR];exact AA.of_all λz h=>(aA z h).own
    have b7:AA (λx=>H x=none/\x≠L/\x≠T) N (e.map λz=>V.ref z.1) ((e.map (·.2)).map CK.D):=by
     rw[DR];exact AA.of_all λz h=>(aB z h).own
    have f3:AA (λx=>H x=none/\x≠L/\x≠T) N (u.map λz=>V.ref z.1) ((u.map (·.2)).map CK.D):=by
     rw[DR];exact AA.of_all λz h=>(aC z h).own
    exact((Bj.tup a7 (.cons (.lst a8 b3 b6) (.cons (.lst aK b4 b7) (.cons (.lst a9 b5 f3) .nil)))).same G).same s9
   have bu:AA (λx=>H x=none/\x≠L/\x≠T) I (d++[.ref r]) ((ls++[(g.map (·.2),e.map (·.2),u.map (·.2))]).map N6):=by
    rw[Bk];exact((bs.same G).same s9).snoc bm
   clear aB aC aA bs bm hw c hz ho eD bc eP er a8 aK a9 a7 v;refine⟨_,Ar.of b2,rfl,?_⟩
   have au:((∀k,a≠some (("thing" : Str),k))\/q.2.2.drop (i+1)=[])->∀O,I O=none->aP (.ref O) (upd I O (.tup [av,wv,.ref L,.ref T])):=λcg O bX=>by
    have j:=Bb (o:=.tup [av,wv,.ref L,.ref T]) bX;refine qk O L T av wv (d++[.ref r]) a w _ l _ (aE.trans j) Aa hL (j _ _ bl) (j _ _ ar) ((ha.mono λ_ _ _ h=>h.1).same j) ((bW.mono λ_ _ _ h=>h.1).same j) ((bu.mono λ_ _ _ h=>⟨h.1,h.2.1⟩).same j) ?_;have:=ay a w [(g.map (·.2),e.map (·.2),u.map (·.2))] [] (by rw[ag];exact .stop LK bt cg);rw[E7] at this;exact this
   cases a with
   |none =>
     obtain rfl:=ha.ansN;exact⟨rfl,Am (λ_=>CB ⟨P6,au (.inl λk z=>(by cases z))⟩) (λh=>absurd (Ba rfl) h)⟩
   |some p =>
     obtain⟨pa,rfl,aF⟩:=ha.ansS;refine⟨rfl,Am (λh=>absurd (Bm h) (by simp)) (λ_=>?_)⟩;refine Or.inr (Or.inl ⟨_,.str p.1,Ar.of aF,rfl,rfl,rfl,Am (λh=>?_) (λh=>?_)⟩);refine CB ⟨P6,au (.inl λk z=>?_)⟩;have:p.1=("thing" : Str):=Bq Prod.fst (Bz z);rw[this] at h;simp at h
     have hp:p.1=("thing" : Str):=Classical.byContradiction λz=>h (by
      have:decide (V.str p.1=V.str "thing")=false:=D1 λy=>z (V.str.inj y)
      rw[this];rfl)
     have az:Cb W aa (e.map (·.2)) (a1.map (·.2)) i=(some (("thing" : Str),p.2),w):=(by rw[bt,<-hp]);refine⟨_,Or.inr ⟨_,Ar.of (aE _ _ eu),rfl⟩,rfl,rfl,Am (λh2=>?_) (λh2=>?_)⟩;have e2:(i:Int)=((q.2.2.map V.str).length:Nat)-1:=V.int.inj (Bm h2);rw[Ak] at e2;exact⟨P6,au (.inr (List.drop_eq_nil_of_le (by lia)))⟩
     have bn:i+1<q.2.2.length:=by
      refine Classical.byContradiction λz=>h2 (Ba ?_);rw[Ak];congr 1;lia
     clear au;have rng:=Jd ok sm (λck hv=>by obtain⟨z,h1,rfl⟩:=AZ.mp hv;exact bk z h1) az;obtain⟨n,hn⟩:=Dx rng.1;have bo:n<W.gs.length:=(by lia);have hg:=AC bo;have aw:Keeps (·=T) I (upd I T (.lst (l.map V.int++[.int p.2]))):=Keeps.one ar;have j:Ac H (upd I T (.lst (l.map V.int++[.int p.2]))):=λb o af=>by rw[AD (AX af bG)];exact aE _ _ af
     have bv:(upd I T (.lst (l.map V.int++[.int p.2]))) T=some (.lst ((l++[p.2]).map V.int)):=by rw[Aa,Bk];rfl
     refine⟨Or.inl ⟨rfl,_,Ae.of ar⟩,Or.inr (Or.inl ⟨_,.int p.2,Ar.of aF,rfl,_,ar,by rw[Ak];exact BK (by lia),?_⟩)⟩;generalize upd I T (.lst (l.map V.int++[.int p.2]))=cs at aw j bv ⊢;have cc:=aw.at_ _ _ bl aV;have ch:=aw.tup aF;have cj:=bu.keeps aw λy c=>c.2.2;have cd:=hC.same j;refine Or.inr (Or.inl ⟨_,.int p.2,Ar.of ch,rfl,X,bz,Tn,b0,A,W.gs,W.as,p.2,n,W.gs[n],rfl,hn,hg,Ar.of (j _ _ eN),⟨_,Ae.of (j _ _ N3.et),(N3.tg.same j).dts⟩,cd.ans,ok.net,λb ct hb ax eb=>?_⟩);have ai:=j.trans ax;have aL:=ax _ _ cc;have aM:=ax _ _ bv;have aO:=cj.same ax
     have ei:Cc W p.2=C4 W.gs W.as W.gs[n]:=by
      show(match W.gs[p.2.toNat]? with|some p=>C4 W.gs W.as p|none=>("no",0))=_
      rw[hn,Bo,hg]
     obtain⟨y2,O,bw⟩:∃y2 O,q.2.2.drop (i+1)=y2::O:=⟨_,_,NH bn⟩;rw[bw] at ag;refine⟨_,Ar.of eb,rfl,?_⟩;generalize bp:C4 W.gs W.as W.gs[n]=J at *;refine⟨rfl,rfl,Am (λh3=>?_) (λh3=>?_)⟩
     have e3:J.1=("open" : Str):=V.str.inj (Bm h3);refine⟨by decide,λe0 bq=>?_⟩;obtain⟨bY,aN,aG,bZ⟩:=new_at (o:=.lst []) bq;rw[<-aN];refine⟨JQ,λY aH=>?_⟩;obtain⟨cu,cf,br,aI⟩:=new_at (o:=.tup [.int i,.ref e0,.int J.2]) aH;rw[<-cf];refine⟨P6,λr3 aJ=>?_⟩;have ae:=Bb (o:=.tup [.non,.ref Y,.ref L,.ref T]) aJ;have M:=(aG.trans br).trans ae;refine qk r3 L T .non (.ref Y) (d++[.ref r]) none (some ((i:Int),[],J.2)) _ _ _ (ai.trans M) Aa hL (M _ _ aL) (M _ _ aM) .non (.tup (ae _ _ aI) (.cons (.int _) (.cons (.lst ((br.trans ae) _ _ bZ) (ai.free bq) .nil) (.cons (.int _) .nil)))) ((aO.mono λ_ _ _ h=>⟨h.1,h.2.1⟩).same M) ?_;exact ay none (some ((i:Int),[],J.2)) [(g.map (·.2),e.map (·.2),u.map (·.2))] [p.2] (by rw[ag];exact .opn LK az (ei.trans (Prod.ext e3 rfl)));have e3:J.1≠("open" : Str):=λz=>h3 (Ba (by rw[z]));refine⟨rfl,rfl,Am (λh4=>?_) (λh4=>?_)⟩;have e4:J.1=("no" : Str):=V.str.inj (Bm h4);refine⟨Cr,λY aH=>?_⟩;obtain⟨bY,aN,aG,aI⟩:=new_at (o:=.tup [.str "none",.int ((i:Int)+1)]) aH;rw[<-aN];refine⟨P6,λr3 aJ=>?_⟩;have ae:=Bb (o:=.tup [.ref Y,.non,.ref L,.ref T]) aJ;have M:=aG.trans ae;refine qk r3 L T (.ref Y) .non (d++[.ref r]) (some (("none" : Str),(i:Int)+1)) none _ _ _ (ai.trans M) Aa hL (M _ _ aL) (M _ _ aM) (.tup (ae _ _ aI) (.cons (.str _) (.cons (.int _) .nil))) .non ((aO.mono λ_ _ _ h=>⟨h.1,h.2.1⟩).same M) ?_;exact ay (some (("none" : Str),(i:Int)+1)) none [(g.map (·.2),e.map (·.2),u.map (·.2))] [p.2] (by rw[ag];exact .no LK az (ei.trans (Prod.ext e4 rfl)));have e4:J.1≠("no" : Str):=λz=>h4 (Ba (by rw[z]))
     have e5:J.1=("to" : Str):=by
      have:=fA W.gs W.as W.gs[n];rw[bp] at this;rcases this with h|h|h;exact h;exact absurd h e3;exact absurd h e4
     have rg:=Uo ok (EC bo) bp e5;refine AM λNz Q=>?_;obtain⟨ta,o,cv,cw,et,_⟩:=TB.ex;refine Q ?_;clear Q;refine AR ?_;cbv;refine Or.inr (Or.inl ⟨_,.int Z,Ar.of (ai _ _ et),rfl,?_⟩);refine⟨J.2,Z,_,_,_,_,_,_,_,d++[.ref r],ls++[(g.map (·.2),e.map (·.2),u.map (·.2))],l++[p.2],rfl,ai,aL,aM,aO,by simp[bM],by simp[bN],bn,rg,ca,λa w ak al z=>?_⟩;rw[Gf,Gf];refine ay a w _ _ ?_;rw[ag];rw[bw] at z;exact .go LK az (ei.trans (Prod.ext e5 rfl)) z
inductive Ft (K:Ah) (vs:List V) (H:Hp) (Q:VK):Prop where
 |mk (nt A t:Addr) (W:Wd) (n:Int) (h0:vs=[.ref nt,.int n]) (h1:Bw K H nt A t W) (h2:(0<=n/\n<W.gs.length)) (h3:∀(D:Addr)(H':Hp),H D=none->Ac H H'->H' D=some (.lst ((Fl W.gs n).map V.int))->Q (.ref D) H'):Ft K vs H Q
def lN (K:Ah):Sp:=λvs H Q _=>Ft K vs H Q
abbrev RP(P w K mg base):=BB P w K mg base "of_sort" 1 ["net", "thing"] (lN K)
def lO(B:BC mg)(F:Bp K "of_sort" "of_sort" Sz f fd)(b:mg "of_sort" = some (.ref f)):RP P w K mg base:=by
 refine BO F b Vj (λr H Q E h=>?_) (λM A N s H r Q E C h=>?_);obtain⟨u,A,t,W,n,rfl,_⟩:=h;rfl;obtain⟨u,A,t,W,n,rfl,v,x,q⟩:=h;obtain⟨S,T,R,us,G,I,c,J,L,y,d⟩:=v.net;obtain⟨m,b⟩:=Dx x.1;have j:m<W.gs.length:=(by lia);have o:m<c.length:=by rw[d.tg.len];exact j
 have k:W.gs[n.toNat]?=some W.gs[m]:=by rw[b,Bo];exact AC j
 have g:=d.tg.at_ m _ _ (AC o) (AC j);have l:Bl (c.map V.ref) n=some (.ref c[m]):=by rw[b];exact BQ (by rw[A8,AC o];rfl)
 generalize W.gs[m]=p at k g;generalize c[m]=z at l g
 have eq:Fl W.gs n=if p.1=("sort" : Str) then[p.2] else[]:=by unfold Fl;rw[k]
 refine⟨_,(Ao (D6 (Ax Ay (Ax Ay (pv 0) Ai) (pv 1)) (Cp (n:=2) rfl (AH (Az (i:=2) Vj.nd) (AH (Az (i:=3) Vj.nd) Co))))
  (Ao (Bc (Bv CJ (pv 2) B8 (Bs _)) (As (AK (Cq (Ab (pv 3) Af)))) Bg)
  (As (AK (Cq Af))))),?_⟩
 rfl';refine Or.inr (Or.inl ⟨_,.ref T,Ar.of y,rfl,Or.inl ⟨_,.ref z,Ae.of d.et,l,?_⟩⟩);refine⟨_,Ar.of g,rfl,?_⟩;refine⟨rfl,rfl,Am (λh=>?_) (λh=>?_)⟩;have e:p.1=("sort" : Str):=V.str.inj (Bm h);refine⟨Hk,λD a=>q D _ a (Bb a) ?_⟩;rw[Aa,eq,Al e];rfl;have e:p.1≠("sort" : Str):=λe=>h (Ba (by rw[e]));refine⟨by decide,λD a=>q D _ a (Bb a) ?_⟩;rw[Aa,eq,An e];rfl
inductive Eg (K:Ah) (vs:List V) (H:Hp) (Q:VK):Prop where
 |mk (nt A t:Addr) (W:Wd) (v:V) (o:C') (h0:vs=[.ref nt,v]) (h1:Bw K H nt A t W) (h2:((o=none/\v=.non)\/∃p ta,o=some p/\v=.ref ta/\Ar K H ta [.str p.1,.int p.2])) (h3:(∀p,o=some p->p.1=("thing" : Str)->0<=p.2/\p.2<W.gs.length)) (h4:∀(D:Addr)(H':Hp),H D=none->Ac H H'->H' D=some (.lst ((qA W.gs o).map V.int))->Q (.ref D) H'):Eg K vs H Q
def lP (K:Ah):Sp:=λvs H Q _=>Eg K vs H Q
abbrev VQ(P w K mg base):=BB P w K mg base "of_answer" 2 ["net", "answer"] (lP K)
def lQ(B:BC mg)(n:RP P w K mg base)(F:Bp K "of_answer" "of_answer" SA f fd)(i:mg "of_answer" = some (.ref f)):VQ P w K mg base:=by
 refine BO F i iK (λj H Q E h=>?_) (λC A G s H j Q E u h=>?_);obtain⟨b,A,t,W,v,o,rfl,_⟩:=h;rfl;obtain⟨b,A,t,W,v,o,rfl,k,l,r,q⟩:=h;have d:qA W.gs o=[]->∀D,H D=none->Q (.ref D) (upd H D (.lst [])):=λe D a=>q D _ a (Bb a) (by rw[Aa,e];rfl)
 refine⟨_,(Ao (Bc (PW.pt (IV (ET (GW (pv 1))) (NO (Bv L9 (Ax Ay (pv 1) Ai) B8 (Bs _))))) (As (AK (Cq Af))) Bg)
  (As (AK (A5 n (Ab (pv 0) (Ab (Ax Ay (pv 1) Ai) Af)))))),?_⟩
 rfl';rcases l with⟨rfl,rfl⟩|⟨p,x,rfl,rfl,g⟩;exact⟨rfl,Am (λ_=>CB ⟨by decide,d rfl⟩) (λh=>absurd (Ba rfl) h)⟩;refine⟨rfl,Am (λh=>absurd (Bm h) (by simp)) (λ_=>?_)⟩;refine Or.inr (Or.inl ⟨_,.str p.1,g,rfl,rfl,rfl,Am (λh=>?_) (λh=>?_)⟩);refine⟨by decide,d ?_⟩;refine An λe=>?_;rw[e] at h;simp at h
 have c:p.1=("thing" : Str):=Classical.byContradiction λz=>h (by
  have:decide (V.str p.1=V.str "thing")=false:=D1 λy=>z (V.str.inj y)
  rw[this];rfl)
 refine Or.inr (Or.inl ⟨_,.int p.2,g,rfl,b,A,t,W,p.2,rfl,k,r p rfl c,λD m a s e=>q D m a s ?_⟩);rw[e]
 show some (HO.lst ((Fl W.gs p.2).map V.int))=some (HO.lst ((if p.1=("thing" : Str) then Fl W.gs p.2 else[]).map V.int))
 rw[Al c]
def lT{k:Nat}{s:Bh}(h:W.ss[k]?=some s):BV W (k:Int)=s.1:=by unfold BV;rw[Bo,h]
def KR{k:Nat}(h:W.sts[k]?=some s):D8 W (k:Int)=s.1:=by unfold D8;rw[Bo,h]
inductive EN (K:Ah) (vs:List V) (H:Hp) (Q:VK):Prop where
 |mk (nt A t:Addr) (W:Wd) (v:V) (F:Addr->Prop) (bs:List AO) (h0:vs=[.ref nt,.ref A,.ref t,v]) (h1:Bw K H nt A t W) (h2:BS W) (h3:Bj F H v (.lst (bs.map DX.D))) (h4:(∀b∈bs,Cg W b)) (h5:(bs.flatMap (By W)).length<=4000) (h6:∀(D:Addr)(H':Hp),H D=none->Ac H H'->H' D=some (.lst ((bs.flatMap (By W)).map V.int))->Q (.ref D) H'):EN K vs H Q
def lU (K:Ah):Sp:=λvs H Q _=>EN K vs H Q
abbrev VR(P w K mg base):=BB P w K mg base "of_steps" 3 ["net", "answers", "table", "begun"] (lU K)
def lV(B:BC mg)(a8:RJ P w K mg base)(a9:VQ P w K mg base)(F:Bp K "of_steps" "of_steps" SD f fd)(C:mg "of_steps" = some (.ref f)):VR P w K mg base:=by
 refine BO F C Lw (λvs H a0 a1 h=>?_) (λaW A aZ s H vs a0 a1 hr h=>?_);obtain⟨J,A,t,W,a2,F,bs,rfl,_⟩:=h;rfl
 . obtain⟨J,A,t,W,a2,F,bs,rfl,L,ok,hv,aA,hl,a3⟩:=h
   obtain⟨a4,aR,aS,us,Gs,Es,ts,qt,qs,eN,N3⟩:=L.net;obtain⟨a,o,aB,b1,a5,b2,b3⟩:=L.tab;obtain⟨P,bv,rfl,eP,hb⟩:=U3 hv
   refine⟨_,(Ao (AL (i:=4) Lw.nd (Cq Af))
    (Ao (CG Cn rfl (Dk (pv 3)) (Cp (n:=3) rfl (AH (Az (i:=5) Lw.nd) (AH (Az (i:=6) Lw.nd) (AH (Az (i:=7) Lw.nd) Co)))) (As (CG Cn rfl (Dk (Ax Ay (Ax Ay (Ax Ay (pv 0) Ai) (pv 6)) Ai)) (Cp (n:=3) rfl (AH (Az (i:=8) Lw.nd) (AH (Az (i:=9) Lw.nd) (AH (Az (i:=10) Lw.nd) Co)))) (As (Bc (PW.pt (GY (Bv CJ (pv 9) B8 (Bs _)) (GX (ET (IU (A5 a8 (Ab (pv 2) (Ab (pv 7) (Ab (pv 8) Af))))))))) (Ao (C8 (C3 C0 Ev Ew Ex (pv 4) (Ab (pv 10) Af)))
          (As (C8 (C3 C0 PySem.F.slot_list_extend PySem.F.type_list_extend O3 (pv 4) (Ab (A5 a9 (Ab (pv 0) (Ab (Ax Ay (pv 1) (pv 10)) Af))) Af))))) Bg)))))
    (As (AK (pv 4))))),?_⟩
   rfl';refine⟨by decide,λD M=>?_⟩;obtain⟨aT,aC,s1,aD⟩:=new_at (o:=.lst []) M;rw[<-aC]
   refine⟨⟨_,Ae.of (s1 _ _ eP)⟩,EU (xs:=bv) (λi σ q=>∃S T U r u v,σ=[some (.ref J),some (.ref A),some (.ref t),some (.ref P),some (.ref D),S,T,U,r,u,v]/\Ac H q/\q D=some (.lst (((bs.take i).flatMap (By W)).map V.int)))
    ⟨none,none,none,none,none,none,rfl,s1,by rw[aD,EE];rfl⟩ (λi σ q _ aa=>by obtain⟨_,_,_,_,_,_,_,s,_⟩:=aa;exact Ae.of (s _ _ eP)) ?_ ?_⟩
   rotate_left;refine λσ H2 y=>AM λN c=>?_;obtain⟨S,T,U,r,u,v,rfl,g,O⟩:=y;refine c ?_;clear c;rw[hb.length,Ak,Et] at O;exact a3 D _ M g O;refine λi x σ H2 hx y=>AM λN c=>?_;obtain⟨S,T,U,r,u,v,rfl,g,O⟩:=y;refine c ?_;clear c;refine GL ?_;intro Nx Cy;obtain⟨b,ak,aE⟩:=N9 (hb.same g) hx;have al:=aA b (A9 ak);obtain⟨tb,x0,rfl,aF⟩:=M0 aE;have aG:=al.rng b.2.1 (by unfold AU;simp);have aH:=al.st;obtain⟨n,hn⟩:=Dx aG.1;obtain⟨k,hk⟩:=Dx aH.1;have an:n<W.ss.length:=(by lia);have aI:k<W.sts.length:=(by lia);refine AM λN c=>?_;obtain⟨ah,a6,E1,a7,aU,aV,g4,⟨c0,⟨tG,c1,X⟩,_⟩⟩:=N3.sc.get an;refine c ?_;clear c;have ao:=AC aI;have Y:BV W b.2.1=W.ss[n].1:=by rw[hn];exact lT g4
   have eG:D8 W b.2.2=W.sts[k].1:=by rw[hk];exact KR ao
   have aJ:Bl (us.map V.ref) b.2.1=some (.ref ah):=by rw[hn];exact BQ (by rw[A8,a7];rfl)
   have aq:=Py (f:=By W) ak;have aP:=Pz (f:=By W) (l:=bs) (i+1);rw[aq,AS] at aP;refine⟨_,Ar.of aF,rfl,?_⟩;refine Or.inr (Or.inl ⟨_,.ref a4,Ar.of (g _ _ eN),rfl,Or.inl ⟨_,.ref ah,Ae.of (g _ _ N3.sc.top),aJ,Or.inr (Or.inl ⟨_,.ref a6,Ar.of (g _ _ c0),rfl,⟨_,Ae.of (g _ _ c1)⟩,?_⟩)⟩⟩)
   refine EU (xs:=tG.map V.ref) (λj σ q=>∃r u v,σ=[some (.ref J),some (.ref A),some (.ref t),some (.ref P),some (.ref D),some x0,some (.int b.2.1),some (.int b.2.2),r,u,v]/\Ac H q/\q D=some (.lst (((bs.take i).flatMap (By W)++((BV W b.2.1).take j).flatMap (F8 W b.2.2)).map V.int)))
    ⟨_,_,_,rfl,g,by rw[O,EE];simp⟩ (λj σ q _ aa=>by obtain⟨_,_,_,_,s,_⟩:=aa;exact Ae.of (s _ _ c1)) ?_ ?_
   rotate_left;refine λσ E y=>AM λN c=>?_;obtain⟨r,u,v,rfl,d,I⟩:=y;refine c ?_;clear c;refine⟨_,_,_,_,_,_,rfl,d,?_⟩;rw[I,aq,Ak,X.len,Y,Et,<-Y];rfl;refine λj ai σ E hy y=>AM λN c=>?_;obtain⟨r,u,v,rfl,d,I⟩:=y;refine c ?_;clear c;refine GL ?_;intro Nx Cy;obtain⟨tp,ar,rfl⟩:=getm hy;have au:j<W.ss[n].1.length:=by rw[<-X.len];exact(AY.mp ar).1
   have Z:=AC au;have aw:=X.at_ j tp _ ar Z;have mp:=EC au;generalize W.ss[n].1[j]=p at Z aw mp;have ab:=Py (f:=F8 W b.2.2) (show(BV W b.2.1)[j]?=some p by rw[Y];exact Z);have ae:=Pz (f:=F8 W b.2.2) (l:=BV W b.2.1) (j+1);rw[ab,AS] at ae;have aX:(By W b).length=((BV W b.2.1).flatMap (F8 W b.2.2)).length:=rfl
   have skip:¬(p.2.1=("by" : Str)/\(Ez (D8 W b.2.2) p.1).isSome=true)->E D=some (.lst (((bs.take i).flatMap (By W)++((BV W b.2.1).take (j+1)).flatMap (F8 W b.2.2)).map V.int)):=λaK=>by
    have:F8 W b.2.2 p=[]:=An aK;rw[I,ab,this,E7]
   refine⟨_,Ar.of (d _ _ aw),rfl,?_⟩;refine⟨rfl,rfl,Am (λz=>?_) (λz=>A7 ?_)⟩;rotate_left;exact⟨_,_,_,rfl,d,skip λh=>z (Ba (by rw[h.1]))⟩;have z:p.2.1=("by" : Str):=V.str.inj (Bm z);refine⟨t,a,o,aB,W.sts,b.2.2,k,_,p.1,rfl,hk,d.seqT b1,⟨a5,d.seq b2,b3.same d⟩,ao,?_⟩;rw[<-eG]
   cases eg:Ez (D8 W b.2.2) p.1 with
   |none =>
     refine⟨rfl,Am (λh=>absurd h (by simp[En])) (λ_=>?_)⟩;exact⟨_,_,_,rfl,d,skip λh=>by rw[eg] at h;cases h.2⟩
   |some af =>
     refine⟨rfl,Am (λ_=>?_) (λh=>absurd (by simp[En]) h)⟩;have ax:F8 W b.2.2 p=p.2.2::FM W.gs W.as p.2.2:=Al ⟨z,by rw[eg];rfl⟩;have aL:=ok.by_ (EC an) mp λaj=>by rw[z] at aj;exact absurd aj (by decide +kernel)
     obtain⟨m,C⟩:=Dx aL.1;have Q:m<W.as.length:=(by lia);have ay:=Kt (gs:=W.gs) (AC Q);rw[ax,Ej] at ae;have R:Ac H (upd E D (.lst (((bs.take i).flatMap (By W)++((BV W b.2.1).take j).flatMap (F8 W b.2.2)).map V.int++[.int p.2.2]))):=λai o e=>by rw[AD (AX e M)];exact d _ _ e
     have ag:(upd E D (.lst (((bs.take i).flatMap (By W)++((BV W b.2.1).take j).flatMap (F8 W b.2.2)).map V.int++[.int p.2.2]))) D=some (.lst (((bs.take i).flatMap (By W)++((BV W b.2.1).take j).flatMap (F8 W b.2.2)).map V.int++[.int p.2.2])):=Aa;refine⟨Or.inl ⟨rfl,_,Ae.of I⟩,_,I,by rw[Ak,AS];exact M1 (by lia),?_⟩;generalize upd E D (.lst (((bs.take i).flatMap (By W)++((BV W b.2.1).take j).flatMap (F8 W b.2.2)).map V.int++[.int p.2.2]))=H4 at R ag ⊢;obtain⟨az,av,aM,aN,hc⟩:=(L.same R).ans.get Q;have aQ:Bl az p.2.2=some av:=by rw[C];exact BQ aN
     refine⟨Or.inl ⟨rfl,_,Ae.of ag⟩,Or.inl ⟨az,av,aM,aQ,J,A,t,W,av,W.as[m],rfl,L.same R,?_,λpp e G=>ok.net.t pp (by rw[<-e];exact EC Q) G,λD2 H5 aY s5 aO=>?_⟩⟩;rw[AC Q] at hc;rcases hc with⟨e1,G⟩|⟨pp,ta,e1,G,e3⟩;exact .inl ⟨Bz e1,G⟩;exact .inr ⟨pp,ta,Bz e1,G,e3⟩;refine⟨D,D2,_,_,rfl,rfl,s5 _ _ ag,aO,?_,?_⟩;have:=M3 W.gs W.as[m];rw[C,ay] at ae;rw[AS,Ak,Ak,AS,CZ];exact CI (M1 (by lia));refine⟨_,_,_,rfl,λai o e=>?_,?_⟩;rw[AD (AX e M)];exact s5 _ _ (R _ _ e);rw[Aa,ab,ax,C,ay]
     simp
inductive Dg (K:Ah) (vs:List V) (H:Hp) (Q:VK):Prop where
 |mk (nt A t:Addr) (W:Wd) (v:V) (F:Addr->Prop) (ws:List (List Aq)) (h0:vs=[.ref nt,v]) (h1:Bw K H nt A t W) (h2:Bj F H v (.lst (ws.map CK.D))) (h3:(∀w∈ws,C5 W.ss w)) (h4:(ws.flatMap (Fm W.ss)).length<=4000) (h5:∀(D:Addr)(H':Hp),H D=none->Ac H H'->H' D=some (.lst ((ws.flatMap (Fm W.ss)).map V.int))->Q (.ref D) H'):Dg K vs H Q
def lW (K:Ah):Sp:=λvs H Q _=>Dg K vs H Q
abbrev VS(P w K mg base):=BB P w K mg base "of_tellings" 2 ["net", "found"] (lW K)
def lX(B:BC mg)(ab:P5 P w K mg base)(F:Bp K "of_tellings" "of_tellings" SE f fd)(hm:mg "of_tellings" = some (.ref f)):VS P w K mg base:=by
 refine BO F hm Nh (λvs H Q E h=>?_) (λai A ak s H vs Q E hr h=>?_);obtain⟨g,A,t,W,v,F,j,rfl,_⟩:=h;rfl
 . obtain⟨g,A,t,W,v,F,j,rfl,hC,hv,he,hl,q⟩:=h
   obtain⟨S,T,R,us,Gs,Es,ts,qt,qs,eN,N3⟩:=hC.net;obtain⟨P,wv,rfl,J,L⟩:=U3 hv
   refine⟨_,(Ao (AL (i:=2) Nh.nd (Cq Af))
    (Ao (CG Cn rfl (Dk (pv 1)) (Az (i:=3) Nh.nd) (Ao (D6 (A5 ab (Ab (pv 0) (Ab (Ax Ay (pv 3) (K5 K6 Ai)) Af))) (Cp (n:=4) rfl (AH (Az (i:=4) Nh.nd) (AH (Az (i:=5) Nh.nd) (AH (Az (i:=6) Nh.nd) (AH (Az (i:=7) Nh.nd) Co))))))
     (As (Bc (Bv CJ (pv 6) B8 (Bs _)) (As (C8 (C3 C0 Ev Ew Ex (pv 2) (Ab (pv 7) Af)))) Bg))))
    (As (AK (pv 2))))),?_⟩
   rfl';refine⟨by decide,λD k=>?_⟩;obtain⟨ah,ae,M,af⟩:=new_at (o:=.lst []) k;rw[<-ae]
   refine⟨⟨_,Ae.of (M _ _ J)⟩,EU (xs:=wv) (λi σ p=>∃r u y z C,σ=[some (.ref g),some (.ref P),some (.ref D),r,u,y,z,C]/\Ac H p/\p D=some (.lst (((j.take i).flatMap (Fm W.ss)).map V.int)))
    ⟨none,none,none,none,none,rfl,M,by rw[af,EE];rfl⟩ (λi σ p _ ag=>by obtain⟨_,_,_,_,_,_,s,_⟩:=ag;exact Ae.of (s _ _ J)) ?_ ?_⟩
   rotate_left;refine λσ H2 I=>AM λN a=>?_;obtain⟨r,u,y,z,C,rfl,c,d⟩:=I;refine a ?_;clear a;rw[L.length,Ak,Et] at d;exact q D _ k c d;refine λi x σ H2 hx I=>AM λN a=>?_;obtain⟨r,u,y,z,C,rfl,c,d⟩:=I;refine a ?_;clear a;obtain⟨w,O,U⟩:=N9 (L.same c) hx;have ew:=he w (A9 O);obtain⟨vv,m,X,mo,aa⟩:=ew;rw[X] at U;refine AM λN a=>?_;obtain⟨l,ms,mk,rfl,l1,l2,l3⟩:=Ku U;refine a ?_;clear a;have et:Ln W.ss m=Cv W.ss w:=(by rw[X,Q1]);have aj:=Pz (f:=Fm W.ss) (l:=j) i;have Y:=Py (f:=Fm W.ss) O;refine Or.inl ⟨_,.ref mk,Ae.of l1,l2,g,S,T,R,mk,us,Gs,Es,W.ss,m,rfl,Ar.of (c _ _ eN),N3.sc.same c,Ar.of l3,mo,aa,λtp Z=>?_⟩;rw[et] at Z;refine⟨_,Ar.of Z,rfl,?_⟩;refine⟨rfl,rfl,Am (λh=>?_) (λh=>?_)⟩;have G:(Cv W.ss w).2.2.1=("by" : Str):=V.str.inj (Bm h);refine⟨Or.inl ⟨rfl,_,Ae.of d⟩,_,d,by rw[Ak];exact M1 (by lia),?_⟩;refine⟨_,_,_,_,_,rfl,λb o e=>?_,?_⟩;rw[AD (AX e k)];exact c _ _ e;rw[Aa,Y,Bk];unfold Fm;rw[Al G];rfl;have G:(Cv W.ss w).2.2.1≠("by" : Str):=λe=>h (Ba (by rw[e]));refine⟨_,_,_,_,_,rfl,c,?_⟩;rw[d,Y];have:Fm W.ss w=[]:=An G;rw[this,E7]
inductive CS (K:Ah) (vs:List V) (H:Hp) (Q:VK):Prop where
 |mk (nt A t L T:Addr) (F:Addr->Prop) (W:Wd) (lv:List V) (ls:List Lk) (ts:List Int) (h0:vs=[.ref nt,.ref A,.ref t,.ref L,.ref T]) (h1:Bw K H nt A t W) (h2:BS W) (h3:H L=some (.lst lv)) (h4:AA F H lv (ls.map N6)) (h5:(∀l∈ls,Iw W l)) (h6:H T=some (.lst (ts.map V.int))) (h7:(∀n∈ts,0<=n/\n<W.gs.length)) (h8:(CL W ls ts).length<=4000) (h9:(∀q∈CL W ls ts,0<=q/\q<((40:Nat):Int))) (h10:∀(D:Addr)(us:List Int)(H':Hp),H D=none->Ac H H'->H' D=some (.lst (us.map V.int))->(∀q,q∈us↔q∈CL W ls ts)->us.length<=40->Q (.ref D) H'):CS K vs H Q
def lY (K:Ah):Sp:=λvs H Q _=>CS K vs H Q
abbrev VT(P w K mg base):=BB P w K mg base "questions_of" 4 ["net", "answers", "table", "looks", "things"] (lY K)
theorem lZ(B:BC mg)(ar:VR P w K mg base)(au:VS P w K mg base)(av:RP P w K mg base)(F:Bp K "questions_of" "questions_of" SG f fd)(E:mg "questions_of" = some (.ref f)):VT P w K mg base:=by
 refine BO F E Og (λvs H ak al h=>?_) (λa6 A aA s H vs ak al hr h=>?_);obtain⟨k,A,t,L,T,F,W,lv,ls,m,rfl,_⟩:=h;rfl;obtain⟨k,A,t,L,T,F,W,lv,ls,m,rfl,Q,ok,eL,U,aw,eT,ax,O,ae,an⟩:=h;have a7:(ls.flatMap (FV W)).length<=4000:=by unfold CL at O;rw[AS] at O;lia
 refine⟨_,(Ao (AL (i:=5) Og.nd (Cq Af))
  (Ao (CG Cn rfl (Dk (pv 3)) (Cp (n:=3) rfl (AH (Az (i:=6) Og.nd) (AH (Az (i:=7) Og.nd) (AH (Az (i:=8) Og.nd) Co)))) (Ao (C8 (C3 C0 PySem.F.slot_list_extend PySem.F.type_list_extend O3 (pv 5) (Ab (A5 ar (Ab (pv 0) (Ab (pv 1) (Ab (pv 2) (Ab (pv 6) Af))))) Af)))
   (As (C8 (C3 C0 PySem.F.slot_list_extend PySem.F.type_list_extend O3 (pv 5) (Ab (A5 au (Ab (pv 0) (Ab (pv 7) Af))) Af))))))
  (Ao (CG Cn rfl (Dk (pv 4)) (Az (i:=9) Og.nd) (As (C8 (C3 C0 PySem.F.slot_list_extend PySem.F.type_list_extend O3 (pv 5) (Ab (A5 av (Ab (pv 0) (Ab (pv 9) Af))) Af)))))
  (As (AK (BA (gT rfl) B.b_sorted (Ab (GZ (Ys rfl) B.b_set (Ab (pv 5) Af)) Af))))))),?_⟩
 rfl';refine⟨by decide,λD hD=>?_⟩;obtain⟨a5,ay,s1,az⟩:=new_at (o:=.lst []) hD;rw[<-ay];have R:∀{c:Hp}{zs:List V},Ac H c->Ac H (upd c D (.lst zs)):=λs b o ab=>by rw[AD (AX ab hD)];exact s _ _ ab
 refine⟨⟨_,Ae.of (s1 _ _ eL)⟩,EU (xs:=lv) (λi σ c=>∃G I J p,σ=[some (.ref k),some (.ref A),some (.ref t),some (.ref L),some (.ref T),some (.ref D),G,I,J,p]/\Ac H c/\c D=some (.lst (((ls.take i).flatMap (FV W)).map V.int)))
  ⟨none,none,none,none,rfl,s1,by rw[az,EE];rfl⟩ (λi σ c _ X=>by obtain⟨_,_,_,_,_,s,_⟩:=X;exact Ae.of (s _ _ eL)) ?_ ?_⟩
 refine λi x σ H2 M Y=>AM λNz e=>?_;obtain⟨G,I,J,p,rfl,q,u⟩:=Y;refine e ?_;clear e;obtain⟨l,Z,a0⟩:=N9 (U.same q) M;have af:=aw l (A9 Z);refine AM λNz e=>?_;obtain⟨ao,x1,x2,x3,rfl,er,h1,h2,_⟩:=N8 a0;refine e ?_;clear e;have z:=Py (f:=FV W) Z;have aa:=Pz (f:=FV W) (l:=ls) (i+1);rw[z,AS] at aa;have hq:(FV W l).length=(l.1.flatMap (By W)).length+(l.2.1.flatMap (Fm W.ss)).length:=by unfold FV;rw[AS]
 refine⟨_,Ar.of er,rfl,?_⟩;refine⟨Or.inl ⟨rfl,_,Ae.of u⟩,k,A,t,W,x1,F,l.1,rfl,Q.same q,ok,h1,af.bo,by lia,λv r N d j=>?_⟩;refine⟨D,v,_,_,rfl,rfl,d _ _ u,j,by rw[Ak,Ak];exact CI (M1 (by lia)),?_⟩;have g:=R (zs:=((ls.take i).flatMap (FV W)).map V.int++(l.1.flatMap (By W)).map V.int) (q.trans d);have C:(upd r D (.lst (((ls.take i).flatMap (FV W)).map V.int++(l.1.flatMap (By W)).map V.int))) D=some (.lst (((ls.take i).flatMap (FV W)).map V.int++(l.1.flatMap (By W)).map V.int)):=Aa
 have ag:Bj F (upd r D (.lst (((ls.take i).flatMap (FV W)).map V.int++(l.1.flatMap (By W)).map V.int))) x2 (.lst (l.2.1.map CK.D)):=by
  obtain⟨r',y1,y2,y3,e',ah,_,a1,_⟩:=N8 ((N9 (U.same g) M).elim λl' h=>by
   have:l'=l:=Bz (h.1.symm.trans Z)
   rw[this] at h;exact h.2)
  have:ao=r':=V.ref.inj e';subst this;have a2:=(Keeps.one (H:=r) (o:=.lst (((ls.take i).flatMap (FV W)).map V.int++(l.1.flatMap (By W)).map V.int)) (d _ _ u)).tup (d _ _ er);rw[a2] at ah;have e2:=HO.tup.inj (Bz ah);cases e2;exact a1
 generalize upd r D (.lst (((ls.take i).flatMap (FV W)).map V.int++(l.1.flatMap (By W)).map V.int))=H4 at g C ag ⊢;refine⟨Or.inl ⟨rfl,_,Ae.of C⟩,k,A,t,W,x2,F,l.2.1,rfl,Q.same g,ag,af.en,by lia,λD3 H5 a8 s5 a3=>?_⟩;refine⟨D,D3,_,_,rfl,rfl,s5 _ _ C,a3,by rw[AS,Ak,Ak,Ak];exact CI (M1 (by lia)),?_⟩;refine⟨_,_,_,_,rfl,R (g.trans s5),?_⟩;rw[Aa,z];unfold FV;rw[Bk,Bk,Gf];refine λσ H2 Y=>AM λNz e=>?_;obtain⟨G,I,J,p,rfl,q,u⟩:=Y;refine e ?_;clear e;rw[U.length,Ak,Et] at u
 refine⟨⟨_,Ae.of (q _ _ eT)⟩,EU (xs:=m.map V.int) (λi σ c=>∃p,σ=[some (.ref k),some (.ref A),some (.ref t),some (.ref L),some (.ref T),some (.ref D),G,I,J,p]/\Ac H c/\c D=some (.lst ((ls.flatMap (FV W)++(m.take i).flatMap (Fl W.gs)).map V.int)))
  ⟨_,rfl,q,by rw[u,EE];simp⟩ (λi σ c _ X=>by obtain⟨_,_,s,_⟩:=X;exact Ae.of (s _ _ eT)) ?_ ?_⟩
 rintro i x σ r M ⟨p,rfl,d,j⟩;obtain⟨n,ai,rfl⟩:=getm M;have z:=Py (f:=Fl W.gs) ai;have aa:=Pz (f:=Fl W.gs) (l:=m) (i+1);rw[z,AS] at aa;have aj:=O;unfold CL at aj;rw[AS] at aj;refine⟨Or.inl ⟨rfl,_,Ae.of j⟩,k,A,t,W,n,rfl,Q.same d,ax n (A9 ai),λv H4 N g C=>?_⟩;refine⟨D,v,_,_,rfl,rfl,g _ _ j,C,by rw[Ak,Ak,AS];exact CI (M1 (by lia)),?_⟩;refine⟨_,rfl,R (d.trans g),?_⟩;rw[Aa,z]
 simp
 rintro σ r ⟨a9,rfl,d,j⟩;rw[Ak,Et] at j;refine⟨D,CL W ls m,rfl,Ae.of j,O,λaq hz=>?_⟩;refine⟨aq,CL W ls m,rfl,Aa,λds hd hs=>?_,λv ms a4 E N=>?_⟩;have:=U5 hd λy S=>ae y (hs y S);lia;exact an v ms _ (d.free ((Bb hz).free N)) ((d.trans (Bb hz)).trans (Bb N)) Aa E (U5 (a4.imp λ{a b}h=>by lia) λy S=>ae y ((E y).mp S))
inductive CA (K:Ah) (vs:List V) (H:Hp) (Q:VK):Prop where
 |mk (nt A t P U:Addr) (F:Addr->Prop) (W:Wd) (qs:List Qu) (inn:Int) (ord:A') (as:List A4) (due:List Int) (kvs:List (AN×V)) (H0:Hp) (h0:vs=[.ref nt,.ref A,.ref t,.ref P,.ref U]) (h1:Ac H0 H) (h2:H0 U=none) (h3:LN K F H0 nt t W qs inn ord) (h4:Kw W qs inn ord) (h5:Iv W qs as) (h6:E2 H A as) (h7:H U=some (.dK kvs)) (h8:Jh kvs qs.length) (h9:H P=some (.lst (due.map V.int))) (h10:(∀k∈due,0<=k/\k<qs.length)) (h11:due.length<=40) (h12:∀(R:Addr)(rv:List V)(fs:List (Int×(Str×Int)))(kvs':List (AN×V))(H':Hp),H R=none->(∀x o,H x=some o->x≠U->H' x=some o)->H' U=some (.dK kvs')->H' R=some (.lst rv)->AA M4 H' rv (fs.map fD)->fs.length<=40->FT W qs inn ord as H H' kvs kvs' due fs->Q (.ref R) H'):CA K vs H Q
def mD (K:Ah):Sp:=λvs H Q _=>CA K vs H Q
abbrev VU(P w K mg base):=BB P w K mg base "found_in_turn" 8 ["net", "answers", "table", "due", "uses"] (mD K)
def mF(B:BC mg)(aG:P7 P w K mg base)(aH:VT P w K mg base)(F:Bp K "found_in_turn" "found_in_turn" SH f fd)(hm:mg "found_in_turn" = some (.ref f)):VU P w K mg base:=by
 refine BO F hm Ni (λJ a7 a8 a9 h=>?_) (λbc A bj s a7 J a8 a9 hr h=>?_);obtain⟨nt,A,t,P,U,F,W,L,ah,ai,j,E,aj,H0,rfl,_⟩:=h;rfl
 . obtain⟨nt,A,t,P,U,F,W,L,ah,ai,j,E,aj,H0,rfl,s0,aI,hN,aa,hA,an,eU,hK,M,aY,bi,aA⟩:=h
   obtain⟨aZ,ba,R0,bd,Gs,Es,be,N,eN,N3⟩:=hN.net;have ok:=aa.all j hA;have aJ:A≠U:=λz=>by obtain⟨_,e,_⟩:=an;rw[z,eU] at e;cases e
   have aK:P≠U:=λz=>by rw[z,eU] at M;cases M
   refine⟨_,(Ao (AL (i:=5) Ni.nd (Cq Af))
    (Ao (CG Cn rfl (Dk (pv 3)) (Az (i:=6) Ni.nd) (Ao (D6 (A5 aG (Ab (pv 0) (Ab (pv 1) (Ab (pv 2) (Ab (Ax Ay (Ax Ay (pv 0) Ai) (pv 6)) Af))))) (Cp (n:=4) rfl (AH (Az (i:=7) Ni.nd) (AH (Az (i:=8) Ni.nd) (AH (Az (i:=9) Ni.nd) (AH (Az (i:=10) Ni.nd) Co))))))
     (As (Bc (ET (GW (pv 7))) (As (D6 (A5 aH (Ab (pv 0) (Ab (pv 1) (Ab (pv 2) (Ab (pv 9) (Ab (pv 10) Af)))))) (Qr (pv 4) (pv 6) (Z5 (Mq hr))))) (As (C8 (C3 C0 Ev Ew Ex (pv 5) (Ab (BE (Ab (pv 6) (Ab (pv 7) Af))) Af))))))))
    (As (AK (pv 5))))),?_⟩
   rfl';refine⟨by decide,λR u=>?_⟩;obtain⟨ag,aL,p,ab⟩:=new_at (o:=.lst []) u;rw[<-aL];have aw:=p _ _ eU;have ax:R≠U:=λz=>by rw[z,aw] at ab;cases ab
   have aM:H0 R=none:=s0.free u
   refine⟨⟨_,Ae.of (p _ _ M)⟩,EU (xs:=E.map V.int) (λi σ v=>∃u6 u7 u8 u9 ak d fs r,σ=[some (.ref nt),some (.ref A),some (.ref t),some (.ref P),some (.ref U),some (.ref R),u6,u7,u8,u9,ak]/\(∀x o,ag x=some o->x≠U->x≠R->v x=some o)/\v U=some (.dK r)/\v R=some (.lst d)/\AA M4 v d (fs.map fD)/\fs.length<=i/\FT W L ah ai j ag v aj r (E.take i) fs)
    ⟨none,none,none,none,none,[],[],aj,rfl,λx o e _ _=>e,aw,ab,.nil,AG _,⟨λf hf=>by simp at hf,λk O=>by simp at O,λk _=>rfl,hK⟩⟩ (λi σ v _ aN=>by obtain⟨_,_,_,_,_,_,_,_,_,b,_⟩:=aN;exact Ae.of (b _ _ (p _ _ M) aK (AX M u))) ?_ ?_⟩
   rotate_left;refine λσ C al=>AM λNz T=>?_;obtain⟨u6,u7,u8,u9,ak,d,fs,r,rfl,q,G,H,X,ay,g⟩:=al;refine T ?_;clear T;rw[Ak,Et] at g;refine aA R d fs r C u (λx o e n=>q _ _ (p _ _ e) n (AX e u)) G H X (by rw[Ak] at ay;lia) ⟨g.fd,λk O=>?_,g.kp,g.ko⟩;rcases g.al k O with h|⟨l,us,a,b⟩;exact .inl h;exact .inr ⟨l,us,p.free a,b⟩;refine λi x σ C hx al=>AM λNz T=>?_;obtain⟨u6,u7,u8,u9,ak,d,fs,r,rfl,q,G,H,X,ay,g⟩:=al;refine T ?_;clear T;refine GL ?_;intro Nx Cy;obtain⟨n,ao,rfl⟩:=getm hx;have bf:i<E.length:=(AY.mp ao).1;have hn:=aY n (A9 ao);obtain⟨k,O⟩:=Dx hn.1;subst O;have az:k<L.length:=(by lia);have aO:k<N.length:=by rw[N3.tq.len];exact az
   have a0:=AC aO;have ae:=AC az;obtain⟨aB,eq,eu⟩:=N3.tq.at_ k _ _ a0 ae;have aP:Bl (N.map V.ref) (k:Int)=some (.ref N[k]):=BQ (by rw[A8,a0];rfl);have aQ:=ok.q _ (A9 ae);obtain⟨ar,au,aE,g4⟩:=aQ;generalize L[k]=qk at *
   have a1:E.take (i+1)=E.take i++[(k:Int)]:=by rw[D0,ao];rfl
   have Y:Ac H0 C:=λy o e=>q _ _ (p _ _ (s0 _ _ e)) (λz=>by rw[z,aI] at e;cases e) (λz=>by rw[z,aM] at e;cases e)
   have aR:E2 C A j:=by
    refine an.go (λa J e=>q _ _ (p _ _ e) (λz=>by rw[z,eU] at e;cases e) (AX e u)) λJ e=>q _ _ (p _ _ e) aJ (AX e u)
   have aq:=(hN.same Y).lc (K:=K) aR.ans;refine Or.inr (Or.inl ⟨_,.ref R0,Ar.of (Y _ _ eN),rfl,Or.inl ⟨_,.ref N[k],Ae.of (Y _ _ N3.er),aP,nt,A,t,N[k],aB,F,W.late j,ah,ai,qk,rfl,aq.caseH,aq.tab,ok.ok,ok.sm,ok.ol,ok.irr,ok.inn,Y _ _ eq,Y _ _ eu,ar,au,aE,g4,λbb aC T2 av wv lv a w ls ts H3 Q er hL eL eT ha hw aS af=>?_⟩⟩);refine⟨_,Ar.of er,rfl,?_⟩;have Z:=hW ok.ok ok.sm ok.inn af ar au;have bg:=MO af
   cases a with
   |none =>
     obtain rfl:=ha.ansN;refine⟨rfl,Am (λ_=>?_) (λh=>absurd (Ba rfl) h)⟩;have aT:=aq.same Q;refine⟨nt,A,t,aC,T2,_,W.late j,lv,ls,ts,rfl,aT.caseH,ok.ok,eL,aS,Z.1,eT,Z.2.1,iA (W:=W.late j) aa.s3 Z.1 (by lia) (by lia),λy S=>?_,λD us H4 hD s4 eD a2 bh=>?_⟩;have h1:=YC ok.ok ok.sm Z.1 S;have h2:(W.late j).as.length=L.length:=hA.len;have:=aa.lq;lia;have c:=Q.trans s4;have a3:=c _ _ G;refine⟨U,_,rfl,HJ.k (k:=.inl (k:Int)) a3 (M1 (by have:=g.ko.len;have:=aa.lq;lia)),?_⟩;have I:C D=none:=Q.free hD;have a4:D≠U:=λz=>by rw[z,G] at I;cases I
     have tk:Tk C (upd H4 U (.dK (A1 r (.inl (k:Int)) (.ref D)))):=c.tk.trans (Kv a3);refine⟨_,_,_,_,_,d,fs,A1 r (.inl (k:Int)) (.ref D),rfl,λy o e n1 n2=>?_,Aa,?_,X.tk tk,by lia,?_⟩;rw[AD n1];exact c _ _ (q _ _ e n1 n2);rw[AD ax];exact c _ _ H;rw[a1];refine g.wait (λl J hl e=>?_) ae af (l:=D) (us:=us) ?_ ?_ (by lia) (λy S=>(YC ok.ok ok.sm Z.1 ((a2 y).mp S)).1) λy S=>(a2 y).mpr S;rw[AD λz=>by rw[z,G] at e;cases e];exact c _ _ e;refine Classical.byContradiction λz=>?_
     cases e:ag D with
     |none=>exact z e
     |some o =>
       by_cases a5:D=R;rw[a5,H] at I;cases I;rw[q _ _ e a4 a5] at I;cases I
     rw[AD a4];exact eD
   |some aD =>
     obtain⟨pa,rfl,aU⟩:=ha.ansS;refine⟨rfl,Am (λh=>absurd (Bm h) (by simp)) (λ_=>?_)⟩;have aV:=Q _ _ H;refine⟨Or.inl ⟨rfl,_,Ae.of aV⟩,Cr,λm hm=>?_⟩;obtain⟨H4,aW,s4,aF⟩:=new_at (o:=.tup [.int k,.ref pa]) hm;rw[<-aW];have c:=Q.trans s4;have a6:=c _ _ H;have aX:d.length<=1000:=by have:=X.length;rw[Ak] at this;lia
     refine⟨_,a6,BK aX,?_⟩;have tk:Tk H4 (upd H4 R (.lst (d++[.ref m]))):=U6 a6;refine⟨_,_,_,_,_,d++[.ref m],fs++[((k:Int),aD)],r,rfl,λy o e n1 n2=>?_,?_,Aa,?_,by rw[AS,CZ];lia,?_⟩;rw[AD n2];exact c _ _ (q _ _ e n1 n2);rw[AD (Ne.symm ax)];exact c _ _ G;rw[Bk];exact(X.tk (c.tk.trans tk)).snoc (.tup (tk _ _ aF) (.cons (.int _) (.cons (.tup (tk _ _ (s4 _ _ aU)) (.cons (.str _) (.cons (.int _) .nil))) .nil)));rw[a1];refine g.hit (λl J hl e=>?_) ae ⟨w,ls,ts,af⟩;rw[AD λz=>by rw[z,ab] at hl;cases hl];exact c _ _ e
inductive EO (K:Ah) (vs:List V) (H:Hp) (Q:VK):Prop where
 |mk (l N:Addr) (us:List Int) (kvs:List (AN×V)) (h0:vs=[.ref l,.ref N]) (h1:H l=some (.lst (us.map V.int))) (h2:us.length<=1000) (h3:H N=some (.dK kvs)) (h4:∀H',Ac H H'->Q (.bl (us.any λu=>(AJ kvs (.inl u)).isSome)) H'):EO K vs H Q
def Zd (K:Ah):Sp:=λvs H Q _=>EO K vs H Q
abbrev VV(P w K mg base):=BB P w K mg base "uses_one" 1 ["questions", "new"] (Zd K)
theorem mH(B:BC mg)(F:Bp K "uses_one" "uses_one" Qm f fd)(e:mg "uses_one" = some (.ref f)):VV P w K mg base:=by
 refine BO F e iL (λg H Q E h=>?_) (λC A D s H g Q E m h=>?_);obtain⟨l,N,us,b,rfl,_⟩:=h;rfl;obtain⟨l,N,us,b,rfl,c,n,o,q⟩:=h;refine⟨_,(As (AK (BA (Xo rfl) B.b_any (Ab (Hg rfl DC (Dk (pv 0)) (λ_ _ _ _ _=>(Az (i:=0) DC.nd)) (λ_ _ _ _ _=>Ja) (λ_ _ _ _ _=>(IZ (WJ (Mq m)) (pv 0) (pv 1) (by with_unfolding_all rfl)))) Af)))),?_⟩;rfl'
 refine⟨⟨_,Ae.of c⟩,TN (xs:=us.map V.int) (λv=>match v with|.int u=>V.bl (AJ b (.inl u)).isSome|_=>V.bl false) (by rw[Ak];exact CI (BK n)) (Ae.of c) (λj y p d R2 r a z t=>?_) (λp d a z x=>?_)⟩
 obtain⟨u,_,rfl⟩:=getm r;refine⟨N,_,rfl,Dz.k (k:=.inl u) (a _ _ o),?_⟩;have:=t _ (Ac.refl _);simpa using this;refine⟨d,us.map λu=>(AJ b (.inl u)).isSome,rfl,Ae.of (by rw[x,DR,DR];rfl),?_⟩;have:=q _ a;rw[List.any_map];exact this
inductive Cm (K:Ah) (vs:List V) (H:Hp) (Q:VK):Prop where
 |mk (nt A t P:Addr) (F:Addr->Prop) (W:Wd) (qs:List Qu) (inn:Int) (ord:A') (ks:List Int) (h0:vs=[.ref nt,.ref A,.ref t,.ref P]) (h1:LC K F H nt A t W qs inn ord) (h2:Je W qs inn ord) (h3:H P=some (.lst (ks.map V.int))) (h4:(∀k∈ks,0<=k/\k<qs.length)) (h5:∀H',Ac H H'->Q .non H'):Cm K vs H Q
def mK (K:Ah):Sp:=λvs H Q _=>Cm K vs H Q
abbrev VW(P w K mg base):=BB P w K mg base "refuse_tangled" 8 ["net", "answers", "table", "answered"] (mK K)
def mM(B:BC mg)(aa:P7 P w K mg base)(F:Bp K "refuse_tangled" "refuse_tangled" SI f fd)(G:mg "refuse_tangled" = some (.ref f)):VW P w K mg base:=by
 refine BO F G YQ (λI H Q E h=>?_) (λal A an s H I Q E hr h=>?_);obtain⟨d,A,t,P,F,W,e,r,v,l,rfl,_⟩:=h;rfl
 . obtain⟨d,A,t,P,F,W,e,r,v,l,rfl,m,ok,o,ab,q⟩:=h
   obtain⟨ai,T,R,us,Gs,Es,J,c,L,g⟩:=m.net;refine⟨_,(As (CG Cn rfl (Dk (pv 3)) (Az (i:=4) YQ.nd) (As (C8 (A5 aa (Ab (pv 0) (Ab (pv 1) (Ab (pv 2) (Ab (Ax Ay (Ax Ay (pv 0) Ai) (pv 4)) Af))))))))),?_⟩;try dsimp only[AF,Cx.nox,Cx.wish]
   refine⟨⟨_,Ae.of o⟩,EU (xs:=l.map V.int) (λi σ p=>∃j,σ=[some (.ref d),some (.ref A),some (.ref t),some (.ref P),j]/\Ac H p)
    ⟨none,rfl,Ac.refl _⟩ (λi σ p _ ae=>by obtain⟨_,_,s⟩:=ae;exact Ae.of (s _ _ o)) ?_ ?_⟩
   rotate_left;rintro σ M ⟨j,rfl,b⟩;exact q _ b;rintro i x σ M N ⟨j,rfl,b⟩;obtain⟨n,af,rfl⟩:=getm N;have O:=ab n (A9 af);obtain⟨k,S⟩:=Dx O.1;have y:k<e.length:=(by lia);have ag:k<c.length:=by rw[g.tq.len];exact y
   have z:=AC ag;have C:=AC y;obtain⟨u,eq,U⟩:=g.tq.at_ k _ _ z C;have ah:Bl (c.map V.ref) n=some (.ref c[k]):=by rw[S];exact BQ (by rw[A8,z];rfl)
   obtain⟨X,Y,Z,g4⟩:=ok.q _ (A9 C);have D:=m.same b;refine Or.inr (Or.inl ⟨_,.ref R,Ar.of (b _ _ L),rfl,Or.inl ⟨_,.ref c[k],Ae.of (b _ _ g.er),ah,d,A,t,c[k],u,F,W,r,v,e[k],rfl,D.caseH,D.tab,ok.ok,ok.sm,ok.ol,ok.irr,ok.inn,b _ _ eq,b _ _ U,X,Y,Z,g4,λaj ak T av wv lv a w ls J H3 s3 _ _ _ _ _ _ _ _=>?_⟩⟩);exact⟨_,rfl,b.trans s3⟩
def P8(m:Nat):((List.range m).map λj:Nat=>V.int j)=((List.range m).map λj:Nat=>(j:Int)).map V.int:=by rw[DR];rfl
def F0(h:i<m):((List.range m).map λj:Nat=>V.int j)[i]?=some (.int i):=by rw[A8,List.getElem?_range h];rfl
variable {H:Hp}{v:V}{d:Dt}
def NC{F:Addr->Prop}{e:Dt}(h:Bj F H v (.tup [d,e])):∃m x y,v=.ref m/\H m=some (.tup [x,y])/\Bj F H x d/\Bj F H y e:=by
 cases h with
 | tup h t =>
   cases t with
   |cons a t =>
     cases t with
     |cons b t =>
       cases t with
       |nil=>exact⟨_,_,_,rfl,h,a,b⟩
inductive Fu (K:Ah) (vs:List V) (H:Hp) (Q:VK):Prop where
 |mk (nt t Kn Th:Addr) (F:Addr->Prop) (W:Wd) (qs:List Qu) (inn:Int) (ord:A') (h0:vs=[.ref nt,.ref t,.ref Kn,.ref Th]) (h1:LN K F H nt t W qs inn ord) (h2:Kw W qs inn ord) (h3:H Kn=some (.lst (List.replicate qs.length .non))) (h4:H Th=some (.lst ((List.range qs.length).map λj:Nat=>V.int j))) (h5:∀(r A Tn:Addr)(n:Nat)(as:List A4)(ts:List Int)(H':Hp),Ac H H'->H A=none->H Tn=none->A≠Tn->H' r=some (.tup [.ref A,.ref Tn])->E2 H' A as->H' Tn=some (.lst (ts.map V.int))->Run W qs inn ord n as ts->Jg W qs inn ord as as->Q (.ref r) H'):Fu K vs H Q
def mO (K:Ah):Sp:=λvs H Q _=>Fu K vs H Q
abbrev VX(P w K mg base):=BB P w K mg base "settled" 9 ["net", "table", "known", "those"] (mO K)
theorem mP(B:BC mg)(bn:VU P w K mg base)(bo:VV P w K mg base)(bp:VW P w K mg base)(F:Bp K "settled" "settled" NL f fd)(hm:mg "settled" = some (.ref f)):VX P w K mg base:=by
 refine BO F hm Hr (λq H bh bi h=>?_) (λbN A bR s H q bh bi hr h=>?_);obtain⟨nt,t,Kn,Th,F,W,qs,inn,ord,rfl,_⟩:=h;rfl;obtain⟨nt,t,Kn,Th,F,W,qs,inn,ord,rfl,hN,aa,a8,ab,bj⟩:=h
 have lq:=aa.lq;generalize hm:qs.length=m at *
 refine⟨_,(Ao (AL (i:=4) Hr.nd (Hg (g:=L0 K 2 (OC (IW 0) (OC (IW 1) LZ))) (te:=V5 (tB (IX (Wo K false) (C1 0) (C1 2))) (tC .non) (C1 1)) rfl CM (N5 LK rfl B.b_enumerate (Ab (pv 2) Af)) (λ_ _ _ _ _=>(Cp (n:=2) rfl (AH (Az (i:=0) CM.nd) (AH (Az (i:=1) CM.nd) Co)))) (λ_ _ _ _ _=>Ja) (λ_ _ _ _ _=>(Zo (Bv ZG (pv 0) (pv 2) (by with_unfolding_all rfl)) Gv (pv 1)))))
  (Ao (AL (i:=5) Hr.nd (AE YA (Cq (Ab Ai Af)) (BA Dy B.b_len (Ab (pv 4) Af))))
  (Ao (AL (i:=6) Hr.nd ZP)
  (Ao (AL (i:=7) Hr.nd (pv 3))
  (Ao (AL (i:=8) Hr.nd Ai)
  (Ao (S5 Cn (WK (pv 7)) (Ao (WY (i:=8) Hr.nd rfl (Or.inl rfl) Ai V7)
   (Ao (AL (i:=9) Hr.nd (A5 bn (Ab (pv 0) (Ab (pv 4) (Ab (pv 1) (Ab (pv 7) (Ab (pv 6) Af)))))))
   (Ao (CG Cn rfl (Dk (pv 9)) (Cp (n:=2) rfl (AH (Az (i:=10) Hr.nd) (AH (Az (i:=11) Hr.nd) Co))) (Ao (D6 (pv 11) (Qr (pv 4) (pv 10) To))
    (As (D6 (pv 8) (Qr (pv 5) (pv 10) To)))))
   (Ao (AL (i:=12) Hr.nd (GZ (g9 rfl) B.b_dict (Ab (pv 9) Af)))
   (As (TM (i:=7) Hr.nd rfl (Or.inl rfl) (tc:=Ov (tB (Ou (IX (OQ K) (C1 2) (C1 0)))) (tB (HD (Zd K) [] E0 (Qv (La (C1 3) (C1 0)) (Qv (C1 1) Md))))) rfl Eb (Dk (pv 3)) (λ_ _ _ _ _=>(Az (i:=0) Eb.nd)) (λ_ _ _ _ _=>(O1 (PW.pt (GY (ET (GW (Ax Ay (pv 2) (pv 0)))) (GX (FE (A5 bo (Ab (Wx (Mq hr) (pv 3) (pv 0) (λ_ _=>rfl)) (Ab (pv 1) Af))))))))) (λ_ _ _ _ _=>(pv 0)))))))))
  (Ao (C8 (A5 bp (Ab (pv 0) (Ab (pv 4) (Ab (pv 1) (Ab (Hg (tc:=tB (K3 (IX (OQ K) (C1 1) (C1 0)))) rfl Ec (Dk (pv 3)) (λ_ _ _ _ _=>(Az (i:=0) Ec.nd)) (λ_ _ _ _ _=>(O1 (ET (IU (Ax Ay (pv 1) (pv 0)))))) (λ_ _ _ _ _=>(pv 0))) Af))))))
  (As (AK (BE (Ab (pv 4) (Ab (pv 5) Af)))))))))))),?_⟩
 rfl';refine⟨Kn,rfl,⟨_,a8⟩,iC (xs:=List.replicate m .non) (λD i C r=>Ac H r/\r D=some (.lst C)/\C=List.replicate i .non) (λD G=>⟨Bb G,Aa,rfl⟩) (λD i C H2 p=>Ae.of (p.1 _ _ a8)) (λD i x bL C H2 ah G u hT p k=>?_) (λA C bM aJ p=>?_)⟩;obtain⟨s2,bq,rfl⟩:=p;rw[List.getElem?_replicate] at u;have hi:i<m:=Classical.byContradiction λz=>by rw[An z] at u;cases u
 have N:=Bb (o:=.tup [.int i,x]) hT;refine⟨_,Ar.of Aa,rfl,?_⟩;refine⟨Th,_,rfl,Or.inl (Ae.of ((s2.trans N) _ _ ab)),rfl,iF m,rfl,Am (λ_=>?_) (λh=>absurd (M6 hi) h)⟩;refine k _ _ (N _ _ bq) (by rw[List.length_replicate];exact BK (by lia)) ⟨λb o e=>?_,Aa,?_⟩;rw[AD (AX e G)];exact N _ _ (s2 _ _ e);rw[List.replicate_succ'];obtain⟨s1,a9,rfl⟩:=p;rw[List.length_replicate] at a9;refine⟨Hk,λbk hZ=>?_⟩;obtain⟨H2,br,s2,eZ⟩:=new_at (o:=.lst [.int 0]) hZ;rw[<-br];have ao:=s2 _ _ a9;refine⟨_,Or.inl ⟨_,Ae.of ao,rfl⟩,bk,_,_,rfl,rfl,eZ,?_,?_,λy aA=>?_⟩;rw[List.length_replicate];lia;rw[List.length_replicate,Bo];show 1*m<=1000;lia;have N:=Bb (o:=.lst (List.replicate (((List.replicate m V.non).length:Nat):Int).toNat [V.int 0]).flatten) aA
 have a5:(upd H2 y (.lst (List.replicate (((List.replicate m V.non).length:Nat):Int).toNat [V.int 0]).flatten)) y=some (.lst ((List.replicate m (0:Int)).map V.int)):=by
  rw[Aa,List.length_replicate,Bo,YF,List.map_replicate]
 generalize upd H2 y (.lst (List.replicate (((List.replicate m V.non).length:Nat):Int).toNat [V.int 0]).flatten)=H3 at N a5 ⊢;intro U hU;obtain⟨H4,bs,s4,bt⟩:=new_at (o:=.dK []) hU;rw[<-bs];have aK:=s4 _ _ (N _ _ ao);have bc:=s4 _ _ a5;have aL:=((s1.trans s2).trans N).trans s4;have bd:H y=none:=s1.free (s2.free aA);have aM:H U=none:=s1.free (s2.free (N.free hU));have ay:A≠y:=AX ao aA;have aB:A≠U:=AX (N _ _ ao) hU;have aN:y≠U:=AX a5 hU;have a7:=Iy.start (W:=W) (qs:=qs) (inn:=inn) (ord:=ord) (X:=λl=>l=A\/l=y) (H:=H4);rw[hm] at a7
 have bu:E2 H4 A (List.replicate m none):=⟨_,aK,by
  rw[List.map_replicate];clear aK ao a9 a7 hm bc a5 a8 ab hN lq
  induction m with
  |zero=>exact .nil
  |succ m ih=>exact .cons .non (ih)⟩
 refine⟨λmm σ r=>∃(n:Nat)(as:List A4)(O:List Int)(T:List Int)(P:Addr)(az:List (AN×V))(u9 ai aj aC:Option V),σ=[some (.ref nt),some (.ref t),some (.ref Kn),some (.ref Th),some (.ref A),some (.ref y),some (.ref U),some (.ref P),some (.int n),u9,ai,aj,aC]/\Ac H r/\r P=some (.lst (T.map V.int))/\E2 r A as/\r y=some (.lst (O.map V.int))/\r U=some (.dK az)/\Iy W qs inn ord (λl=>l=A\/l=y) r az n as O T/\T.length<=40/\mm=nn as+(if T=[] then 0 else 1),⟨_,0,_,_,_,Th,[],none,none,none,none,rfl,aL,by rw[<-P8];exact aL _ _ ab,bu,bc,bt,a7,by rw[Ak,List.length_range];exact lq,rfl⟩,?_⟩;refine λmm σ H5 L=>AM λY c=>?_;obtain⟨n,as,O,T,P,az,u9,ai,aj,aC,rfl,s5,aD,ae,av,a0,Z,bl,bv⟩:=L;refine c ?_;clear c;have hA:=(Z.run.aok aa.toSOk).1;have be:as.length=m:=hA.len.trans hm;refine⟨P,_,rfl,Ae.of aD,?_⟩
 by_cases hd:T=[];subst hd;refine A7 ?_;have nx:=Z.end_ aa.toSOk;refine⟨⟨_,Ae.of (s5 _ _ ab)⟩,QJ (xs:=(List.range m).map λj:Nat=>V.int j) (λD i C r=>∃d:List Int,C=d.map V.int/\Ac H5 r/\r D=some (.lst C)/\d.length<=i/\∀k∈d,0<=k/\k<(m:Int)) (λD G=>⟨[],rfl,Bb G,Aa,AG _,λk I=>by cases I⟩) (λD i C r p=>?_) (λD i x C Q ah R0 G u p k k0=>?_) (λD C Q G p=>?_)⟩;obtain⟨d,_,s,_⟩:=p;exact Ae.of (s _ _ (s5 _ _ ab));refine AM λY c=>?_;obtain⟨d,rfl,R,a1,lz,M⟩:=p;refine c ?_;clear c;have hi:i<m:=by have:=(AY.mp u).1;rw[Ak,List.length_range] at this;exact this
 rw[F0 hi] at u;cases u;have ak:E2 Q A as:=ae.go R.tk λ_ e=>R _ _ e;obtain⟨q,v,e1,e2,_⟩:=ak.get (k:=i) (by lia);refine Or.inl ⟨q,v,Ae.of e1,e2,rfl,Am (λ_=>?_) (λ_=>?_)⟩;refine k _ _ a1 (by rw[Ak];exact BK (by lia)) ⟨d++[(i:Int)],by rw[Bk];rfl,λb o e=>?_,Aa,by rw[AS,CZ];lia,λa6 J=>?_⟩;rw[AD (AX e G)];exact R _ _ e;rcases BI.mp J with J|J;exact M a6 J;rw[AW.mp J];lia;exact k0 _ ⟨d,rfl,R,a1,by lia,M⟩;refine AM λY c=>?_;obtain⟨d,rfl,R,a1,_,M⟩:=p;refine c ?_;clear c;have ak:E2 Q A as:=ae.go R.tk λ_ e=>R _ _ e;refine⟨nt,A,t,D,F,W.late as,qs,inn,ord,d,rfl,(hN.same (s5.trans R)).lc ak.ans,aa.all as hA,a1,λk I=>by rw[hm];exact M k I,λH7 s7=>?_⟩;refine⟨Cr,λaw bw=>?_⟩;have s8:=Bb (o:=.tup [.ref A,.ref y]) bw;have a2:=(R.trans s7).trans s8;exact bj aw A y n as O _ (s5.trans a2) aJ bd ay Aa (ae.go a2.tk λ_ e=>a2 _ _ e) (a2 _ _ av) Z.run nx;refine Am (λ_=>?_) (λh=>absurd (by cases T with|nil=>exact absurd rfl hd|cons a aw=>rfl) h);refine⟨_,λ_ _ h=>h,?_⟩;refine⟨_,rfl,?_⟩;cbv
 have bH:∀k∈T,0<=k/\k<qs.length:=λk I=>by
  obtain⟨j,rfl,h1,_⟩:=Z.du k I;lia
 refine⟨nt,A,t,P,U,F,W,qs,inn,ord,as,T,az,H,rfl,s5,aM,hN,aa,hA,ae,a0,Z.ko,aD,bH,bl,λah rv fs bf Q hR b6 bx aE aF bO ft=>?_⟩;have aq:∃q,H5 A=some (.lst q):=by obtain⟨q,e,_⟩:=ae;exact⟨q,e⟩
 obtain⟨bQ,aq⟩:=aq;have aO:ah≠A:=λz=>by rw[z,aq] at hR;cases hR
 have aP:ah≠y:=λz=>by rw[z,av] at hR;cases hR
 have bz:Ac H Q:=λx o e=>b6 _ _ (s5 _ _ e) (λz=>by rw[z,aM] at e;cases e);have ak:E2 Q A as:=ae.go (λa q e=>b6 _ _ e (λz=>by rw[z,a0] at e;cases e)) λq e=>b6 _ _ e aB;have aQ:=b6 _ _ aq aB;have aI:=b6 _ _ av aN
 have af:=Z.aft aa.toSOk hd ft (λl hl u=>by
  rcases u with rfl|rfl;rw[aq] at hl;cases hl
  rw[av] at hl;cases hl) (λl q u e=>b6 _ _ e (λz=>by rw[z,a0] at e;cases e))
 have opn:∀f∈fs,∃k:Nat,f.1=(k:Int)/\k<m/\as[k]?=some none:=λf hf=>by
  refine AM λY c=>?_;obtain⟨k,_,e1,e2,_,_⟩:=ft.fd f hf;refine c ?_;clear c;obtain⟨j,e5,e6,e7⟩:=Z.du _ e2;have:k=j:=(by lia);subst this;exact⟨k,e1,by lia,e7⟩
 have b0:O.length=m:=(Z.run.aok aa.toSOk).2.trans hm;clear ae av a0 aD
 refine⟨⟨_,Ae.of aE⟩,EU (xs:=rv) (λi σ r=>∃ai aj,σ=[some (.ref nt),some (.ref t),some (.ref Kn),some (.ref Th),some (.ref A),some (.ref y),some (.ref U),some (.ref P),some (.int ((n:Int)+1)),some (.ref ah),ai,aj,aC]/\(∀x o,Q x=some o->x≠A->x≠y->r x=some o)/\E2 r A (BX as (fs.take i))/\r y=some (.lst ((Ds O ((n:Int)+1) (fs.take i)).map V.int)))
  ⟨_,_,rfl,λ_ _ e _ _=>e,by rw[EE];exact ak,by rw[EE];exact aI⟩ (λi σ r _ b1=>by obtain⟨_,_,_,b,_⟩:=b1;exact Ae.of (b _ _ aE aO aP)) ?_ ?_⟩
 refine λi x σ H7 u L=>AM λY c=>?_;obtain⟨ai,aj,rfl,S,ar,an⟩:=L;refine c ?_;clear c;refine GL ?_;intro Nx Cy;have a3:Tk Q H7:=λa q e=>S _ _ e (λz=>by rw[z,aQ] at e;cases e) (λz=>by rw[z,aI] at e;cases e);obtain⟨f,aG,b2⟩:=N9 (aF.tk a3) u;refine AM λY c=>?_;obtain⟨fm,x1,y1,rfl,bm,b3,b4⟩:=NC b2;refine c ?_;clear c;obtain rfl:=Lq b3;obtain⟨k,ek,I,_⟩:=opn f (A9 aG);have aR:f.1.toNat=k:=(by rw[ek,Bo]);obtain⟨q,aS,aT⟩:=ar;have b5:q.length=m:=by rw[aT.length,Ak,Rj];exact be
 have b7:((Ds O ((n:Int)+1) (fs.take i)).map V.int).length=m:=by rw[Ak,U7];exact b0
 refine⟨_,Ar.of bm,rfl,?_⟩;refine⟨A,q,f.1,k,rfl,rfl,aS,?_,?_⟩;rw[ek,b5,TR (by lia) (by lia),Bo];refine⟨y,_,f.1,k,rfl,rfl,(AD (Ne.symm ay)).trans an,?_,?_⟩;rw[ek,b7,TR (by lia) (by lia),Bo];have b8:Tk H7 (upd (upd H7 A (.lst (q.set k y1))) y (.lst (((Ds O ((n:Int)+1) (fs.take i)).map V.int).set k (.int ((n:Int)+1))))):=(U6 aS).trans (U6 ((AD (Ne.symm ay)).trans an));refine⟨_,_,rfl,λx o e n1 n2=>?_,⟨q.set k y1,?_,?_⟩,?_⟩;rw[AD n2,AD n1];exact S _ _ e n1 n2;rw[AD ay,Aa];rw[iD aG,aR,List.map_set];exact(aT.set b4 k).tk b8;rw[Aa,iE aG,aR,List.map_set];refine λσ H7 L=>AM λY c=>?_;obtain⟨ai,aj,rfl,S,ar,an⟩:=L;refine c ?_;clear c;have aU:rv.length=fs.length:=(by rw[aF.length,Ak]);rw[aU,Et] at ar an;have a3:Tk Q H7:=λa q e=>S _ _ e (λz=>by rw[z,aQ] at e;cases e) (λz=>by rw[z,aI] at e;cases e);have b9:Ac H H7:=λx o e=>S _ _ (bz _ _ e) (λz=>by rw[z,aJ] at e;cases e) (λz=>by rw[z,bd] at e;cases e);have aV:=S _ _ bx (Ne.symm aB) (Ne.symm aN);have aW:=af.keep (H'':=H7) λl q u e=>S _ _ e (λz=>u (.inl z)) (λz=>u (.inr z));obtain⟨ps,bA,bg⟩:=IA (aF.tk a3);refine⟨ah,rv,ps,rfl,S _ _ aE aO aP,by rw[aU];exact BK (by lia),bA,λNw bB=>?_⟩;obtain⟨H8,bC,s8,bD⟩:=new_at (o:=.dK (Lb [] ps)) bB;rw[<-bC];have aH:=b9.trans s8;have aX:=aW.keep (H'':=H8) λl q _ e=>s8 _ _ e;have aY:E2 H8 A (BX as fs):=ar.go s8.tk λ_ e=>s8 _ _ e;have aZ:=s8 _ _ aV;have bI:=s8 _ _ an;have lA:(BX as fs).length=m:=by rw[Rj];exact be
 clear af aW ar ak a3 aV an S
 refine⟨⟨_,Ae.of (aH _ _ ab)⟩,QJ (xs:=(List.range m).map λj:Nat=>V.int j) (λD i C r=>∃d:List Int,C=d.map V.int/\Ac H8 r/\r D=some (.lst C)/\d.length<=i/\(∀k∈d,∃j:Nat,k=(j:Int)/\j<qs.length/\(BX as fs)[j]?=some none)/\(fs=[]->d=[])/\∀k:Nat,k<i->(BX as fs)[k]?=some none->(k:Int)∈d\/∃(l:Addr)(us:List Int),AJ bf (.inl (k:Int))=some (.ref l)/\H8 l=some (.lst (us.map V.int))/\∀ax∈us,∀f∈fs,f.1≠ax)
  (λD G=>⟨[],rfl,Bb G,Aa,AG _,(λk I=>by cases I),λ_=>rfl,λk I=>absurd I (Nat.not_lt_zero _)⟩) (λD i C r p=>?_) (λD i x C H9 RR R0 G u p k k0=>?_) (λD C H9 G p=>?_)⟩
 obtain⟨d,_,s,_⟩:=p;exact Ae.of (s _ _ (aH _ _ ab));refine AM λY c=>?_;obtain⟨d,rfl,E,au,lz,M,L,al⟩:=p;refine c ?_;clear c;have hi:i<m:=by have:=(AY.mp u).1;rw[Ak,List.length_range] at this;exact this
 rw[F0 hi] at u;cases u;have bE:E2 H9 A (BX as fs):=aY.go E.tk λ_ e=>E _ _ e;obtain⟨q,v,e1,e2,hc⟩:=bE.get (k:=i) (by lia);refine Or.inl ⟨q,v,Ae.of e1,e2,rfl,?_⟩;rcases hc with⟨ho,rfl⟩|⟨p,tt,ho,rfl,_⟩;refine Am (λ_=>?_) (λh=>absurd (Ba rfl) h);obtain⟨B,l,us,u,hB,hu,ag⟩:=aX.us i (by lia) ho;refine⟨U,.ref l,rfl,by rw[<-hu.1];exact Dz.k (k:=.inl (i:Int)) (E _ _ aZ),l,Nw,us,Lb [] ps,rfl,E _ _ hu.2.1,hu.2.2.1,E _ _ bD,λbP a4=>⟨rfl,Am (λhb=>?_) (λhb=>?_)⟩⟩;obtain⟨ax,_,ba⟩:=GG.mp hb;rw[YE bg] at ba;obtain⟨f,hf,_⟩:=GG.mp ba;have bJ:=E.trans a4;refine k _ _ (a4 _ _ au) (by rw[Ak];exact BK (by lia)) ⟨d++[(i:Int)],by rw[Bk];rfl,λb o e=>?_,Aa,by rw[AS,CZ];lia,λa6 J=>?_,λe=>(by rw[e] at hf;cases hf),λj hj e=>?_⟩;rw[AD (AX e G)];exact bJ _ _ e;rcases BI.mp J with J|J;exact M a6 J;exact⟨i,AW.mp J,by lia,ho⟩;by_cases ej:j=i;subst ej;exact .inl (by simp);rcases al j (by lia) e with h|h;exact .inl (Eu _ h);exact .inr h;refine k0 _ ⟨d,rfl,E.trans a4,a4 _ _ au,by lia,M,L,λj hj e=>?_⟩;by_cases ej:j=i;subst ej;refine .inr ⟨l,us,hu.1,hu.2.1,λax bF f hf z=>hb (GG.mpr ⟨ax,bF,?_⟩)⟩;rw[YE bg];exact GG.mpr ⟨f,hf,Ba z⟩;exact al j (by lia) e;refine Am (λh=>absurd (Bm h) (by simp)) (λ_=>A7 (k0 _ ⟨d,rfl,E,au,by lia,M,L,λj hj e=>?_⟩));by_cases ej:j=i;subst ej;rw[ho] at e;cases e;exact al j (by lia) e;refine AM λY c=>?_;obtain⟨d,rfl,E,au,lz,M,L,al⟩:=p;refine c ?_;clear c;rw[Ak,List.length_range] at lz al;have bK:((n+1:Nat):Int)=(n:Int)+1:=by push_cast;rfl
 have bG:=aX.keep (H'':=H9) λl q _ e=>E _ _ e;refine⟨nn (BX as fs)+(if d=[] then 0 else 1),?_,n+1,BX as fs,Ds O ((n:Int)+1) fs,d,D,bf,_,_,_,_,by rw[bK];rfl,aH.trans E,au,aY.go E.tk λ_ e=>E _ _ e,E _ _ bI,E _ _ aZ,bG.trn M L λk I e=>?_,by lia,rfl⟩
 rw[bv,An hd]
 cases bb:fs with
 |nil =>
   rw[Al (L bb)];exact Nat.lt_succ_of_le (Va [] as)
 |cons f aw =>
   obtain⟨k,e1,e2,e3⟩:=opn f (by rw[bb];exact Bn);have:=PB (f:=f) (fs:=aw) (as:=as) (by rw[e1,Bo];exact e3);by_cases z0:d=[];rw[Al z0];lia;rw[An z0];lia
 rcases al k (by lia) e with h|⟨l,us,h1,h2,h3⟩;exact .inl h;exact .inr ⟨l,us,h1,E _ _ h2,h3⟩
inductive GS (K:Ah) (vs:List V) (H:Hp) (Q:VK):Prop where
 |mk (nt t:Addr) (F:Addr->Prop) (W:Wd) (qs:List Qu) (inn:Int) (ord:A') (h0:vs=[.ref nt,.ref t]) (h1:LN K F H nt t W qs inn ord) (h2:Kw W qs inn ord) (h3:∀(r A Tn:Addr)(n:Nat)(as:List A4)(ts:List Int)(H':Hp),Ac H H'->H A=none->H Tn=none->A≠Tn->H' r=some (.tup [.ref A,.ref Tn])->E2 H' A as->H' Tn=some (.lst (ts.map V.int))->Run W qs inn ord n as ts->Jg W qs inn ord as as->Q (.ref r) H'):GS K vs H Q
def mQ (K:Ah):Sp:=λvs H Q _=>GS K vs H Q
abbrev RQ(P w K mg base):=BB P w K mg base "still" 10 ["net", "table"] (mQ K)
theorem mS(B:BC mg)(aa:VX P w K mg base)(F:Bp K "still" "still" SJ f fd)(v:mg "still" = some (.ref f)):RQ P w K mg base:=by
 refine BO F v YR (λx H Q E h=>?_) (λal A ao s H x Q E hr h=>?_);obtain⟨d,t,F,W,a,l,m,rfl,_⟩:=h;rfl;obtain⟨d,t,F,W,a,l,m,rfl,e,G,q⟩:=h;obtain⟨aj,ak,R,us,Gs,Es,an,y,z,g⟩:=e.net;have lq:=G.lq;have ai:(((y.map V.ref).length:Nat):Int)=((a.length:Nat):Int):=(by rw[Ak,g.tq.len])
 refine⟨_,(Ao (AL (i:=2) YR.nd (BA Dy B.b_len (Ab (Ax Ay (pv 0) Ai) Af)))
  (As (AK (A5 aa (Ab (pv 0) (Ab (pv 1) (Ab (AE YA (Cq (Ab Gv Af)) (pv 2)) (Ab (GZ (g0 rfl) B.b_list (Ab (GZ gZ B.b_range (Ab (pv 2) Af)) Af)) Af)))))))),?_⟩
 rfl';refine Or.inr (Or.inl ⟨_,.ref R,Ar.of z,rfl,_,Or.inl ⟨_,Ae.of g.er,rfl⟩,?_⟩);rw[ai];refine⟨Hk,λZ C=>?_⟩;have D:=Bb (o:=.lst [.non]) C;refine⟨Z,_,_,rfl,rfl,Aa,by lia,?_,λb ab=>?_⟩;show 1*_<=1000;rw[Bo];lia;have u:(upd (upd H Z (.lst [.non])) b (.lst (List.replicate ((a.length:Nat):Int).toNat [V.non]).flatten)) b=some (.lst (List.replicate a.length .non)):=(by rw[Aa,Bo,YF]);have j:=D.trans (Bb (o:=.lst (List.replicate ((a.length:Nat):Int).toNat [V.non]).flatten) ab);generalize upd (upd H Z (.lst [.non])) b (.lst (List.replicate ((a.length:Nat):Int).toNat [V.non]).flatten)=H2 at u j ⊢;refine⟨_,rfl,λp I=>⟨p,a.length,rfl,Aa,by lia,λJ ae=>?_⟩⟩;have L:=Bb (o:=.rng 0 ((a.length:Nat):Int)) I;have k:=L.trans (Bb (o:=.lst ((List.range a.length).map λi:Nat=>V.int i)) ae);have c:=j.trans k;exact⟨d,t,b,J,F,W,a,l,m,rfl,e.same c,G,k _ _ u,Aa,λr A M n N O S T U af ag X Y ah ru nx=>q r A M n N O S (c.trans T) (c.free U) (c.free af) ag X Y ah ru nx⟩
inductive IP (K:Ah) (vs:List V) (H:Hp) (Q:VK):Prop where
 |mk (nt A t:Addr) (F:Addr->Prop) (W:Wd) (qs:List Qu) (inn:Int) (ord:A') (n:Int) (k:Nat) (q:Qu) (h0:vs=[.ref nt,.ref A,.ref t,.int n]) (h1:n=k) (h2:qs[k]?=some q) (h3:LC K F H nt A t W qs inn ord) (h4:Je W qs inn ord) (h5:∀(v:V)(a:C')(w:Option Wt)(ls:List Lk)(ts:List Int)(H':Hp),Ac H H'->Bj (λx=>H x=none) H' v (.tup [BU a,Ii w])->LU W inn ord q.1 q.2.1 q.2.2 0 a w ls ts->Q v H'):IP K vs H Q
def KS (K:Ah):Sp:=λvs H Q _=>IP K vs H Q
abbrev RS(P w K mg base):=BB P w K mg base "find" 8 ["net", "answers", "table", "question"] (KS K)
def mU(B:BC mg)(Z:P7 P w K mg base)(F:Bp K "find" "find" SK f fd)(x:mg "find" = some (.ref f)):RS P w K mg base:=by
 refine BO F x PP (λy H Q E h=>?_) (λal A ao s H y Q E hr h=>?_);obtain⟨j,A,t,F,W,l,p,r,n,k,q,rfl,_⟩:=h;rfl;obtain⟨j,A,t,F,W,l,p,r,n,k,q,rfl,rfl,c,d,ok,z⟩:=h;obtain⟨ag,T,R,us,Gs,Es,m,b,C,e⟩:=d.net;have aa:k<l.length:=(AY.mp c).1;have ab:k<b.length:=by rw[e.tq.len];exact aa
 have v:=AC ab;obtain⟨u,eq,D⟩:=e.tq.at_ k _ q v c;have ae:Bl (b.map V.ref) (k:Int)=some (.ref b[k]):=BQ (by rw[A8,v];rfl);obtain⟨G,I,J,L⟩:=ok.q q (A9 c)
 refine⟨_,(Ao (D6 (A5 Z (Ab (pv 0) (Ab (pv 1) (Ab (pv 2) (Ab (Ax Ay (Ax Ay (pv 0) Ai) (pv 3)) Af))))) (Cp (n:=4) rfl (AH (Az (i:=4) PP.nd) (AH (Az (i:=5) PP.nd) (AH (Az (i:=6) PP.nd) (AH (Az (i:=7) PP.nd) Co))))))
  (As (AK (BE (Ab (pv 4) (Ab (pv 5) Af)))))),?_⟩
 rfl';refine Or.inr (Or.inl ⟨_,.ref R,Ar.of C,rfl,Or.inl ⟨_,.ref b[k],Ae.of e.er,ae,j,A,t,b[k],u,F,W,p,r,q,rfl,d.caseH,d.tab,ok.ok,ok.sm,ok.ol,ok.irr,ok.inn,eq,D,G,I,J,L,λah ai T M N lv a w ls m aj O S hL eL eT U X an af=>?_⟩⟩);refine⟨_,Ar.of S,rfl,?_⟩;refine⟨Cr,λak Y=>?_⟩;have g:=Bb (o:=.tup [M,N]) Y;exact z _ a w ls m _ (O.trans g) (.tup Aa (.cons (U.same g) (.cons (X.same g) .nil))) af
inductive DQ (K:Ah) (vs:List V) (H:Hp) (Q:VK):Prop where
 |mk (nt A t:Addr) (F:Addr->Prop) (W:Wd) (qs:List Qu) (inn:Int) (ord:A') (n:Int) (k:Nat) (q:Qu) (h0:vs=[.ref nt,.ref A,.ref t,.int n]) (h1:n=k) (h2:qs[k]?=some q) (h3:LC K F H nt A t W qs inn ord) (h4:Je W qs inn ord) (h5:k<W.as.length) (h6:(W.as[k]?=some none->∀a w ls ts,LU W inn ord q.1 q.2.1 q.2.2 0 a w ls ts->a=none)) (h7:∀(v:Option Int)(H':Hp),Ac H H'->M7 W inn ord q W.as[k]? v->Q (oV v) H'):DQ K vs H Q
def mW (K:Ah):Sp:=λvs H Q _=>DQ K vs H Q
abbrev VY(P w K mg base):=BB P w K mg base "waited_for" 9 ["net", "answers", "table", "question"] (mW K)
def mY(B:BC mg)(aa:RS P w K mg base)(F:Bp K "waited_for" "waited_for" SM f fd)(C:mg "waited_for" = some (.ref f)):VY P w K mg base:=by
 refine BO F C Rt (λc H Q E h=>?_) (λag A ai s H c Q E hr h=>?_);obtain⟨g,A,t,F,W,j,u,y,n,k,q,rfl,_⟩:=h;rfl
 . obtain⟨g,A,t,F,W,j,u,y,n,k,q,rfl,rfl,D,l,ok,S,T,m⟩:=h
   obtain⟨c,v,G,I,z⟩:=l.ans.get S;have U:Bl c (k:Int)=some v:=BQ I
   refine⟨_,(Ao (Bc (ET (IU (Ax Ay (pv 1) (pv 3)))) (As (AK Gv)) Bg)
    (Ao (D6 (Ax Ay (A5 aa (Ab (pv 0) (Ab (pv 1) (Ab (pv 2) (Ab (pv 3) Af))))) Ai) (Cp (n:=3) rfl (AH (Az (i:=4) Rt.nd) (AH (Az (i:=5) Rt.nd) (AH (Az (i:=6) Rt.nd) Co)))))
    (As (AK (pv 6))))),?_⟩
   rfl';refine Or.inl ⟨_,v,G,U,rfl,Am (λh=>?_) (λh=>?_)⟩;refine m none _ (Ac.refl _) (.inl ?_);rcases z with⟨_,rfl⟩|⟨p,_,e,_⟩;exact absurd h (by decide);exact⟨p,e,rfl⟩
   have o:W.as[k]?=some none:=by
    rcases z with⟨e,_⟩|⟨p,t',_,rfl,_⟩;exact e;exact absurd rfl h
   refine⟨g,A,t,F,W,j,u,y,_,k,q,rfl,rfl,D,l,ok,λfv a w ls J ab L V d=>?_⟩;obtain rfl:=T o _ _ _ _ d;rcases X8 d with⟨_,r,rfl⟩|⟨⟨x,M⟩,_⟩;rotate_left;cases M;refine AM λN b=>?_;obtain⟨ep,ex,ey,rfl,X,ah,Y⟩:=Lr V;refine b ?_;clear b;refine AM λN b=>?_;obtain⟨O,x,ae,af,rfl,Z,_,_,R⟩:=N8 Y;refine b ?_;clear b;obtain rfl:=Lq R;refine Or.inr (Or.inl ⟨_,.ref O,Ar.of X,rfl,_,Ar.of Z,rfl,?_⟩);exact m (some r.2.2) _ L (.inr ⟨o,r,ls,J,d,rfl⟩)
def ND(h:n<=100):n<sizeLine:=Nat.lt_of_le_of_lt h (by decide)
inductive GU (K:Ah) (vs:List V) (H:Hp) (Q:VK):Prop where
 |mk (nt A t:Addr) (F:Addr->Prop) (W:Wd) (qs:List Qu) (inn:Int) (ord:A') (h0:vs=[.ref nt,.ref A,.ref t]) (h1:LC K F H nt A t W qs inn ord) (h2:Je W qs inn ord) (h3:qs.length=W.as.length) (h4:qs.length<=100) (h5:(∀(k:Nat)(q:Qu),qs[k]?=some q->W.as[k]?=some none->∀a w ls ts,LU W inn ord q.1 q.2.1 q.2.2 0 a w ls ts->a=none)) (h6:∀(D:Addr)(ws:E')(H':Hp),H D=none->Ac H H'->H' D=some (.lst (ws.map oV))->ws.length=qs.length->(∀(k:Nat)(q:Qu)(o:Option Int),qs[k]?=some q->ws[k]?=some o->M7 W inn ord q W.as[k]? o)->Q (.ref D) H'):GU K vs H Q
def mZ (K:Ah):Sp:=λvs H Q _=>GU K vs H Q
abbrev P9(P w K mg base):=BB P w K mg base "waits" 10 ["net", "answers", "table"] (mZ K)
theorem m6(B:BC mg)(af:VY P w K mg base)(F:Bp K "waits" "waits" Qn f fd)(T:mg "waits" = some (.ref f)):P9 P w K mg base:=by
 refine BO F T iM (λU H Q E h=>?_) (λag A ai s H U Q E hr h=>?_);obtain⟨L,A,t,F,W,c,I,J,rfl,_⟩:=h;rfl;obtain⟨L,A,t,F,W,c,I,J,rfl,M,ok,V,ah,aa,X⟩:=h;obtain⟨S,Y,ab⟩:=M.ans;have la:S.length=c.length:=(by rw[ab.length,Ak,V]);refine⟨_,(As (AK (Hg rfl Fn (Hx rfl B.b_range (Ab (BA Dy B.b_len (Ab (pv 1) Af)) Af)) (λ_ _ _ _ _=>(Az (i:=0) Fn.nd)) (λ_ _ _ _ _=>Ja) (λ_ _ _ _ _=>(A5 af (Ab (pv 1) (Ab (pv 2) (Ab (pv 3) (Ab (pv 0) Af))))))))),?_⟩;rfl'
 refine⟨_,Or.inl ⟨_,Y,rfl⟩,(by lia),(by lia),Ug (lo:=0) (n:=S.length) (λD i m N=>Ac H N/\N D=some (.lst m)/\∃a:E',m=a.map oV/\a.length=i/\∀(k:Nat)(q:Qu)(o:Option Int),c[k]?=some q->a[k]?=some o->M7 W I J q W.as[k]? o)
  (λD x=>⟨Bb x,Aa,[],rfl,rfl,λk q o _ z=>by cases z⟩) (λD i m O RR x hi g k=>?_) (λZ m O ae g=>?_)⟩
 refine AM λNz l=>?_;obtain⟨p,y,a,rfl,r,C⟩:=g;refine l ?_;clear l;have u:=AC (show i<c.length by lia);generalize c[i]'(by lia)=q at u;refine⟨L,A,t,F,W,c,I,J,_,i,q,rfl,Int.zero_add _,u,M.same p,ok,by lia,aa i q u,λv H6 R g=>?_⟩;refine k _ _ (R _ _ y) (by rw[Ak,r];exact ND (by lia)) ⟨λb o e=>?_,Aa,a++[v],by rw[Bk];rfl,by rw[AS,r];rfl,λj q' o' G d=>?_⟩;rw[AD (AX e x)];exact R _ _ (p _ _ e);rcases Nat.lt_or_ge j a.length with h|h;rw[Ei h] at d;exact C j q' o' G d;rw[ED h] at d
 have e:j=i:=by
  have:=(AY.mp d).1;rw[CZ] at this;lia
 subst e;rw[r,Nat.sub_self] at d;cases d;rw[u] at G;cases G;exact g;refine AM λNz l=>?_;obtain⟨p,y,a,rfl,r,C⟩:=g;refine l ?_;clear l;exact X Z a O ae p y (by lia) C
def VZ{o:Option Int}:oV o=.non↔o=none:=by cases o<;>simp[oV]
def NE(h:n<=60):n<sizeLine:=Nat.lt_of_le_of_lt h (by decide)
def m7 (ws:E') (R:List Int):Prop:=((∀(k:Nat)(o:Int),ws[k]?≠some (some o))/\R=[])\/∃(f:Nat)(o:Int),ws[f]?=some (some o)/\(∀k,k<f->∀o',ws[k]?≠some (some o'))/\FN ws f R
inductive Fv (K:Ah) (vs:List V) (H:Hp) (Q:VK):Prop where
 |mk (nt A t:Addr) (F:Addr->Prop) (W:Wd) (qs:List Qu) (inn:Int) (ord:A') (h0:vs=[.ref nt,.ref A,.ref t]) (h1:LC K F H nt A t W qs inn ord) (h2:Je W qs inn ord) (h3:qs.length=W.as.length) (h4:qs.length<=50) (h5:(∀(k:Nat)(q:Qu),qs[k]?=some q->W.as[k]?=some none->∀a w ls ts,LU W inn ord q.1 q.2.1 q.2.2 0 a w ls ts->a=none)) (h6:(∀ws:E',ws.length=qs.length->(∀(k:Nat)(q:Qu)(o:Option Int),qs[k]?=some q->ws[k]?=some o->M7 W inn ord q W.as[k]? o)->Cl ws)) (h7:∀(D:Addr)(R:List Int)(ws:E')(H':Hp),H D=none->Ac H H'->H' D=some (.lst (R.map V.int))->ws.length=qs.length->(∀(k:Nat)(q:Qu)(o:Option Int),qs[k]?=some q->ws[k]?=some o->M7 W inn ord q W.as[k]? o)->m7 ws R->Q (.ref D) H'):Fv K vs H Q
def m8 (K:Ah):Sp:=λvs H Q _=>Fv K vs H Q
abbrev RU(P w K mg base):=BB P w K mg base "ring_of" 11 ["net", "answers", "table"] (m8 K)
theorem nA(B:BC mg)(aB:P9 P w K mg base)(F:Bp K "ring_of" "ring_of" Qo f fd)(q:mg "ring_of" = some (.ref f)):RU P w K mg base:=by
 refine BO F q Oh (λvs H ak E h=>?_) (λaD A aI s H vs ak E Y h=>?_);obtain⟨Z,A,t,F,W,qs,af,ag,rfl,_⟩:=h;rfl;obtain⟨Z,A,t,F,W,qs,af,ag,rfl,hC,ok,hl,aE,aq,ar,qk⟩:=h
 refine⟨_,(Ao (AL (i:=3) Oh.nd (A5 aB (Ab (pv 0) (Ab (pv 1) (Ab (pv 2) Af)))))
  (Ao (TM (i:=4) Oh.nd rfl (Or.inl rfl) (g:=L0 K 2 (OC (IW 0) (OC (IW 1) LZ))) rfl CN (N5 LK rfl B.b_enumerate (Ab (pv 3) Af)) (λ_ _ _ _ _=>(Cp (n:=2) rfl (AH (Az (i:=0) CN.nd) (AH (Az (i:=1) CN.nd) Co)))) (λ_ _ _ _ _=>(O1 (ET (IU (pv 1))))) (λ_ _ _ _ _=>(pv 0)))
  (Ao (Bc (Hc (WK (pv 4))) (As (AK (Cq Af))) Bg)
  (Ao (AL (i:=5) Oh.nd (Cq (Ab (Ax Ay (pv 4) Ai) Af)))
  (Ao (S5 Cn (Bv (T4 Y.units) (Ax Ay (pv 3) (Ax Ay (pv 5) (K5 K6 Ai))) (pv 5) (by with_unfolding_all rfl)) (As (C8 (C3 C0 Ev Ew Ex (pv 5) (Ab (Ax Ay (pv 3) (Ax Ay (pv 5) (K5 K6 Ai))) Af)))))
  (Ao (AL (i:=6) Oh.nd (OM OS (pv 5) (NR (C3 C0 PySem.F.slot_list_index PySem.F.type_list_index (Vb Y.units) (pv 5) (Ab (Ax Ay (pv 3) (Ax Ay (pv 5) (K5 K6 Ai))) Af))) Qw))
  (Ao (AL (i:=7) Oh.nd (C3 C0 PySem.F.slot_list_index PySem.F.type_list_index (Vb Y.units) (pv 6) (Ab (BA (YG rfl) B.b_min (Ab (pv 6) Af)) Af)))
  (As (AK (AE OT (OM OS (pv 6) (NR (pv 7)) Qw) (OM OS (pv 6) Qw (NR (pv 7))))))))))))),?_⟩
 rfl';refine⟨Z,A,t,F,W,qs,af,ag,rfl,hC,ok,hl,by lia,aq,λD c al hD s1 N lw hw=>?_⟩;have cl:=ar c lw hw;refine⟨D,rfl,⟨_,N⟩,iG (xs:=c.map oV) (λE i J C=>Ac al C/\C E=some (.lst J)/\J=(opn c i).map V.int) (λE O=>⟨Bb O,Aa,rfl⟩) (λE i J Q p=>Ae.of (p.1 _ _ N)) (λE i x aC J Q ae L O r hT p k k0=>?_) (λE J Q O p=>?_)⟩;obtain⟨G,u,rfl⟩:=p;obtain⟨o,y,rfl⟩:=getm r;have R:i<c.length:=(AY.mp y).1;obtain⟨H3,au,d,eT⟩:=new_at (o:=.tup [.int i,oV o]) hT;rw[<-au];refine⟨_,Ar.of eT,rfl,rfl,Am (λh=>?_) (λh=>?_)⟩
 cases o with
 |none=>exact absurd h (by decide)
 |some o=>exact k _ _ (d _ _ u) (by rw[Ak];exact Nat.lt_of_le_of_lt (Kx c i) (NE (by lia))) ⟨λb an e=>by rw[AD (AX e O)];exact d _ _ (G _ _ e),Aa,by rw[YI y,Bk];rfl⟩
 cases o with
 |none=>exact k0 _ ⟨G.trans d,d _ _ u,by rw[IC y]⟩
 |some o=>exact absurd rfl h
 obtain⟨G,u,rfl⟩:=p;have U:=s1.trans G;rw[Ak] at u;refine⟨E,_,rfl,Ae.of u,?_⟩
 cases ez:opn c c.length with
 |nil =>
   refine CB ⟨by decide,λae S=>?_⟩;have d:=Bb (o:=.lst []) S;refine qk ae [] c _ (U.free S) (U.trans d) Aa lw hw (.inl ⟨λk o z=>?_,rfl⟩);have:=YJ (AY.mp z).1 z;rw[ez] at this;cases this
 |cons z zs =>
   obtain⟨f,o0,rfl,hf,hb⟩:=Rm ez;rw[ez] at u;have n0:nx c f=some o0:=CY.mpr ⟨by lia,hf⟩;refine A7 ?_;refine Or.inl ⟨_,.int f,Ae.of u,BQ (j:=0) rfl,Hk,λP hP=>?_⟩;have d:=Bb (o:=.lst [.int f]) hP;have eP:(upd Q P (.lst [.int f])) P=some (.lst ([(f:Int)].map V.int)):=Aa;generalize upd Q P (.lst [.int f])=H3 at d eP ⊢;have av:=U.free hP;have aw:D≠P:=AX (G _ _ N) hP;refine⟨λmm σ C=>∃a:List Int,σ=[some (.ref Z),some (.ref A),some (.ref t),some (.ref D),some (.ref E),some (.ref P),none,none]/\Ac H C/\C D=some (.lst (c.map oV))/\C P=some (.lst (a.map V.int))/\Rw c f a/\mm=c.length-a.length,⟨_,_,rfl,U.trans d,d _ _ (G _ _ N),eP,.one n0,rfl⟩,?_⟩;refine λmm σ H5 ax=>AM λNz ah=>?_;obtain⟨a,rfl,s5,X,l,M,rfl⟩:=ax;refine ah ?_;clear ah;have aF:0<a.length:=List.length_pos_iff.mpr M.ne;have aH:=M.few;have r:=AC (show a.length-1<a.length by lia);generalize a[a.length-1]'(by lia)=x at r;obtain⟨o,y⟩:=M.op x (A9 r);have aa:Bl (a.map V.int) (-1)=some (.int x):=WQ (by rw[Ak,A8,r];rfl);obtain⟨ay,az⟩:=CY.mp y
   have ab:Bl (c.map oV) x=some (.int o):=by
    have:=BQ (xs:=c.map oV) (j:=x.toNat) (v:=.int o) (by rw[A8,az];rfl);rw[Int.toNat_of_nonneg ay] at this;exact this
   refine Or.inl ⟨_,.int x,Ae.of l,aa,Or.inl ⟨_,.int o,Ae.of X,ab,1,.int o,a.map Dt.int,P,_,Rl,by decide,.int o,rfl,Ae.of l,ME a,rfl,Am (λh=>?_) (λh=>?_)⟩⟩;have hn:o∉a:=λz=>by rw[Ey (GA.mpr z)] at h;cases h
   have r6:=M.more cl r y hn;have a0:=r6.few;rw[AS,CZ] at a0;refine⟨_,λ_ _ z=>z,Or.inl ⟨rfl,_,Ae.of l⟩,Or.inl ⟨_,.int x,Ae.of l,aa,Or.inl ⟨_,.int o,Ae.of X,ab,_,l,by rw[Ak];exact NE (by lia),?_⟩⟩⟩;refine⟨_,?_,a++[o],rfl,λb an e=>by rw[AD (AX e av)];exact s5 _ _ e,by rw[AD aw];exact X,by rw[Aa,Bk];rfl,r6,rfl⟩;rw[AS,CZ];lia;have a1:o∈a:=Classical.byContradiction λz=>h (by rw[FS λao=>z (GA.mp ao)];rfl);obtain⟨i,R,a2⟩:=Ve a1;have aG:=(AY.mp R).1;refine⟨Or.inl ⟨rfl,_,Ae.of l⟩,Or.inl ⟨_,.int x,Ae.of l,aa,Or.inl ⟨_,.int o,Ae.of X,ab,P,.int o,1,.int o,a.map Dt.int,_,i,rfl,rfl,Rl,by decide,.int o,Ae.of l,ME a,GN.mpr R,λm q z=>a2 m q (GN.mp z),_,rfl,P,_,rfl,Ae.of l,λL a3=>?_⟩⟩⟩;rw[TU,<-Qg];obtain⟨H6,a4,s6,I⟩:=new_at (o:=.lst ((a.drop i).map V.int)) a3;rw[<-a4];have rg:=λj m T q=>M.ring (j:=j) (m:=m) r y R T q
   have ai:a.drop i≠[]:=λz=>by
    have:=Bq List.length z;rw[Gp] at this;simp at this;lia
   have a5:(a.drop i).length<=50:=by rw[Gp];lia
   generalize a.drop i=rd at I rg ai a5 ⊢;obtain⟨n,ns,rfl⟩:=List.exists_cons_of_ne_nil ai;obtain⟨lm,ll⟩:=YH n ns;obtain⟨j,T,a6⟩:=Ve lm;refine⟨Or.inl ⟨rfl,_,Ae.of I⟩,L,n,ns,rfl,I,L,.int (ns.foldl min n),1,.int (ns.foldl min n),(n::ns).map Dt.int,_,j,rfl,rfl,Rl,by decide,.int _,Ae.of I,ME (n::ns),GN.mpr T,λm q z=>a6 m q (GN.mp z),?_⟩;have S:=rg j _ T ll;refine⟨_,rfl,L,_,rfl,Ae.of I,λRa a7=>?_⟩;rw[TU,<-Qg];obtain⟨H7,a8,s7,e7⟩:=new_at (o:=.lst (((n::ns).drop j).map V.int)) a7;rw[<-a8];refine⟨_,rfl,L,_,rfl,Ae.of (s7 _ _ I),λRb a9=>?_⟩;rw[Z1,<-List.map_take];obtain⟨H8,aA,s8,e8⟩:=new_at (o:=.lst (((n::ns).take j).map V.int)) a9;rw[<-aA];refine⟨Ra,Rb,_,_,rfl,rfl,s8 _ _ e7,e8,?_,λRc aj=>?_⟩;rw[Ak,Ak,<-AS,Vd];exact CI (NE (by lia));have s9:=Bb (o:=.lst (((n::ns).drop j).map V.int++((n::ns).take j).map V.int)) aj;have sx:=((s5.trans s6).trans s7).trans s8;refine qk Rc _ c _ (sx.free aj) (sx.trans s9) (by rw[Aa,Bk]) lw hw (.inr ⟨f,o0,hf,hb,S⟩)
def Ze{b:List Dt}(h:Ap K H v (.lst b)):∃a vs,v=.ref a/\Ae K H a vs/\Aj K H vs b:=by cases h with|lst h t=>exact⟨_,_,rfl,h,t⟩
def Zf{b:List Dt}(h:Ap K H v (.tup b)):∃a vs,v=.ref a/\Ar K H a vs/\Aj K H vs b:=by cases h with|tup h t=>exact⟨_,_,rfl,h,t⟩
def Qa:Dt->Ty
 |.non=>.non
 |.bl _=>.bool
 |.int _=>.int
 |.str _=>.str
 |.tup _=>.tup
 |.lst _=>.lst
def RV(h:Ap K H v d):JH K H v (Qa d):=by
 cases h with
 |non=>exact .non
 |bl b=>exact .bl b
 |int i=>exact .int i
 |str x=>exact .str x
 |tup h t=>exact .tup h
 |lst h t=>exact .lst h
def KU(h:Ap K H v d):v=.non↔d=.non:=by
 cases h<;>simp
def RW (K:Ah) (n:Nat):Sp:=λvs H Q _=>∃(x y:V)(d e:Dt),vs=[x,y]/\Ap K H x d/\Ap K H y e/\Dn n d/\Dn n e/\∀(b:Bool)(H':Hp),Ac H H'->(b=true↔d=e)->Q (.bl b) H'
abbrev nB (K:Ah):Sp:=RW K 8
theorem nC(B:BC mg)(n:Nat)(ai:BB P w K mg base "_law_same" (0+n) ["_law_found", "_law_due"] (RW K n))(F:Bp K "_law_same" "_law_same" Oq f fd):EF P w K mg base I7 (0+n+1) f fd ["_law_found", "_law_due"] (RW K (n+1)):=by
 refine F.ok Vk (λvs H ag ah h=>?_) (λak aj al s H vs ag ah hr h=>?_);obtain⟨x,y,d,af,rfl,_⟩:=h;rfl;obtain⟨x,y,d,af,rfl,g,G,hd,U,q⟩:=h
 refine⟨_,(Ao (Bc (ET (GW (pv 1))) (As (AK (Hv (GW (pv 0))))) Bg)
  (Ao (Bc (FE (BA G0 B.b_isinstance (Ab (pv 1) (Ab (G1 "str" rfl B.b_str (by decide +kernel)) Af)))) (As (AK (Oz (BA G0 B.b_isinstance (Ab (pv 0) (Ab (G1 "str" rfl B.b_str (by decide +kernel)) Af))) (SX (IZ CJ (pv 0) (pv 1) (Bs _)))))) Bg)
  (Ao (Bc (FE (BA G0 B.b_isinstance (Ab (pv 1) (Ab (G1 "int" rfl B.b_int (by decide +kernel)) Af)))) (As (AK (Oz (BA G0 B.b_isinstance (Ab (pv 0) (Ab (G1 "int" rfl B.b_int (by decide +kernel)) Af))) (Oz (LR (BA G0 B.b_isinstance (Ab (pv 0) (Ab (G1 "bool" rfl B.b_bool (by decide +kernel)) Af)))) (SX (IZ CJ (pv 0) (pv 1) (Bs _))))))) Bg)
  (Ao (Bc (PW.pt (GY (FE (BA G0 B.b_isinstance (Ab (pv 1) (Ab (G1 "list" rfl B.b_list (by decide +kernel)) Af)))) (GX (Hc (FE (BA G0 B.b_isinstance (Ab (pv 0) (Ab (G1 "list" rfl B.b_list (by decide +kernel)) Af)))))))) (As (AK FD)) Bg)
  (Ao (Bc (PW.pt (GY (FE (BA G0 B.b_isinstance (Ab (pv 1) (Ab (G1 "tuple" rfl B.b_tuple (by decide +kernel)) Af)))) (GX (Hc (FE (BA G0 B.b_isinstance (Ab (pv 0) (Ab (G1 "tuple" rfl B.b_tuple (by decide +kernel)) Af)))))))) (As (AK FD)) Bg)
  (Ao (Bc (Bv L9 (BA Dy B.b_len (Ab (pv 0) Af)) (BA Dy B.b_len (Ab (pv 1) Af)) (Bs _)) (As (AK FD)) Bg)
  (Ao (CG Cn rfl (J5 rfl B.b_zip (Ab (pv 0) (Ab (pv 1) Af))) (Cp (n:=2) rfl (AH (Az (i:=2) Vk.nd) (AH (Az (i:=3) Vk.nd) Co))) (As (Bc (Hc (FE (A5 ai (Ab (pv 2) (Ab (pv 3) Af)) (hr.mono (by lia))))) (As (AK FD)) Bg)))
  (As (AK FD))))))))),?_⟩
 try dsimp only[AF,Cx.nox,Cx.wish]
 cases af with
 |non =>
   cases G;refine⟨rfl,Am (λ_=>?_) (λh=>absurd (Ba rfl) h)⟩;exact q _ _ (Ac.refl _) ((decide_eq_true_iff).trans (KU g))
 |bl b=>exact False.elim U
 |int s =>
   cases G;refine⟨rfl,Am (λh=>absurd (Bm h) (by simp)) (λ_=>?_)⟩;refine⟨_,.str,.int,rfl,.int s,rfl,A7 ?_⟩;refine⟨_,.int,.int,rfl,.int s,rfl,CB ?_⟩;refine⟨_,.int,Qa d,rfl,RV g,_,rfl,?_⟩
   cases d with
   |bl _=>exact False.elim hd
   |int Z =>
     cases g;refine CB ⟨_,.bool,.int,rfl,.int _,_,rfl,_,rfl,CB ⟨rfl,?_⟩⟩;refine q _ _ (Ac.refl _) ⟨λz=>?_,λz=>?_⟩;rw[V.int.inj (Bm z)];cases z;exact Ba rfl
   |_=>exact A7 (q false _ (Ac.refl _) ⟨λz=>(by cases z),λz=>(by cases z)⟩)
 |str s =>
   cases G;refine⟨rfl,Am (λh=>absurd (Bm h) (by simp)) (λ_=>?_)⟩;refine⟨_,.str,.str,rfl,.str s,rfl,CB ?_⟩;refine⟨_,.str,Qa d,rfl,RV g,_,rfl,?_⟩
   cases d with
   |bl _=>exact False.elim hd
   |str Z =>
     cases g;refine CB ⟨rfl,?_⟩;refine q _ _ (Ac.refl _) ⟨λz=>?_,λz=>?_⟩;rw[V.str.inj (Bm z)];cases z;exact Ba rfl
   |_=>exact A7 (q false _ (Ac.refl _) ⟨λz=>(by cases z),λz=>(by cases z)⟩)
 | lst k =>
   obtain⟨b,W,rfl,e,I⟩:=Ze G;have p:=I.length;refine⟨rfl,Am (λh=>absurd (Bm h) (by simp)) (λ_=>?_)⟩;refine⟨_,.str,.lst,rfl,.lst e,rfl,A7 ?_⟩;refine⟨_,.int,.lst,rfl,.lst e,rfl,A7 ?_⟩;refine⟨_,.lst,.lst,rfl,.lst e,rfl,CB ⟨_,.lst,Qa d,rfl,RV g,rfl,?_⟩⟩
   cases d with
   |lst r =>
     obtain⟨a,us,rfl,t,J⟩:=Ze g;have u:=J.length;refine A7 ⟨_,.tup,.lst,rfl,.lst e,rfl,A7 (A7 ?_)⟩;refine⟨_,Or.inl ⟨_,t,rfl⟩,_,Or.inl ⟨_,e,rfl⟩,rfl,rfl,Am (λh=>?_) (λh=>?_)⟩;refine q false _ (Ac.refl _) ⟨λz=>(by cases z),λz=>?_⟩;cases z;rw[u,p] at h;simp at h
     have X:r.length=k.length:=by
      rw[u,p] at h;simp at h;lia
     refine⟨a,b,rfl,Or.inl ⟨⟨_,t⟩,⟨_,e⟩,XE LK (xs:=us) (ys:=W) (λi σ L=>∃v A,σ=[some (.ref a),some (.ref b),v,A]/\Ac H L/\∀j:Nat,j<i->r[j]?=k[j]?) ⟨none,none,rfl,Ac.refl _,λj M=>absurd M (Nat.not_lt_zero _)⟩ (λi σ L aa=>by obtain⟨_,_,_,s,_⟩:=aa;exact⟨s.seq t,s.seq e⟩) ?_ ?_⟩⟩;rintro i x y T σ Y ab ae hT ⟨v,A,rfl,C,D⟩;obtain⟨N,l,t1⟩:=J.get ab;obtain⟨O,E,t2⟩:=I.get ae;have Q:=Bb (o:=.tup [x,y]) hT;refine⟨_,Ar.of Aa,rfl,?_⟩;generalize upd Y T (.tup [x,y])=H2 at Q ⊢;have m:=C.trans Q;refine⟨x,y,N,O,rfl,t1.same m,t2.same m,hd N (A9 l),U O (A9 E),λbb H3 R S=>⟨rfl,?_⟩⟩
     cases bb with
     |false =>
       refine CB (q false _ (m.trans R) ⟨λz=>(by cases z),λz=>?_⟩);have e1:r=k:=by cases z;rfl
       rw[e1,E] at l;have:=S.mpr (Bz l).symm;cases this
     |true =>
       refine A7 ⟨_,_,rfl,m.trans R,λj M=>?_⟩;by_cases c:j=i;rw[c,l,E,S.mp rfl];exact D j (by lia)
     rintro σ Y ⟨v,A,rfl,C,D⟩;refine q true _ C ⟨λ_=>?_,λ_=>rfl⟩;congr 1;refine List.ext_getElem? λj=>?_;by_cases c:j<k.length
     exact D j (by simp only[p,u,X,Nat.min_self] at *;lia)
     rw[Gg (by lia),Gg (by lia)]
   |bl _=>exact False.elim hd
   |_=>exact CB (q false _ (Ac.refl _) ⟨λz=>(by cases z),λz=>(by cases z)⟩)
 | tup k =>
   obtain⟨b,W,rfl,e,I⟩:=Zf G;have p:=I.length;refine⟨rfl,Am (λh=>absurd (Bm h) (by simp)) (λ_=>?_)⟩;refine⟨_,.str,.tup,rfl,.tup e,rfl,A7 ?_⟩;refine⟨_,.int,.tup,rfl,.tup e,rfl,A7 ?_⟩;refine⟨_,.lst,.tup,rfl,.tup e,rfl,A7 (A7 ?_)⟩;refine⟨_,.tup,.tup,rfl,.tup e,rfl,CB ⟨_,.tup,Qa d,rfl,RV g,rfl,?_⟩⟩
   cases d with
   |tup r =>
     obtain⟨a,us,rfl,t,J⟩:=Zf g;have u:=J.length;refine A7 ?_;refine⟨_,Or.inr ⟨_,t,rfl⟩,_,Or.inr ⟨_,e,rfl⟩,rfl,rfl,Am (λh=>?_) (λh=>?_)⟩;refine q false _ (Ac.refl _) ⟨λz=>(by cases z),λz=>?_⟩;cases z;rw[u,p] at h;simp at h
     have X:r.length=k.length:=by
      rw[u,p] at h;simp at h;lia
     refine⟨a,b,rfl,Or.inr ⟨⟨_,t⟩,⟨_,e⟩,XE TK (xs:=us) (ys:=W) (λi σ L=>∃v A,σ=[some (.ref a),some (.ref b),v,A]/\Ac H L/\∀j:Nat,j<i->r[j]?=k[j]?) ⟨none,none,rfl,Ac.refl _,λj M=>absurd M (Nat.not_lt_zero _)⟩ (λi σ L aa=>by obtain⟨_,_,_,s,_⟩:=aa;exact⟨s.seqT t,s.seqT e⟩) ?_ ?_⟩⟩;rintro i x y T σ Y ab ae hT ⟨v,A,rfl,C,D⟩;obtain⟨N,l,t1⟩:=J.get ab;obtain⟨O,E,t2⟩:=I.get ae;have Q:=Bb (o:=.tup [x,y]) hT;refine⟨_,Ar.of Aa,rfl,?_⟩;generalize upd Y T (.tup [x,y])=H2 at Q ⊢;have m:=C.trans Q;refine⟨x,y,N,O,rfl,t1.same m,t2.same m,hd N (A9 l),U O (A9 E),λbb H3 R S=>⟨rfl,?_⟩⟩
     cases bb with
     |false =>
       refine CB (q false _ (m.trans R) ⟨λz=>(by cases z),λz=>?_⟩);have e1:r=k:=by cases z;rfl
       rw[e1,E] at l;have:=S.mpr (Bz l).symm;cases this
     |true =>
       refine A7 ⟨_,_,rfl,m.trans R,λj M=>?_⟩;by_cases c:j=i;rw[c,l,E,S.mp rfl];exact D j (by lia)
     rintro σ Y ⟨v,A,rfl,C,D⟩;refine q true _ C ⟨λ_=>?_,λ_=>rfl⟩;congr 1;refine List.ext_getElem? λj=>?_;by_cases c:j<k.length
     exact D j (by simp only[p,u,X,Nat.min_self] at *;lia)
     rw[Gg (by lia),Gg (by lia)]
   |bl _=>exact False.elim hd
   |_=>exact CB (q false _ (Ac.refl _) ⟨λz=>(by cases z),λz=>(by cases z)⟩)
def nF(B:BC mg)(F:Bp K "_law_same" "_law_same" Oq f fd)(a:mg "_law_same" = some (.ref f))(n:Nat):BB P w K mg base "_law_same" (0+n) ["_law_found", "_law_due"] (RW K n):=by
 have b:Binds K fd ["_law_found", "_law_due"] []:=F.binds λ_ _ _ _ _ _ us c=>(by obtain⟨g,i,rfl⟩:=IF c;rfl)
 induction n with
 |zero=>exact⟨f,fd,⟨λd H Q E h=>(by obtain⟨_,_,_,_,_,_,_,h,_⟩:=h;exact False.elim h),λA k s H j us d Q E _ _ _ _ h=>(by obtain⟨_,_,_,_,_,_,_,h,_⟩:=h;exact False.elim h)⟩,a,F.kp,b⟩
 |succ n e=>exact⟨f,fd,nC B n e F,a,F.kp,b⟩
abbrev Qb(P w K mg base):=BB P w K mg base "_law_same" 8 ["_law_found", "_law_due"] (nB K)
def nH(B:BC mg)(F:Bp K "_law_same" "_law_same" Oq f fd)(a:mg "_law_same" = some (.ref f)):Qb P w K mg base:=
 nF B F a 8
inductive CT (K:Ah) (vs:List V) (H:Hp) (Q:VK):Prop where
 |mk (nt A t S:Addr) (F:Addr->Prop) (W:Wd) (qs:List Qu) (inn:Int) (ord:A') (ws:E') (h0:vs=[.ref nt,.ref A,.ref t,.ref S]) (h1:LC K F H nt A t W qs inn ord) (h2:Je W qs inn ord) (h3:qs.length=W.as.length) (h4:qs.length<=50) (h5:H S=some (.lst (ws.map oV))) (h6:ws.length=qs.length) (h7:(∀(k:Nat)(q:Qu)(o:Option Int),qs[k]?=some q->ws[k]?=some o->M7 W inn ord q W.as[k]? o)) (h8:(∀(k:Nat)(o:Int),ws[k]?=some (some o)->Lo W.as o)) (h9:∀H',Ac H H'->Q (.bl true) H'):CT K vs H Q
def nI (K:Ah):Sp:=λvs H Q _=>CT K vs H Q
abbrev RX(P w K mg base):=BB P w K mg base "_law_waiting" 9 ["_law_net", "_law_answers", "_law_table_here", "_law_some"] (nI K)
theorem nJ(B:BC mg)(aq:RS P w K mg base)(ar:Qb P w K mg base)(F:Bp K "_law_waiting" "_law_waiting" SN f fd)(Z:mg "_law_waiting" = some (.ref f)):RX P w K mg base:=by
 refine BO F Z Vl (λz H Q E h=>?_) (λa0 A a4 s H z Q E hr h=>?_);obtain⟨C,A,t,S,F,W,d,T,U,g,rfl,_⟩:=h;rfl
 . obtain⟨C,A,t,S,F,W,d,T,U,g,rfl,u,ok,hl,a1,j,lw,M,aa,q⟩:=h
   obtain⟨ab,eA,ae⟩:=u.ans;have la:ab.length=d.length:=(by rw[ae.length,Ak,hl]);have lS:(g.map oV).length=d.length:=(by rw[Ak,lw])
   refine⟨_,(Ao (Bc (PW.pt (IV (Hc (FE (BA G0 B.b_isinstance (Ab (pv 3) (Ab (G1 "list" rfl B.b_list (by decide +kernel)) Af))))) (NO (Bv L9 (BA Dy B.b_len (Ab (pv 3) Af)) (BA Dy B.b_len (Ab (pv 1) Af)) (Bs _))))) (As (AK FD)) Bg)
    (Ao (CG Cn rfl (Hx rfl B.b_range (Ab (BA Dy B.b_len (Ab (pv 3) Af)) Af)) (Az (i:=4) Vl.nd) (As (Bc (ET (IU (Ax Ay (pv 1) (pv 4)))) (As (Bc (ET (IU (Ax Ay (pv 3) (pv 4)))) (As (AK FD)) Bg)) (Ao (AL (i:=5) Vl.nd (A5 aq (Ab (pv 0) (Ab (pv 1) (Ab (pv 2) (Ab (pv 4) Af))))))
     (As (Bc (PW.pt (IV (ET (IU (Ax Ay (pv 5) Ai))) (IV (Hc (FE (A5 ar (Ab (Ax Ay (pv 3) (pv 4)) (Ab (Ax Ay (Ax Ay (pv 5) Ai) Ai) Af))))) (NO (ET (IU (Ax Ay (pv 1) (Ax Ay (pv 3) (pv 4))))))))) (As (AK FD)) Bg))))))
    (As (AK FD)))),?_⟩
   rfl';refine⟨_,.lst,.lst,rfl,.lst (Ae.of j),rfl,A7 ⟨_,Or.inl ⟨_,Ae.of j,rfl⟩,_,Or.inl ⟨_,eA,rfl⟩,rfl,rfl,Am (λh=>absurd h (by rw[lS,la];simp)) (λ_=>?_)⟩⟩;refine⟨_,Or.inl ⟨_,Ae.of j,rfl⟩,(by lia),(by lia),Jv (lo:=0) (n:=(g.map oV).length) (λi σ H'=>∃D G,σ=[some (.ref C),some (.ref A),some (.ref t),some (.ref S),D,G]/\Ac H H') ⟨none,none,rfl,Ac.refl _⟩ ?_ ?_⟩;rotate_left;rintro σ H4 ⟨D,G,rfl,c⟩;exact q _ c;rintro i σ H4 hi ⟨D,G,rfl,c⟩;have m:=AC (show i<g.length by lia);have y:=AC (show i<d.length by lia);generalize g[i]'(by lia)=o at m;generalize d[i]'(by lia)=I at y;have J:Bl (g.map oV) (0+(i:Int))=some (oV o):=by rw[Int.zero_add];exact BQ (by rw[A8,m];rfl)
   obtain⟨z,v,af,hv,V⟩:=(u.same c).ans.get (k:=i) (by lia);have au:Bl z (0+(i:Int))=some v:=by rw[Int.zero_add];exact BQ hv
   refine Or.inl ⟨_,v,af,au,rfl,Am (λh=>?_) (λh=>?_)⟩;refine Or.inl ⟨_,oV o,Ae.of (c _ _ j),J,rfl,Am (λh2=>?_) (λ_=>⟨_,_,rfl,c⟩)⟩;rcases M i I o y m with⟨p,_,rfl⟩|⟨e,_⟩;exact absurd h2 (by decide);rcases V with⟨_,rfl⟩|⟨p,N,O,_⟩;exact absurd h (by decide);rw[e] at O;cases O
   have e0:W.as[i]?=some none:=by
    rcases V with⟨e,_⟩|⟨p,N,_,rfl,_⟩;exact e;exact absurd rfl h
   rcases M i I o y m with⟨p,e,_⟩|⟨_,l,a2,a3,av,rfl⟩;rw[e0] at e;cases e;refine⟨C,A,t,F,W,d,T,U,_,i,I,rfl,Int.zero_add _,y,u.same c,ok,λfv a w ls ts H5 s5 ag ah=>?_⟩;obtain⟨rfl,rfl,_,_⟩:=UP av ah;refine AM λNz r=>?_;obtain⟨ep,ex,ey,rfl,X,ai,aj⟩:=Lr ag;refine r ?_;clear r;obtain rfl:=ai.ansN;refine AM λNz r=>?_;obtain⟨tp,x,ay,az,rfl,ak,_,_,hz⟩:=N8 aj;refine r ?_;clear r;obtain rfl:=Lq hz;have Y:=c.trans s5;refine Or.inr (Or.inl ⟨_,.non,Ar.of X,rfl,rfl,A7 ?_⟩);refine Or.inl ⟨_,.int l.2.2,Ae.of (Y _ _ j),J,Or.inr (Or.inl ⟨_,.ref tp,Ar.of X,rfl,Or.inr (Or.inl ⟨_,.int l.2.2,Ar.of ak,rfl,_,_,_,_,rfl,.int _,.int _,True.intro,True.intro,λb H6 s6 hb=>?_⟩)⟩)⟩;obtain rfl:b=true:=hb.mpr rfl;have L:=Y.trans s6;refine⟨rfl,A7 ?_⟩;obtain⟨j0,j1,j2⟩:=aa i _ m;obtain⟨al,R,an,ao,aw⟩:=(u.same L).ans.get (k:=l.2.2.toNat) (by lia)
   have ax:Bl al l.2.2=some R:=by
    have:=BQ ao;rw[Int.toNat_of_nonneg j0] at this;exact this
   obtain rfl:R=.non:=by
    rcases aw with⟨_,e⟩|⟨p,N,e,_⟩;exact e;rw[j2] at e;cases e
   exact Or.inl ⟨_,.int l.2.2,Ae.of (L _ _ j),J,Or.inl ⟨_,.non,an,ax,rfl,A7 ⟨_,_,rfl,L⟩⟩⟩
inductive CU (K:Ah) (vs:List V) (H:Hp) (Q:VK):Prop where
 |mk (R:Addr) (ns:List Int) (n:Int) (h0:vs=[.ref R,.int n]) (h1:H R=some (.lst (ns.map V.int))) (h2:(∀y∈ns,0<=y/\y<n)) (h3:∀H',Ac H H'->Q (.bl true) H'):CU K vs H Q
def nK (K:Ah):Sp:=λvs H Q _=>CU K vs H Q
abbrev RY(P w K mg base):=BB P w K mg base "_law_numbers" 1 ["_law_some", "_law_many"] (nK K)
theorem nL(B:BC mg)(F:Bp K "_law_numbers" "_law_numbers" SO f fd)(e:mg "_law_numbers" = some (.ref f)):RY P w K mg base:=by
 refine BO F e YS (λg H Q E h=>?_) (λt A u s H g Q E r h=>?_);obtain⟨R,ns,n,rfl,_⟩:=h;rfl;obtain⟨R,ns,n,rfl,a,j,q⟩:=h
 refine⟨_,(Ao (Bc (Hc (FE (BA G0 B.b_isinstance (Ab (pv 0) (Ab (G1 "list" rfl B.b_list (by decide +kernel)) Af))))) (As (AK FD)) Bg)
  (Ao (CG Cn rfl (Dk (pv 0)) (Az (i:=2) YS.nd) (As (Bc (PW.pt (IV (Hc (FE (BA G0 B.b_isinstance (Ab (pv 2) (Ab (G1 "int" rfl B.b_int (by decide +kernel)) Af))))) (IV (FE (BA G0 B.b_isinstance (Ab (pv 2) (Ab (G1 "bool" rfl B.b_bool (by decide +kernel)) Af)))) (NO (Hc (Wc OJ Gx Ai (pv 2) (pv 1))))))) (As (AK FD)) Bg)))
  (As (AK FD)))),?_⟩
 rfl';refine⟨_,.lst,.lst,rfl,.lst (Ae.of a),rfl,A7 ?_⟩;refine⟨⟨_,Ae.of a⟩,EU (xs:=ns.map V.int) (λi σ d=>∃b,σ=[some (.ref R),some (.int n),b]/\Ac H d) ⟨none,rfl,Ac.refl _⟩ (λi σ d _ p=>by obtain⟨_,_,s⟩:=p;exact Ae.of (s _ _ a)) ?_ ?_⟩;rintro i x σ Y k ⟨b,rfl,c⟩;obtain⟨y,l,rfl⟩:=getm k;obtain⟨m,o⟩:=j y (A9 l);refine⟨_,.int,.int,rfl,.int y,rfl,A7 ⟨_,.bool,.int,rfl,.int y,rfl,A7 ⟨_,rfl,Am (λ_=>⟨rfl,Am (λh=>?_) (λ_=>⟨_,rfl,c⟩)⟩) (λh=>absurd (Ba m) h)⟩⟩⟩;rw[Ba o] at h;cases h;rintro σ Y ⟨b,rfl,c⟩;exact q _ c
inductive Dh (K:Ah) (vs:List V) (H:Hp) (Q:VK):Prop where
 |mk (C S:Addr) (R:List Int) (ws:E') (f:Int) (h0:vs=[.ref C,.ref S,.int f]) (h1:H C=some (.lst (R.map V.int))) (h2:H S=some (.lst (ws.map oV))) (h3:ws.length<=50) (h4:R.length<=50) (h5:FN ws f R) (h6:∀H',Ac H H'->Q (.bl true) H'):Dh K vs H Q
def nM (K:Ah):Sp:=λvs H Q _=>Dh K vs H Q
abbrev RZ(P w K mg base):=BB P w K mg base "_law_ringed" 1 ["_law_circle", "_law_some", "_law_first"] (nM K)
theorem nN(B:BC mg)(F:Bp K "_law_ringed" "_law_ringed" SQ f fd)(L:mg "_law_ringed" = some (.ref f)):RZ P w K mg base:=by
 refine BO F L Ru (λM H Q E h=>?_) (λan aj aq s H M Q E A h=>?_);obtain⟨C,S,R,d,f,rfl,_⟩:=h;rfl;obtain⟨C,S,R,d,f,rfl,a,t,lw,lR,g,q⟩:=h;obtain⟨b,xs,k⟩:=List.exists_cons_of_ne_nil g.ne;have ah:=g.low b (by rw[k];rfl);obtain⟨N,O⟩:=YH b xs;have ai:xs.foldl min b=b:=Int.le_antisymm (O b Bn) (ah _ (by rw[k];exact N))
 refine⟨_,(Ao (Bc (PW.pt (IV (Bv (TY A.units) (pv 0) (Cq Af) (Bs _)) (IV (Bv L9 (Ax Ay (pv 0) Ai) (BA (YG rfl) B.b_min (Ab (pv 0) Af)) (Bs _)) (NO (Bv Gx (BA iH B.b_len (Ab (GZ (Ys rfl) B.b_set (Ab (pv 0) Af)) Af)) (BA Dy B.b_len (Ab (pv 0) Af)) (Bs _)))))) (As (AK FD)) Bg)
  (Ao (CG Cn rfl (Hx rfl B.b_range (Ab (BA Dy B.b_len (Ab (pv 0) Af)) Af)) (Az (i:=3) Ru.nd) (As (Bc (Bv L9 (Ax Ay (pv 1) (Ax Ay (pv 0) (AE Hz (pv 3) Ai))) (Ax Ay (pv 0) (pv 3)) (Bs _)) (As (AK FD)) Bg)))
  (Ao (CG Cn rfl (Hx rfl B.b_range (Ab (BA Dy B.b_len (Ab (pv 1) Af)) Af)) (Az (i:=3) Ru.nd) (As (AL (i:=2) Ru.nd (Ax Ay (pv 1) (pv 2)))))
  (As (AK (IZ (HN A.units) (pv 2) (pv 0) (by with_unfolding_all rfl))))))),?_⟩
 rfl';refine⟨by decide,λak T=>?_⟩;obtain⟨al,aa,l,U⟩:=new_at (o:=.lst []) T;rw[<-aa];refine⟨1,.lst (R.map Dt.int),.lst [],.lst (.nil' _),by decide,.lst (Ae.of (l _ _ a)) (ME R),.lst (Ae.of U) .nil,rfl,Am (λh=>?_) (λ_=>?_)⟩;have:=DA.mp h;rw[k] at this;cases this;refine Or.inl ⟨_,.int b,Ae.of (l _ _ a),BQ (j:=0) (by rw[k];rfl),C,b,xs,rfl,by rw[<-k];exact l _ _ a,rfl,rfl,Am (λh=>?_) (λ_=>?_)⟩
 rw[show MH (b::xs)=.int b from Bq V.int ai] at h
 simp at h;refine⟨C,R,rfl,Ae.of (l _ _ a),by lia,λD W=>?_⟩;obtain⟨H2,ab,X,ae⟩:=new_at (o:=Iu P w D R) W;rw[<-ab];have x:=l.trans X;refine⟨D,R,rfl,ae,by lia,λds d1 Y=>?_⟩;have ao:=List.Nodup.length_le_of_subset g.nd λy e=>(Y y).mpr e;refine⟨_,Or.inl ⟨_,Ae.of (x _ _ a),rfl⟩,rfl,Am (λh=>?_) (λ_=>?_)⟩;have:=Bm h;rw[Ak] at this;lia;refine⟨_,Or.inl ⟨_,Ae.of (x _ _ a),rfl⟩,(by lia),(by rw[Ak];lia),Jv (lo:=0) (n:=(R.map V.int).length) (λi σ u=>∃m,σ=[some (.ref C),some (.ref S),some (.int f),m]/\Ac H u) ⟨none,rfl,x⟩ ?_ ?_⟩;rintro i σ Z r ⟨m,rfl,c⟩;rw[Ak] at r;have G:=AC r;obtain⟨y,h1,h2⟩:=g.before G;refine Or.inl ⟨_,.int y,Ae.of (c _ _ a),by rw[Int.zero_add];exact h1,Or.inl ⟨_,.int R[i],Ae.of (c _ _ t),Lu h2,Or.inl ⟨_,.int R[i],Ae.of (c _ _ a),by rw[Int.zero_add];exact ID G,rfl,rfl,Am (λh=>absurd h (by simp)) (λ_=>⟨_,rfl,c⟩)⟩⟩⟩;rintro σ Z ⟨m,rfl,c⟩;obtain⟨I,J,af⟩:=g.end_;refine⟨_,Or.inl ⟨_,Ae.of (c _ _ t),rfl⟩,(by lia),(by rw[Ak];lia),Jv (lo:=0) (n:=(d.map oV).length) (λi σ u=>∃y m,σ=[some (.ref C),some (.ref S),some (.int y),m]/\Ac H u/\it d f i=some y) ⟨f,_,rfl,c,rfl⟩ ?_ ?_⟩;rintro i σ H4 r ⟨y,u4,rfl,p,e⟩
 rw[Ak] at r;obtain⟨z,v⟩:=Ls J (i+1) (by lia);have ag:=v;rw[show it d f (i+1)=(it d f i).bind (nx d) from rfl,e] at v;refine Or.inl ⟨_,.int z,Ae.of (p _ _ t),Lu v,?_⟩;exact⟨z,_,rfl,p,ag⟩
 rintro σ H4 ⟨y,u4,rfl,p,e⟩;rw[Ak,J] at e;cases e;refine⟨1,.int I,R.map Dt.int,C,_,Rl,by decide,.int I,rfl,Ae.of (p _ _ a),ME R,?_⟩;rw[Ey (GA.mpr af)];exact q _ p
def NF{gs:List (Str×Int)}{qs:List Qu}{c:List Cu}{inn:Int}{ord:A'}(h:Ol ns ss gs qs c inn ord):Kw ⟨ss,gs,[],c⟩ qs inn ord:=by
 have d:=P0 ns;have e:=P1 ns;have f:=RG ns (Cj ns).length;have eq:qs.length=BL ns:=(by rw[h.qs,VB]);have a:=RF (ls:=Nu ns) (ns:=Er ns) d.1 f.1 e.1 (Cj ns) (Cj ns).length;rw[<-h.ss] at a;refine {all:=λi b=>P2 h b.len b.rng,tr:=h.tb.ord.tr (YW (by decide)),s3:=λs g=>?_,lq:=by lia};have:=a.st s g;have:E4 (BF ns)<=3:=by unfold E4;split<;>lia
 lia
theorem nO(n:Nat):∀a:C',Dn (n+2) (BU a)
 |none=>True.intro
 |some p=>λd hd=>by
   rcases B5.mp hd with rfl|hd;exact True.intro;rw[AW.mp hd];exact True.intro
def LI(ws:E'):Dn 8 (.lst (ws.map J6)):=λd hd=>by
 obtain⟨o,_,rfl⟩:=AZ.mp hd;cases o<;>exact True.intro
def Zg{as:List A4}:∀e∈as.map BU,Dl 1 e .non:=λe a=>by
 obtain⟨o,_,rfl⟩:=AZ.mp a
 cases o with
 |none=>exact .non
 |some p=>exact .apart rfl
def EB{as:List A4}{k:Nat}:(as.map BU)[k]?=some .non↔as[k]?=some none:=by
 rw[A8]
 cases as[k]? with
 |none=>exact⟨nofun,nofun⟩
 |some o=>cases o with
   |none=>exact⟨λ_=>rfl,λ_=>rfl⟩
   |some p=>exact⟨nofun,nofun⟩
inductive LJ (K:Ah) (vs:List V) (H:Hp) (Q:VK):Prop where
 |mk (a:Addr) (ns:List Int) (h0:vs=[.ref a]) (h1:Ae K H a (ns.map V.int)) (h2:ns.length<=63) (h3:∀H',Q (.bl true) H'):LJ K vs H Q
def Qc (K:Ah):Sp:=λvs H Q _=>LJ K vs H Q
theorem IQ(B:BC mg)(aG:RI P w K mg base)(bz:RQ P w K mg base)(aU:PU P w K mg base)(aH:RU P w K mg base)(aI:P9 P w K mg base)(b0:RX P w K mg base)(b1:RY P w K mg base)(b2:RZ P w K mg base)(b3:Qb P w K mg base)(F:Bp K "law" "law" K0 f fd):EF P w K mg base I7 12 f fd ["_law_script"] (Qc K):=by
 refine F.ok Jk (λvs H aO aP h=>?_) (λb9 A bQ s H vs aO aP X h=>?_);obtain⟨a,ns,rfl,_⟩:=h;rfl
 . obtain⟨a,ns,rfl,hS,aJ,kq⟩:=h
   refine⟨_,(Ao (D6 (A5 aG (Ab (pv 0) Af)) (Cp (n:=2) rfl (AH (Az (i:=1) Jk.nd) (AH (Az (i:=2) Jk.nd) Co))))
    (Ao (AL (i:=3) Jk.nd (A5 aG (Ab (pv 0) Af)))
    (Ao (AL (i:=4) Jk.nd (Ax Ay (A5 bz (Ab (Ax Ay (pv 3) Ai) (Ab (Ax Ay (pv 3) Ai) Af))) Ai))
    (Ao (AL (i:=5) Jk.nd (GZ Qy B.b_list (Ab (pv 4) Af)))
    (Ao (Bc (Bv CJ (AE Bu (A5 aU (Ab (pv 0) (Ab Ai Af))) Ai) Ai (Bs _)) (As (C8 (C3 C0 Ev Ew Ex (A5 aH (Ab (Ax Ay (pv 3) Ai) (Ab (pv 4) (Ab (Ax Ay (pv 3) Ai) Af)))) (Ab (K5 K6 Ai) Af)))) Bg)
    (Ao (AL (i:=6) Jk.nd (A5 aI (Ab (Ax Ay (pv 3) Ai) (Ab (pv 4) (Ab (Ax Ay (pv 3) Ai) Af)))))
    (Ao (Bc (Hc (FE (A5 b0 (Ab (pv 1) (Ab (pv 5) (Ab (pv 2) (Ab (pv 6) Af))))))) (As (AK FD)) Bg)
    (Ao (AL (i:=7) Jk.nd (GZ Qy B.b_list (Ab (pv 6) Af)))
    (Ao (C8 (Mi C0 PySem.F.slot_list_clear PySem.F.type_list_clear Z3 (pv 6)))
    (Ao (AL (i:=8) Jk.nd (A5 aH (Ab (Ax Ay (pv 3) Ai) (Ab (pv 4) (Ab (Ax Ay (pv 3) Ai) Af)))))
    (Ao (Bc (Hc (FE (A5 b1 (Ab (pv 8) (Ab (BA Dy B.b_len (Ab (pv 5) Af)) Af))))) (As (AK FD)) Bg)
    (Ao (Bc (Bv (T4 X.units) Gv (pv 5) (by with_unfolding_all rfl)) (As (Bc (Bv (Ms X.units) (pv 8) (Cq Af) (Bs _)) (As (AK FD)) Bg)) (As (Bc (Hc (FE (A5 b2 (Ab (pv 8) (Ab (pv 7) (Ab (C3 C0 PySem.F.slot_list_index PySem.F.type_list_index (Vb X.units) (pv 5) (Ab Gv Af)) Af)))))) (As (AK FD)) Bg)))
    (Ao (AL (i:=9) Jk.nd (A5 aI (Ab (Ax Ay (pv 3) Ai) (Ab (pv 4) (Ab (Ax Ay (pv 3) Ai) Af)))))
    (As (AK (Oz (A5 b3 (Ab (pv 9) (Ab (pv 7) Af))) (Oz (IZ (TY X.units) (pv 4) (pv 5) (Bs _)) (SX (IZ (TY X.units) (pv 3) (BE (Ab (pv 1) (Ab (pv 2) Af))) (Bs _)))))))))))))))))))),?_⟩
   rfl';refine⟨a,ns,rfl,hS,aJ,λb7 L t aQ aR R us Gs Es ts qt ss j d p r u b8 s1 er eN N3 TB md=>?_⟩;refine⟨_,Ar.of er,rfl,?_⟩;refine⟨a,ns,rfl,s1.seq hS,aJ,λr2 C v S2 T2 R2 aV aW aX aY aZ bA bB bC bM bN bO H2 Y J az a0 a1 ba=>?_⟩;refine AM λNz a2=>?_;obtain⟨e1,e2,e3,e4,e5,e6⟩:=md.uniq ba;refine a2 ?_;clear a2;subst e1 e2 e3 e4 e5 e6;refine AR ?_;cbv;have ae:=NF md;have bb:LN K (λ_=>True) H2 L t ⟨ss,j,[],p⟩ d r u:=⟨⟨aQ,aR,R,us,Gs,Es,ts,qt,Y _ _ eN,N3.same Y⟩,TB.same Y⟩;have a3:LN K (λ_=>True) H2 C v ⟨ss,j,[],p⟩ d r u:=⟨⟨S2,T2,R2,aV,aW,aX,aY,aZ,az,a0⟩,a1⟩;have bD:d.length=BL ns:=(by rw[md.qs,VB]);have zA:=P1 ns;refine Or.inr (Or.inl ⟨_,.ref C,Ar.of J,rfl,Or.inr (Or.inl ⟨_,.ref v,Ar.of J,rfl,C,v,λ_=>True,⟨ss,j,[],p⟩,d,r,u,rfl,a3,ae,λr3 A Tn n c tu H3 s3 hA bE bF bc bd bP ru nx=>?_⟩)⟩);refine Or.inr (Or.inl ⟨_,.ref A,Ar.of bc,rfl,?_⟩);refine AR ?_;cbv;obtain⟨an,bG⟩:=ru.aok ae.toSOk;obtain⟨U,a4,a5⟩:=bd;have Lk:=ae.all c an;have x:d.length=c.length:=an.len.symm
   have af:∀(k:Nat)(q:Qu),d[k]?=some q->c[k]?=some none->∀a w ls ts,LU ⟨ss,j,c,p⟩ r u q.1 q.2.1 q.2.2 0 a w ls ts->a=none:=λk q hq e a w ls tl be=>by
    have:=ru.still ae.toSOk nx hq (b:=a) ⟨w,ls,tl,be⟩;rw[e] at this;cases this;rfl
   refine⟨A,U,rfl,Or.inl (Ae.of a4),λLK bf=>?_⟩;obtain⟨Z,bg,s4,V⟩:=new_at (o:=.lst U) bf;rw[<-bg];have I:=s3.trans s4;have a6:=s4 _ _ a4;have ao:=a5.same s4;refine AR ?_;cbv;have ag:∀{G:Hp},Ac Z G->LC K (λ_=>True) G C A v ⟨ss,j,c,p⟩ d r u:=λs=>(a3.same (I.trans s)).lc (E2.ans ⟨U,s _ _ a6,ao.same s⟩);refine Hh (λσ' G=>σ'=[some (.ref a),some (.ref L),some (.ref t),some (.ref r2),some (.ref A),some (.ref LK),none,none,none,none]/\Ac Z G) ?_ (λaS hN=>?_);rotate_left;refine⟨a,ns,8,rfl,by decide,(s1.trans (Y.trans I)).seq hS,(by show(0:Int)<2;decide),rfl,rfl,Am (λ_=>?_) (λ_=>hN _ _ ⟨rfl,Ac.refl _⟩)⟩;refine Or.inr (Or.inl ⟨_,.ref C,Ar.of (I _ _ J),rfl,Or.inr (Or.inl ⟨_,.ref v,Ar.of (I _ _ J),rfl,C,A,v,λ_=>True,⟨ss,j,c,p⟩,d,r,u,rfl,ag (Ac.refl _),Lk,x,by lia,af,λg E M=>Lv Lk x ⟨E,M⟩,λD R g H5 hD Q S E M l=>?_⟩)⟩)
   have T:R.length<=50:=by
    rcases l with⟨_,rfl⟩|⟨f,o,_,_,l⟩;exact Di _
    have:=HZ g.length _ l.nd λy N=>by
     obtain⟨k,hk⟩:=List.mem_iff_getElem?.mp N;obtain⟨z,_,e⟩:=l.cyc k y hk;exact IB e
    lia
   exact⟨Or.inl ⟨rfl,_,Ae.of S⟩,_,S,by rw[Ak];exact BK (by lia),hN _ _ ⟨rfl,λb aT e=>by rw[AD (AX e hD)];exact Q _ _ e⟩⟩;rintro σ' H5 ⟨rfl,Q⟩;have a7:=(I.trans Q) _ _ J;refine Or.inr (Or.inl ⟨_,.ref C,Ar.of a7,rfl,Or.inr (Or.inl ⟨_,.ref v,Ar.of a7,rfl,C,A,v,λ_=>True,⟨ss,j,c,p⟩,d,r,u,rfl,ag Q,Lk,x,by lia,af,λD g H6 hD s6 S E M=>?_⟩)⟩);have O:Oc ⟨ss,j,c,p⟩ r u d g:=⟨E,M⟩;have ah:=Q.trans s6;refine AR ?_;cbv;refine⟨L,LK,t,D,λ_=>True,⟨ss,j,c,p⟩,d,r,u,g,rfl,(bb.same (I.trans ah)).lc (E2.ans ⟨U,ah _ _ V,ao.same ah⟩),Lk,x,by lia,S,E,M,λk o e=>YK Lk O e,λH7 s7=>⟨rfl,A7 ?_⟩⟩;have ai:=s7 _ _ S;have bh:=ah.trans s7;refine⟨D,_,rfl,Or.inl (Ae.of ai),λLW aq=>?_⟩;obtain⟨H8,bi,s8,a8⟩:=new_at (o:=.lst (g.map oV)) aq;rw[<-bi];have bj:LW≠D:=λz=>by rw[z,ai] at aq;cases aq
   have ar:=s8 _ _ ai;refine AR ?_;cbv;refine⟨Or.inl ⟨rfl,_,Ae.of ar⟩,D,_,rfl,rfl,ar,?_⟩;have bk:Z D=none:=Q.free hD;have s9:Ac Z (upd H8 D (.lst [])):=λb aT e=>by rw[AD (AX e bk)];exact s8 _ _ (bh _ _ e)
   have a9:(upd H8 D (.lst [])) LW=some (.lst (g.map oV)):=by rw[AD bj];exact a8
   generalize upd H8 D (.lst [])=H9 at s9 a9 ⊢;clear ar a8 s8 ai S s7 s6;have aA:=(I.trans s9) _ _ J;refine Or.inr (Or.inl ⟨_,.ref C,Ar.of aA,rfl,Or.inr (Or.inl ⟨_,.ref v,Ar.of aA,rfl,C,A,v,λ_=>True,⟨ss,j,c,p⟩,d,r,u,rfl,ag s9,Lk,x,by lia,af,λg E M=>Lv Lk x ⟨E,M⟩,λak R bH bI hC aB eC bl bm l=>?_⟩)⟩);obtain rfl:=YL O ⟨bl,bm⟩;have aK:=s9.trans aB;have b4:=aB _ _ a9;refine AR ?_;cbv
   have rng:∀y∈R,0<=y/\y<(g.length:Int):=by
    rcases l with⟨_,rfl⟩|⟨f,o,_,_,l⟩;intro y N;cases N;intro y N;obtain⟨k,hk⟩:=List.mem_iff_getElem?.mp N;obtain⟨z,_,e⟩:=l.cyc k y hk;exact IB e
   have bn:U.length=d.length:=by rw[a5.length,Ak];exact an.len
   refine⟨_,Or.inl ⟨_,Ae.of (aK _ _ V),rfl⟩,ak,R,_,rfl,eC,λy N=>by rw[bn,<-E];exact rng y N,λbo au=>⟨rfl,A7 ?_⟩⟩;have W:=aK.trans au;have aL:=au _ _ eC;have aM:=au _ _ b4;dsimp only[K4];have dK:∀{G:Hp},Ac Z G->Aj K G U (c.map BU):=λs=>(ao.same s).dts;refine Hh (λσ' G=>σ'=[some (.ref a),some (.ref L),some (.ref t),some (.ref r2),some (.ref A),some (.ref LK),some (.ref D),some (.ref LW),some (.ref ak),none]/\Ac bo G) ?_ (λaS hN=>?_);rotate_left;refine⟨1,.non,c.map BU,LK,_,Zg,by decide,.non,rfl,Ae.of (W _ _ V),dK W,rfl,Am (λh=>?_) (λh=>?_)⟩;refine⟨by decide,λay hp=>?_⟩;obtain⟨aC,b5,t1,ep⟩:=new_at (o:=.lst []) hp;rw[<-b5];have av:Dt.non∉c.map BU:=λz=>by rw[Ey z] at h;cases h
   have eR:R=[]:=by
    rcases l with⟨_,e⟩|⟨f,o,T,_,_⟩;exact e;rcases PJ x O (k:=f) (by rw[<-E];exact(AY.mp T).1) with⟨e,_⟩|⟨_,e⟩;exact absurd (A9 (EB.mpr e)) av;rw[T] at e;cases e
   subst eR;refine⟨1,.lst [],.lst [],.lst (.nil _),by decide,.lst (Ae.of (t1 _ _ aL)) .nil,.lst (Ae.of ep) .nil,rfl,Am (λh2=>?_) (λ_=>hN _ _ ⟨rfl,t1⟩)⟩;rw[Ey rfl] at h2;cases h2;have bp:Dt.non∈c.map BU:=Classical.byContradiction λz=>h (by rw[FS z];rfl);rcases l with⟨av,_⟩|⟨f,o,T,hb,l⟩;obtain⟨k,hk⟩:=List.mem_iff_getElem?.mp bp;have aD:=EB.mp hk;rcases PJ x O (k:=k) (by rw[x];exact(AY.mp aD).1) with⟨_,o,e⟩|⟨⟨ay,e⟩,_⟩;exact absurd e (av k o);rw[aD] at e;cases e;have bq:f<d.length:=by rw[<-E];exact(AY.mp T).1
   have br:c[f]?=some none:=by
    rcases PJ x O bq with⟨e,_⟩|⟨_,e⟩;exact e;rw[T] at e;cases e
   refine⟨Or.inl ⟨rfl,_,Ae.of (W _ _ V)⟩,LK,.non,1,.non,c.map BU,_,f,rfl,rfl,Zg,by decide,.non,Ae.of (W _ _ V),dK W,EB.mpr br,λm hm z=>?_,ak,LW,R,g,(f:Int),rfl,aL,aM,by lia,?_,l,λaC aj=>⟨rfl,A7 (hN _ _ ⟨rfl,aj⟩)⟩⟩;rcases PJ x O (k:=m) (by lia) with⟨_,o',e⟩|⟨⟨ay,e⟩,_⟩;exact hb m hm o' e;rw[EB.mp z] at e;cases e;have:=HZ g.length _ l.nd rng;lia;rintro σ' aC ⟨rfl,aj⟩;have aw:=W.trans aj;have aN:=(I.trans aw) _ _ J;refine Or.inr (Or.inl ⟨_,.ref C,Ar.of aN,rfl,Or.inr (Or.inl ⟨_,.ref v,Ar.of aN,rfl,C,A,v,λ_=>True,⟨ss,j,c,p⟩,d,r,u,rfl,ag aw,Lk,x,by lia,af,λD2 bJ bK bL aE bs bt bu=>?_⟩)⟩);obtain rfl:=YL O ⟨bt,bu⟩;have b6:=aw.trans aE;refine AR ?_;cbv;refine⟨_,_,.lst (g.map J6),.lst (g.map J6),rfl,.lst (Ae.of bs) (Rn g),.lst (Ae.of ((aj.trans aE) _ _ aM)) (Rn g),LI g,LI g,λb aF bv hb=>?_⟩;rw[hb.mpr rfl];have aa:=b6.trans bv;refine⟨_,rfl,CB ⟨3,_,_,dB c c,by decide,.lst (Ae.of (aa _ _ a6)) (dK aa),.lst (Ae.of (aa _ _ V)) (dK aa),?_⟩⟩;rw[Ey rfl];refine⟨_,rfl,CB ⟨Cr,λal bw=>?_⟩⟩;have bx:=Bb (o:=.tup [.ref L,.ref t]) bw;have ab:=(I.trans aa).trans bx;have ax:=Y.trans ab;have d1:Ap K (upd aF al (.tup [.ref L,.ref t])) (.ref al) (.tup [HV ss j d,Pb p r u]):=.tup (Ar.of Aa) (.cons ((N3.same ax).dt (ax _ _ eN)) (.cons (TB.same ax).dt .nil));have d2:Ap K (upd aF al (.tup [.ref L,.ref t])) (.ref r2) (.tup [HV ss j d,Pb p r u]):=.tup (Ar.of (ab _ _ J)) (.cons ((a0.same ab).dt (ab _ _ az)) (.cons (a1.same ab).dt .nil));refine⟨7,_,_,.tup (.cons (JS _ _ _ _ _ _) (.cons (cZ _ _ _ _ _ _) (.nil _))),by decide,d2,d1,?_⟩;rw[Ey rfl];exact kq _
abbrev Qd(P w K mg base):=BB P w K mg base "law" 12 ["_law_script"] (Qc K)
def Qe(B:BC mg)(d:RI P w K mg base)(e:RQ P w K mg base)(c:PU P w K mg base)(g:RU P w K mg base)(h:P9 P w K mg base)(i:RX P w K mg base)(j:RY P w K mg base)(k:RZ P w K mg base)(l:Qb P w K mg base)(F:Bp K "law" "law" K0 f fd)(a:mg "law" = some (.ref f)):Qd P w K mg base:=
 ⟨f,fd,IQ B d e c g h i j k l F,a,F.kp,F.binds λ_ _ _ _ _ _ us b=>(by obtain⟨m,rfl⟩:=IE b;rfl)⟩
end
abbrev Fin (K:Ah) (mg:Str->Option Value) (x:Str) (st:Stmt):Prop:=∃f fd,Bp K x x st f fd/\mg x=some (.ref f)
def BM{K:Ah}{h:Heap}{b:Str->Option Value}(X:K.In h)(G:h.Ns mainGlobals b){x:Str}{st:Stmt}(q:Fx K x st):Fin K b x st:=by
 obtain⟨f,d,e,g,m,kV,n,i,o,j,a,l,c,k⟩:=q;exact⟨f,_,HL l c k,PySem.W.mg_of X G a⟩
def all_mk{l:PySem.W.OpenLaw}{w:World}{K:Ah}{h:Heap}{a:Str->Option Value}{f:Addr}(X:K.In h)(G:h.Ns mainGlobals a)(Y:a "law" = some (.ref f))(q:K1 K)
 : ∃g:FuncData,(∀(s:Shared)(v:Value),BindsTo s g ⟨[v],[]⟩ [("_law_script",v)])/\∀b:Heap,K.In b->b.Ns mainGlobals a->EF l.prog w K a b I7 12 f g ["_law_script"] (Qc K):=by
 obtain⟨cp,cq,cs,b5,ct,b6,b7,b8,b9,bA,Z,aa,ab,ae⟩:=q.q51;have e:=Y.symm.trans (PySem.W.mg_of X G Z);cases e;have B:BC a:=⟨Gh X G q.z_all,Gh X G q.z_any,Gh X G q.z_bool,Gh X G q.z_dict,Gh X G q.z_enumerate,Gh X G q.z_int,Gh X G q.z_isinstance,Gh X G q.z_len,Gh X G q.z_list,Gh X G q.z_min,Gh X G q.z_range,Gh X G q.z_set,Gh X G q.z_sorted,Gh X G q.z_str,Gh X G q.z_tuple,Gh X G q.z_zip,q.y_MOST_BEGINNINGS.imp λ_ y=>PySem.W.mg_of X G y⟩;obtain⟨_,_,A,C⟩:=BM X G q.q0;obtain⟨_,_,D,E⟩:=BM X G q.q1;obtain⟨_,_,F,H⟩:=BM X G q.q2;obtain⟨_,_,I,J⟩:=BM X G q.q3;obtain⟨_,_,L,M⟩:=BM X G q.q4;obtain⟨_,_,N,O⟩:=BM X G q.q5;obtain⟨_,_,P,Q⟩:=BM X G q.q6;obtain⟨_,_,R,S⟩:=BM X G q.q7;obtain⟨_,_,T,U⟩:=BM X G q.q8;obtain⟨_,_,V,W⟩:=BM X G q.q9;obtain⟨_,_,af,ag⟩:=BM X G q.q10;obtain⟨_,_,ah,ai⟩:=BM X G q.q11;obtain⟨_,_,aj,ak⟩:=BM X G q.q12;obtain⟨_,_,al,an⟩:=BM X G q.q13;obtain⟨_,_,ao,aq⟩:=BM X G q.q14;obtain⟨_,_,ar,au⟩:=BM X G q.q15;obtain⟨_,_,av,aw⟩:=BM X G q.q16;obtain⟨_,_,ax,ay⟩:=BM X G q.q17;obtain⟨_,_,az,a0⟩:=BM X G q.q18;obtain⟨_,_,a1,a2⟩:=BM X G q.q19;obtain⟨_,_,a3,a4⟩:=BM X G q.q20;obtain⟨_,_,a5,a6⟩:=BM X G q.q21;obtain⟨_,_,a7,a8⟩:=BM X G q.q22;obtain⟨_,_,a9,aA⟩:=BM X G q.q23;obtain⟨_,_,aB,aC⟩:=BM X G q.q24;obtain⟨_,_,aD,aE⟩:=BM X G q.q25;obtain⟨_,_,aF,aG⟩:=BM X G q.q26;obtain⟨_,_,aH,aI⟩:=BM X G q.q27;obtain⟨_,_,aJ,aK⟩:=BM X G q.q28;obtain⟨_,_,aL,aM⟩:=BM X G q.q29;obtain⟨_,_,aN,aO⟩:=BM X G q.q30;obtain⟨_,_,aP,aQ⟩:=BM X G q.q31;obtain⟨_,_,aR,aS⟩:=BM X G q.q32;obtain⟨_,_,aT,aU⟩:=BM X G q.q33;obtain⟨_,_,aV,aW⟩:=BM X G q.q34;obtain⟨_,_,aX,aY⟩:=BM X G q.q35;obtain⟨_,_,aZ,ba⟩:=BM X G q.q36;obtain⟨_,_,bb,bc⟩:=BM X G q.q37;obtain⟨_,_,bd,be⟩:=BM X G q.q38;obtain⟨_,_,bf,bg⟩:=BM X G q.q39;obtain⟨_,_,bh,bi⟩:=BM X G q.q40;obtain⟨_,_,bj,bk⟩:=BM X G q.q41;obtain⟨_,_,bl,bm⟩:=BM X G q.q42;obtain⟨_,_,bn,bo⟩:=BM X G q.q43;obtain⟨_,_,bp,bq⟩:=BM X G q.q44;obtain⟨_,_,br,bs⟩:=BM X G q.q45;obtain⟨_,_,bt,bu⟩:=BM X G q.q46;obtain⟨_,_,bv,bw⟩:=BM X G q.q47;obtain⟨_,_,bx,bz⟩:=BM X G q.q48;obtain⟨_,_,b0,b1⟩:=BM X G q.q49;obtain⟨_,_,b2,b3⟩:=BM X G q.q50;have b4:=HL (st:=K0) aa ab ae;refine⟨PySem.W.fnOf "law" "law" (KZ K0) (IS K0) (A0 K0) .none b6 b7 b8 b5 b9 bA,λs v=>.of_eq rfl,λb _ _=>?_⟩;have bB:Vn l.prog w K a b:=iR B A C;have i:PU l.prog w K a b:=iV B D E;have j:Ry l.prog w K a b:=iY B F H;have bC:Vq l.prog w K a b:=i3 B j I J;have bD:Vt l.prog w K a b:=i7 B j bC L M;have bE:Vv l.prog w K a b:=i9 B N O;have bF:Vw l.prog w K a b:=jB B P Q;have bG:Vx l.prog w K a b:=jE B R S;have bH:Vy l.prog w K a b:=jG B T U;have bI:Vz l.prog w K a b:=jK B bG bH V W;have bJ:RI l.prog w K a b:=jN B bB i bD bE bF bI af ag;have k:RJ l.prog w K a b:=jP B ah ai;have bK:VC l.prog w K a b:=jR B aj ak;have m:RK l.prog w K a b:=jT B bK al an;have bL:VD l.prog w K a b:=jU B m ao aq;have n:RL l.prog w K a b:=j3 B k bL ar au;have bM:VE l.prog w K a b:=kA B n av aw;have bN:VF l.prog w K a b:=kC B bM ax ay;have bO:VG l.prog w K a b:=kE B az a0;have bP:VH l.prog w K a b:=kH B bO a1 a2;have o:RM l.prog w K a b:=kJ B a3 a4;have p:RN l.prog w K a b:=kL B a5 a6;have bQ:VI l.prog w K a b:=kN B a7 a8;have r:RO l.prog w K a b:=kP B bQ a9 aA;have bR:VJ l.prog w K a b:=kS B o p r aB aC;have bS:VL l.prog w K a b:=kW B bP bR aD aE;have bT:VM l.prog w K a b:=kY B o p r aF aG;have c:P5 l.prog w K a b:=lB B aH aI;have bU:VN l.prog w K a b:=lD B c aJ aK;have bV:VO l.prog w K a b:=lH B c aL aM;have bW:IM l.prog w K a b:=lI B bT bU bV aN aO;have bX:VP l.prog w K a b:=lK B n aP aQ;have d:P7 l.prog w K a b:=lM B bN bS bW bX m aR aS;have t:RP l.prog w K a b:=lO B aT aU;have bY:VQ l.prog w K a b:=lQ B t aV aW;have bZ:VR l.prog w K a b:=lV B k bY aX aY;have ca:VS l.prog w K a b:=lX B c aZ ba;have cb:VT l.prog w K a b:=lZ B bZ ca t bb bc;have cc:VU l.prog w K a b:=mF B d cb bd be;have cd:VV l.prog w K a b:=mH B bf bg;have cf:VW l.prog w K a b:=mM B d bh bi;have cg:VX l.prog w K a b:=mP B cc cd cf bj bk;have ch:RQ l.prog w K a b:=mS B cg bl bm;have u:RS l.prog w K a b:=mU B d bn bo;have cj:VY l.prog w K a b:=mY B u bp bq;have x:P9 l.prog w K a b:=m6 B cj br bs;have ck:RU l.prog w K a b:=nA B x bt bu;have z:Qb l.prog w K a b:=nH B bv bw;have cl:RX l.prog w K a b:=nJ B u z bx bz;have cm:RY l.prog w K a b:=nL B b0 b1;have cn:RZ l.prog w K a b:=nN B b2 b3;exact IQ B bJ ch i ck x cl cm cn z b4
def walk{l:PySem.W.OpenLaw}{q:Program}{loose:List Str}{XP:(Str->Option Value)->Heap->Prop}{YP:World->Heap->Prop}{d:DefRec}{K:Params->Ah}(i:l.most=some 63)(r:d.params.defaults=[])
 (j:∀(w:World)(h:Heap),YP w h->(K w.params).In h)
 (F:∀(w:World)(b:Str->Option Value)(e:Addr)(h:Heap),(K w.params).In h->h.Ns mainGlobals b->b d.name=some (.ref e) ->
  ∃g:FuncData,(∀(s:Shared)(u:Value),BindsTo s g ⟨[u],[]⟩ [("_law_script",u)])/\∀c:Heap,(K w.params).In c->c.Ns mainGlobals b->EF l.prog w (K w.params) b c I7 12 e g ["_law_script"] (Qc (K w.params))) :
 PySem.W.WalkO q loose XP YP l.row.toRowW d [] (λf vs=>PySem.call f vs):=
 L2.JG (n:=63) (k:=12) (x:= "_law_script") (CX:=λ_=>I7) (sp:=λw=>Qc (K w.params)) i (by decide) r ⟨rfl,by decide,by decide⟩ j F (λ_ _ a m o _ p=>⟨a,m,rfl,p,o,λ_=>rfl⟩) λ_ _ _ _ _ z=>z
end K45
open PySem PySem.W PyProof.Rows in
theorem PySem.Challenge.cw_namepaths_k45_rings_walked_holds : PySem.Challenge.rw_namepaths_k45_rings_walked.Holds :=
 K45.hd λK q YP d h1 h2 hY=>K45.walk (l:=PySem.Challenge.rw_namepaths_k45_rings_walked) rfl h1 hY λw mg fa h X G hm=>K45.all_mk X G (h2▸hm) (q w)
