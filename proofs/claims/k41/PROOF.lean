import PyProof.Rows.All
import Wide.All
import OpenK.AllK
import Wide.FinOn
import Lean
import PyProof.EqAt
import PyProof.EqKinds
import PyProof.TupleCall
import PySem.Challenge.RW_namepaths_k41_brought_in_by_turns
set_option Elab.async false
set_option linter.all false
set_option maxRecDepth 100000
set_option compiler.extract_closed false
set_option maxHeartbeats 1000000
noncomputable section
local macro_rules|`(def $n $s:optDeclSig $v:declVal)=>`(noncomputable def $n $s:optDeclSig $v:declVal)
abbrev Aj:=PySem.W.Frag
def Am:=@List.length_map
def AD:=@List.getElem?_eq_getElem
def A1:=@List.length_append
def Ba:=@List.map_append
def AV:=@List.getElem?_eq_some_iff
def B0:=@List.mem_append
def AQ:=@List.getElem?_map
def Bf:=@List.mem_of_getElem?
def AW:=@List.mem_map
def AR:=@List.mem_singleton
def Co:=@List.size_toArray
def Bg:=@List.mem_cons_self
def B1:=@List.mem_cons
def Db:=@List.mem_append_right
def D6:=@List.map_cons
def BQ:=@List.mem_cons_of_mem
def CU:=@List.getD_eq_getElem?_getD
def E8:=@List.take_succ
def EU:=@List.take_length
def D7:=@List.getElem?_append_left
def D8:=@List.length_singleton
def Ez:=@List.getElem_mem
def FQ:=@List.length_take
def DK:=@List.map_map
def EA:=@List.getElem?_append_right
def EB:=@List.take_zero
def Et:=@List.mem_append_left
def D9:=@List.length_cons
def F0:=@List.nodup_cons
def FR:=@List.length_set
def Gu:=@List.append_assoc
def HE:=@List.length_drop
def QW:=@List.mem_iff_getElem
def FA:=@List.append_nil
def NU:=@List.lookup_cons
def Ek:=@List.getElem?_eq_none
def JC:=@List.mem_filter
def NV:=@List.drop_eq_getElem_cons
def NW:=@List.filter_cons
def Hc:=@List.length_nil
def NY:=@List.map_nil
def SG:=@List.map_drop
def Jh:=@List.prefix_append
def Gv:=@List.any_eq_true
def NZ:=@List.find?_cons
def N0:=@List.filter_append
def OU:=@List.foldl_append
def QX:=@List.length_filter_le
def E4:=@Option.map_eq_some_iff
def AF:=@Nat.le_refl
def HF:=@Nat.lt_irrefl
def Cf:=@Nat.le_of_lt
def Cz:=@Nat.ne_of_lt
def OV:=@Nat.lt_succ_self
def Dp:=@Nat.zero_le
def JD:=@Int.emod_lt_of_pos
def HG:=@Int.emod_nonneg
def Ea:=@Int.eq_ofNat_of_zero_le
def Bn:=@Int.toNat_natCast
def Bs:=@decide_eq_true
def DL:=@decide_eq_false
def BG:=@of_decide_eq_true
def DM:=@PySem.F.plainAttrs_list
def E9:=@PySem.F.slot_list_append
def Fa:=@PySem.F.type_list_append
def CA:=@Bool.false_ne_true
def Bt:=@Option.some.inj
def Ah:=@if_neg
def Ag:=@if_pos
def F1:=@Nat.lt_of_lt_of_le
def FS:=@Nat.le_trans
def FC:=@Bool.false_eq_true
def Md:=@List.filterMap_cons
def Bw:=@congrArg
section
open PySem PySem.Spec PyProof.Rows
def u':=@List.getElem?_set_self
def u0:=@Nat.lt_trichotomy
def t9:=@List.any_eq_false
def t8:=@Around.under_plainId
def t7:=@Nat.lt_or_ge
def t6:=@Heap.SameBut.update
def t5:=@Heap.get?_update_self
def t4:=@List.ext_getElem?
def t0:=@List.getElem?_set_ne
def r9:=@Heap.size_push
def p':=@Array.getD_eq_getD_getElem?
def p9:=@Classical.byContradiction
def p8:=@List.getElem?_range
def p7:=@List.length_replicate
def p6:=@List.length_range
def p5:=@Or.inr
def p4:=@Or.inl
def Ad:=@wpAny_bind
def Ax:=@wpAny_pure
def FD:=@wpAny_holding
def Gw:=@wpAny_truthy_bool
def Bb:=@Heap.get?_push_of_some
def Bq:=@Heap.lt_size
def B9:=@Heap.get?_push_size
def CP:=@PassesOwn.never
def F2:=@PySem.W.mg_none_of
def Gx:=@PySem.mem_of_lookup
def N1:=@wpAny_typeOf
def F3:=@wpAny_mono
def Gy:=@wpAny_seqItems
def HH:=@wpAny_rule
end
noncomputable section
noncomputable def PySem.W.Fast.tw4835377523047893510:PySem.Program:=PySem.Challenge.pw_namepaths_k41_brought_in_by_turns
theorem PySem.W.Fast.te4835377523047893510:PySem.Challenge.pw_namepaths_k41_brought_in_by_turns=PySem.W.Fast.tw4835377523047893510:=rfl
namespace L2
open PySem PySem.Spec PyProof.Rows
noncomputable def Lj (s:Stmt):Arguments:=match s with
 |.FunctionDef _ a _ _ _ _ _ _ _ _=>a
 |_=>{posonlyargs:=[],args:=[],vararg:=none,kwonlyargs:=[],kw_defaults:=[],kwarg:=none,defaults:=[]}
noncomputable def Ji (s:Stmt):List Stmt:=match s with
 |.FunctionDef _ _ b _ _ _ _ _ _ _=>b
 |_=>[]
noncomputable def AY (s:Stmt):Scope:=match s with
 |.FunctionDef _ _ _ _ _ _ sc _ _ _=>sc
 |_=>{kind:=.function,names:=[],isGenerator:=false,isCoroutine:=false}
section
open PySem.W PySem.W.Fast
noncomputable def Hd (p:Program) (w:World) (N:Nat):Option Shared:=((tw10274390034422433532 tw14364793385576792824 (opening p) w N (PySem.start (opening p)).1 (PySem.start (opening p)).2).bind (tw14289696077712309145 p)).bind λs₀ =>
 match s₀.heap.isNs mainGlobals && s₀.gens.size==0 with
 |true=>(tw14082659384304107361 tw14364793385576792824 p w s₀.heap.objs.size (s₀.heap.nsMap mainGlobals "__annotations__") N s₀ (topStub p)).bind λs₁=>match staticsOk (tw5923862056798008813 p.main.body) s₀.heap s₁.heap && namesBound p s₁.heap && gensDone s₁ && laidKept s₀.heap s₁.heap with
   |true=>some s₁
   |false=>none
 |false=>none
def JE{p q:Program}{loose:List Str}{Xt:Shared->Bool}{α:Type}{Yf:Shared->α}{Ya:World->α}{N:Nat}
 (A:∀w:World,Option.map (λs=>tw4187177175401517315 q loose (tw5923862056798008813 p.main.body) Xt true s) (Hd p w N)=some (openGood q loose))
 (B:∀w:World,Option.map Yf (Hd p w N)=some (Ya w)):LeftO p q loose Xt Yf Ya N:=by
 intro w;have a:=A w;have b:=B w
 have h:Option.map (λs=>(tw4187177175401517315 q loose (tw5923862056798008813 p.main.body) Xt true s,Yf s)) (Hd p w N)=some (openGood q loose,Ya w):=by
  cases e:Hd p w N with|none=>rw[e] at a;cases a|some s=>rw[e] at a b;simp only[Option.map_some] at a b ⊢;rw[Bt a,Bt b]
 unfold Hd at h;rw[<-te14082659384304107361,<-te10274390034422433532,<-te14364793385576792824,<-te4187177175401517315,<-te5923862056798008813,<-te14289696077712309145] at h;exact h
end
end L2
namespace K41
open PySem PySem.Spec PyProof.Rows PySem.W L2
noncomputable def top (i:Nat):Stmt:=PySem.Challenge.pw_namepaths_k41_brought_in_by_turns.main.body.getD i (.Pass ⟨0,0,0,0⟩)
abbrev SH:Stmt:=top 52
abbrev SI:Stmt:=top 51
abbrev SJ:Stmt:=top 53
abbrev N2:Stmt:=top 54
abbrev N4:Stmt:=top 55
abbrev SK:Stmt:=top 57
abbrev SM:Stmt:=top 58
abbrev SN:Stmt:=top 11
abbrev SO:Stmt:=top 3
abbrev SQ:Stmt:=top 1
abbrev SS:Stmt:=top 2
abbrev SU:Stmt:=top 19
abbrev QY:Stmt:=top 18
abbrev SV:Stmt:=top 15
abbrev SW:Stmt:=top 12
abbrev SX:Stmt:=top 16
abbrev QZ:Stmt:=top 22
abbrev SY:Stmt:=top 23
abbrev S0:Stmt:=top 8
abbrev S1:Stmt:=top 24
abbrev Q0:Stmt:=top 21
abbrev S3:Stmt:=top 27
abbrev S4:Stmt:=top 29
abbrev S5:Stmt:=top 9
abbrev S6:Stmt:=top 30
abbrev S7:Stmt:=top 31
abbrev N5:Stmt:=top 28
abbrev S8:Stmt:=top 17
abbrev S9:Stmt:=top 26
abbrev Ta:Stmt:=top 37
abbrev Tb:Stmt:=top 36
abbrev Tc:Stmt:=top 34
abbrev Td:Stmt:=top 35
abbrev Tf:Stmt:=top 33
abbrev Tg:Stmt:=top 41
abbrev Q1:Stmt:=top 42
abbrev Ti:Stmt:=top 43
abbrev N6:Stmt:=top 40
abbrev Tj:Stmt:=top 39
abbrev OW:Stmt:=top 56
abbrev Tl:Stmt:=top 45
abbrev To:Stmt:=top 49
abbrev Q2:Stmt:=top 47
abbrev Q3:Stmt:=top 48
abbrev Q4:Stmt:=top 59
abbrev Hq:Stmt:=top 60
noncomputable def own:Stmt->Bool
 |.Assign [.Name x _] _ _=>x != "__name__"
 |_=>true
noncomputable def view:Program:={PySem.Challenge.pw_namepaths_k41_brought_in_by_turns with main:={PySem.Challenge.pw_namepaths_k41_brought_in_by_turns.main with body:=PySem.Challenge.pw_namepaths_k41_brought_in_by_turns.main.body.filter own}}
noncomputable abbrev Fx (K:Frag) (x:Str) (st:Stmt):Prop:=∃(f:Addr)(oc:Value)(od an:Option Addr)(osl:Array (Option Value))(kV doc pm cdv ct:Value),nsIn K mainGlobals x=some (some (.ref f))/\K.lookup f=some ⟨oc,od,.func (fnOf x x (Lj st) (Ji st) (AY st) .none kV doc pm an cdv ct),osl⟩/\codeIn K cdv x=true/\keepIn K (.ref f)=true
def Ay{K:Frag}{x:Str}{st:Stmt}{f:Addr}{d:Value}{e g:Option Addr}{i:Array (Option Value)}{kV j h b ct:Value}(a:nsIn K mainGlobals x=some (some (.ref f)))(l:K.lookup f=some ⟨d,e,.func (fnOf x x (Lj st) (Ji st) (AY st) .none kV j h g b ct),i⟩)(c:codeIn K b x=true)(k:keepIn K (.ref f)=true):Fx K x st:=⟨f,d,e,g,i,kV,j,h,b,ct,a,l,c,k⟩
def Tp{K:Frag}{x:Str}{v:Int}{t:Tok}(h:nsIn K mainGlobals x=some (some (.int v t))):∃t,nsIn K mainGlobals x=some (some (.int v t)):=⟨t,h⟩
structure Ll (K:Frag):Prop where
 q0:Fx K "_law_names" SH
 q1:Fx K "_law_cell_at" SI
 q2:Fx K "_law_number" SJ
 q3:Fx K "_law_parts" N2
 q4:Fx K "_law_made" N4
 q5:Fx K "_law_behind" SK
 q6:Fx K "_law_due" SM
 q7:Fx K "next_state" SN
 q8:Fx K "inside_of_sort" SO
 q9:Fx K "inside" SQ
 q10:Fx K "goal" SS
 q11:Fx K "steps_gone" SU
 q12:Fx K "longer_by_a_step" QY
 q13:Fx K "beginnings" SV
 q14:Fx K "has_end" SW
 q15:Fx K "found_behind" SX
 q16:Fx K "better_pairs" QZ
 q17:Fx K "tree_of" SY
 q18:Fx K "label_at" S0
 q19:Fx K "first_hider" S1
 q20:Fx K "seen_ways" Q0
 q21:Fx K "look_for" S3
 q22:Fx K "first_owed" S4
 q23:Fx K "telling_at" S5
 q24:Fx K "first_open" S6
 q25:Fx K "meaning" S7
 q26:Fx K "met" N5
 q27:Fx K "owed_behind" S8
 q28:Fx K "look_up" S9
 q29:Fx K "of_sort" Ta
 q30:Fx K "of_answer" Tb
 q31:Fx K "of_steps" Tc
 q32:Fx K "of_tellings" Td
 q33:Fx K "questions_of" Tf
 q34:Fx K "found_in_turn" Tg
 q35:Fx K "uses_one" Q1
 q36:Fx K "refuse_tangled" Ti
 q37:Fx K "settled" N6
 q38:Fx K "still" Tj
 q39:Fx K "_law_same" OW
 q40:Fx K "find" Tl
 q41:Fx K "waited_for" To
 q42:Fx K "waits" Q2
 q43:Fx K "ring_of" Q3
 q44:Fx K "_law_ring" Q4
 q45:Fx K "law" Hq
 z_all:nsIn K mainGlobals "all" = some none
 z_any:nsIn K mainGlobals "any" = some none
 z_bool:nsIn K mainGlobals "bool" = some none
 z_dict:nsIn K mainGlobals "dict" = some none
 z_enumerate:nsIn K mainGlobals "enumerate" = some none
 z_int:nsIn K mainGlobals "int" = some none
 z_isinstance:nsIn K mainGlobals "isinstance" = some none
 z_len:nsIn K mainGlobals "len" = some none
 z_list:nsIn K mainGlobals "list" = some none
 z_min:nsIn K mainGlobals "min" = some none
 z_range:nsIn K mainGlobals "range" = some none
 z_reversed:nsIn K mainGlobals "reversed" = some none
 z_set:nsIn K mainGlobals "set" = some none
 z_sorted:nsIn K mainGlobals "sorted" = some none
 z_str:nsIn K mainGlobals "str" = some none
 z_tuple:nsIn K mainGlobals "tuple" = some none
 z_zip:nsIn K mainGlobals "zip" = some none
 y_MOST_BEGINNINGS:∃t,nsIn K mainGlobals "MOST_BEGINNINGS" = some (some (.int 200 t))
theorem HI(w:World):Option.map (λs=>Fast.tw4187177175401517315 view [] (Fast.tw5923862056798008813 PySem.Challenge.pw_namepaths_k41_brought_in_by_turns.main.body) (λs=>xlAt view [] s && recOk [] s) true s) (Hd PySem.Challenge.pw_namepaths_k41_brought_in_by_turns w 40000)=some (openGood view []):=by kernel_rfl
end K41
abbrev A' := List (PySem.Str × PySem.Str)
abbrev B' := List (PySem.Addr × PySem.Obj)
abbrev C' := Option (PySem.Str × Int)
abbrev D' := PySem.Value → PySem.Shared → Prop
abbrev E' := List (Option Int)
local macro_rules | `(tactic| lia) => `(tactic| first|with_reducible assumption|with_reducible solve_by_elim (maxDepth:=3) only [Nat.le_of_lt,Nat.lt_of_add_right_lt,Nat.lt_succ_of_le,Nat.le_of_lt_succ,Nat.not_lt_of_le,Nat.ne_of_lt,Nat.ne_of_gt,Nat.le_of_eq, *]|with_reducible solve_by_elim (maxDepth:=4) only [lt_of_lt_of_eq,le_of_eq_of_le,lt_of_eq_of_lt,Nat.lt_of_lt_of_le,Nat.lt_of_le_of_lt,Nat.le_trans, *]|omega)
local macro_rules | `(tactic| cbv) => `(tactic| try dsimp only)
abbrev f':PySem.Str:="thing"
abbrev j':PySem.Str:="to"
abbrev k':PySem.Str:=""
abbrev n5:PySem.Str:="open"
abbrev n7:PySem.Str:="by"
abbrev n8:PySem.Str:="better"
abbrev o1:PySem.Str:="step"
abbrev o2:PySem.Str:="worse"
abbrev o4:PySem.Str:="no"
abbrev o5:PySem.Str:="part"
abbrev o6:PySem.Str:="told"
abbrev o7:PySem.Str:="alike"
abbrev o8:PySem.Str:="sort"
abbrev o9:PySem.Str:="__debug__"
abbrev p0:PySem.Str:="none"
abbrev p2:PySem.Str:="torn"
abbrev p3:PySem.Str:="abcdefghijklmnopqrstuvwxyz"
abbrev F':=List Int
abbrev G':=List PySem.Value
abbrev I':=List PySem.Addr
abbrev J':=List PySem.Str
abbrev K':=List (PySem.Str × Int)
abbrev L':=Option PySem.Value
abbrev M':=Option Int
abbrev O':=Array PySem.Value
abbrev P':=List PySem.Expr
abbrev R':=List Nat
abbrev S':=Array Nat
set_option tactic.hygienic false
section
open PySem PySem.W PyProof.Rows
local macro_rules | `(tactic| o_head $H:term) => `(tactic| refine holds_open (q := K41.view) (loose := []) (Xt := fun s => xlAt K41.view [] s && recOk [] s) (XP := XL K41.view []) (Yf := Hook.obs $H) (Ya := Hook.val $H) (YP := Hook.says $H) (N := 40000) ?hl (Hook.of $H) (Hook.keeps $H) (fun s e => xl_of s (Bool.and_eq_true_iff.mp e).1) XL.keeps (by rfl) (by rfl) (by rfl) (fun s e => recFacts_of (Bool.and_eq_true_iff.mp e).2) (by rfl) (by first | assumption | decide +kernel) (by decide +kernel) ⟨rfl, rfl, rfl, rfl, rfl, by decide +kernel⟩ ?hw ?hc)
set_option maxHeartbeats 0 in
theorem K41.hd(a:∀K:Params->Frag,(∀w:World,K41.Ll (K w.params))->∀(YP:World->Heap->Prop)(d:DefRec),d.params.defaults=[]->d.name = "law" -> (∀(w:World)(h:Heap),YP w h->(K w.params).In h)->WalkO K41.view [] (XL K41.view []) YP PySem.Challenge.rw_namepaths_k41_brought_in_by_turns.row.toRowW d [] (λf vs=>PySem.call f vs)):PySem.Challenge.rw_namepaths_k41_brought_in_by_turns.Holds:=by
 w_on;o_law;k_head
 case hl =>
  refine L2.JE K41.HI λw=>?_
  kernel_rfl
 case hw=>w_witness2
 k_fill
 refine a _ (λw=>?fx) _ _ rfl rfl (λw h Y=>PySem.W.kIn_of Y)
 case fx =>
  refine' ⟨K41.Ay ?a0 ?l0 ?c0 ?k0,K41.Ay ?a1 ?l1 ?c1 ?k1,K41.Ay ?a2 ?l2 ?c2 ?k2,K41.Ay ?a3 ?l3 ?c3 ?k3,K41.Ay ?a4 ?l4 ?c4 ?k4,K41.Ay ?a5 ?l5 ?c5 ?k5,K41.Ay ?a6 ?l6 ?c6 ?k6,K41.Ay ?a7 ?l7 ?c7 ?k7,K41.Ay ?a8 ?l8 ?c8 ?k8,K41.Ay ?a9 ?l9 ?c9 ?k9,K41.Ay ?a10 ?l10 ?c10 ?k10,K41.Ay ?a11 ?l11 ?c11 ?k11,K41.Ay ?a12 ?l12 ?c12 ?k12,K41.Ay ?a13 ?l13 ?c13 ?k13,K41.Ay ?a14 ?l14 ?c14 ?k14,K41.Ay ?a15 ?l15 ?c15 ?k15,K41.Ay ?a16 ?l16 ?c16 ?k16,K41.Ay ?a17 ?l17 ?c17 ?k17,K41.Ay ?a18 ?l18 ?c18 ?k18,K41.Ay ?a19 ?l19 ?c19 ?k19,K41.Ay ?a20 ?l20 ?c20 ?k20,K41.Ay ?a21 ?l21 ?c21 ?k21,K41.Ay ?a22 ?l22 ?c22 ?k22,K41.Ay ?a23 ?l23 ?c23 ?k23,K41.Ay ?a24 ?l24 ?c24 ?k24,K41.Ay ?a25 ?l25 ?c25 ?k25,K41.Ay ?a26 ?l26 ?c26 ?k26,K41.Ay ?a27 ?l27 ?c27 ?k27,K41.Ay ?a28 ?l28 ?c28 ?k28,K41.Ay ?a29 ?l29 ?c29 ?k29,K41.Ay ?a30 ?l30 ?c30 ?k30,K41.Ay ?a31 ?l31 ?c31 ?k31,K41.Ay ?a32 ?l32 ?c32 ?k32,K41.Ay ?a33 ?l33 ?c33 ?k33,K41.Ay ?a34 ?l34 ?c34 ?k34,K41.Ay ?a35 ?l35 ?c35 ?k35,K41.Ay ?a36 ?l36 ?c36 ?k36,K41.Ay ?a37 ?l37 ?c37 ?k37,K41.Ay ?a38 ?l38 ?c38 ?k38,K41.Ay ?a39 ?l39 ?c39 ?k39,K41.Ay ?a40 ?l40 ?c40 ?k40,K41.Ay ?a41 ?l41 ?c41 ?k41,K41.Ay ?a42 ?l42 ?c42 ?k42,K41.Ay ?a43 ?l43 ?c43 ?k43,K41.Ay ?a44 ?l44 ?c44 ?k44,K41.Ay ?a45 ?l45 ?c45 ?k45,?z_all,?z_any,?z_bool,?z_dict,?z_enumerate,?z_int,?z_isinstance,?z_len,?z_list,?z_min,?z_range,?z_reversed,?z_set,?z_sorted,?z_str,?z_tuple,?z_zip,K41.Tp ?y_MOST_BEGINNINGS⟩
  case a0|l0|c0|k0|a1|l1|c1|k1|a2|l2|c2|k2|a3|l3|c3|k3|a4|l4|c4|k4|a5|l5|c5|k5|a6|l6|c6|k6|a7|l7|c7|k7|a8|l8|c8|k8|a9|l9|c9|k9|a10|l10|c10|k10|a11|l11|c11|k11|a12|l12|c12|k12|a13|l13|c13|k13|a14|l14|c14|k14|a15|l15|c15|k15|a16|l16|c16|k16|a17|l17|c17|k17|a18|l18|c18|k18|a19|l19|c19|k19|a20|l20|c20|k20|a21|l21|c21|k21|a22|l22|c22|k22|a23|l23|c23|k23|a24|l24|c24|k24|a25|l25|c25|k25|a26|l26|c26|k26|a27|l27|c27|k27|a28|l28|c28|k28|a29|l29|c29|k29|a30|l30|c30|k30|a31|l31|c31|k31|a32|l32|c32|k32|a33|l33|c33|k33|a34|l34|c34|k34|a35|l35|c35|k35|a36|l36|c36|k36|a37|l37|c37|k37|a38|l38|c38|k38|a39|l39|c39|k39|a40|l40|c40|k40|a41|l41|c41|k41|a42|l42|c42|k42|a43|l43|c43|k43|a44|l44|c44|k44|a45|l45|c45|k45|z_all|z_any|z_bool|z_dict|z_enumerate|z_int|z_isinstance|z_len|z_list|z_min|z_range|z_reversed|z_set|z_sorted|z_str|z_tuple|z_zip|y_MOST_BEGINNINGS=>k_is
end
set_option Elab.async false
set_option linter.all false
set_option maxRecDepth 100000
namespace L2
open PySem PySem.Spec PyProof.Rows
abbrev AJ:=Sum Int Str
def N7:AJ->Value->Bool
 |.inl k,v=>Value.isInt k v
 |.inr x,v=>Value.isStrOf x v
def Tq (w:World):AJ->Int
 |.inl k=>hashInt k
 |.inr x=>hashStr w x
theorem JF:∀{k:AJ}{v:Value},N7 k v=true->(∃i t,k=Sum.inl i/\v=Value.int i t)\/(∃x t,k=Sum.inr x/\v=Value.str x t)
 |.inl i,v,h=>by obtain⟨t,e⟩:=Value.isInt_shape (k:=i) (v:=v) h;exact .inl ⟨i,t,rfl,e⟩
 |.inr x,v,h=>by obtain⟨t,e⟩:=Value.isStrOf_shape (x:=x) (v:=v) h;exact .inr ⟨x,t,rfl,e⟩
def ZI(i:Int)(t:Tok):N7 (.inl i) (.int i t)=true:=by simp[N7,Value.isInt]
def ZJ(x:Str)(t:Tok):N7 (.inr x) (.str x t)=true:=by simp[N7,Value.isStrOf]
def Me(a b:Int):decide ((Sum.inl a:AJ)=Sum.inl b)=(a==b):=by by_cases e:a=b;subst e;simp;have h:¬(Sum.inl a:AJ)=Sum.inl b:=λq=>e (Sum.inl.inj q);rw[DL h];exact(beq_eq_false_iff_ne.mpr e).symm
def Mf(a b:Str):decide ((Sum.inr a:AJ)=Sum.inr b)=decide (a=b):=by by_cases e:a=b;subst e;simp;have h:¬(Sum.inr a:AJ)=Sum.inr b:=λq=>e (Sum.inr.inj q);rw[DL h,DL e]
def Mg(a:Int)(b:Str):decide ((Sum.inl a:AJ)=Sum.inr b)=false:=DL (λq=>nomatch q)
def Mh(a:Str)(b:Int):decide ((Sum.inr a:AJ)=Sum.inl b)=false:=DL (λq=>nomatch q)
def EC (prog:Program) (w:World):PySem.KeyKind prog w AJ where
 is:=N7
 hash:=Tq w
 inj:=λv a b ha hb=>by rcases JF ha with⟨i,t,rfl,rfl⟩|⟨x,t,rfl,rfl⟩;rcases JF hb with⟨j,u,rfl,e⟩|⟨y,u,rfl,e⟩;injection e with e1 _;rw[e1];exact nomatch e;rcases JF hb with⟨j,u,rfl,e⟩|⟨y,u,rfl,e⟩;exact nomatch e;injection e with e1 _;rw[e1]
 byValue:=λk v h=>by rcases JF h with⟨i,t,rfl,rfl⟩|⟨x,t,rfl,rfl⟩<;>rfl
 pyHash:=λhv h=>by rcases JF hv with⟨i,t,rfl,rfl⟩|⟨x,t,rfl,rfl⟩;exact wpAny_pyHash_int h;exact wpAny_pyHash_str h
 eqBool:=λhu hv h=>by rcases JF hu with⟨i,t,rfl,rfl⟩|⟨x,t,rfl,rfl⟩;rcases JF hv with⟨j,u,rfl,rfl⟩|⟨y,u,rfl,rfl⟩;rw[Me] at h;exact wpAny_eqBool_int h;rw[Mg] at h;exact SeqAt.EqAt.int_str i t y u _ _ _ _ h;rcases JF hv with⟨j,u,rfl,rfl⟩|⟨y,u,rfl,rfl⟩;rw[Mh] at h;exact SeqAt.EqAt.str_int x t j u _ _ _ _ h;rw[Mf] at h;exact wpAny_eqBool_str h
 «strs»:=λk x t v h=>by rcases JF h with⟨i,u,rfl,e⟩|⟨y,u,rfl,e⟩;exact nomatch e;injection e with e1 _;subst e1;cases v<;>rfl
def ZK(prog:Program)(w:World)(i:Int)(t:Tok):(EC prog w).is (.inl i) (.int i t)=true:=ZI i t
def ZL(prog:Program)(w:World)(x:Str)(t:Tok):(EC prog w).is (.inr x) (.str x t)=true:=ZJ x t
inductive V where
 |non|bl (b:Bool)|int (i:Int)|str (x:Str)|byt (b:Array UInt8)|flt (b:UInt64)|ref (a:Addr)|ty (n:String)
 deriving DecidableEq
abbrev Θ:=List (AJ×V)
abbrev V':=Option V
abbrev U':=List V
def RelV:V->Value->Prop
 |.non,u=>u=Value.none
 |.bl b,u=>u=Value.bool b
 |.int i,u=>∃t,u=Value.int i t
 |.str x,u=>∃t,u=Value.str x t
 |.byt b,u=>∃t,u=Value.bytes b t
 |.flt b,u=>∃t,u=Value.float b t
 |.ref a,u=>u=Value.ref a
 |.ty n,u=>u=Value.type n
abbrev Av:U'->G'->Prop:=Paired RelV
def Av.length{xs:U'}{us:G'}(r:Av xs us):xs.length=us.length:=Paired.length r
theorem Av.get:∀{xs:U'}{us:G'}{i:Nat}{x:V},Av xs us->xs[i]?=some x->∃u,us[i]?=some u/\RelV x u
 |_,_,_,_,.nil,e=>by simp at e
 |_,_,0,_,.cons r _,e=>by simp at e;subst e;exact⟨_,rfl,r⟩
 |_,_,i+1,x,.cons _ t,e=>by obtain⟨u,a,b⟩:=Av.get (i:=i) (x:=x) t (by simpa using e);exact⟨u,by simpa using a,b⟩
theorem Av.set{x:V}{u:Value}(r:RelV x u):∀{xs:U'}{us:G'}(i:Nat),Av xs us->Av (xs.set i x) (us.set i u)
 |_,_,_,.nil=>.nil
 |_,_,0,.cons _ t=>.cons r t
 |_,_,i+1,.cons q t=>.cons q (Av.set r i t)
theorem Av.append:∀{xs ys:U'}{us ws:G'},Av xs us->Av ys ws->Av (xs++ys) (us++ws)
 |_,_,_,_,.nil,s=>s
 |_,_,_,_,.cons r t,s=>.cons r (Av.append t s)
theorem Av.take:∀{xs:U'}{us:G'}(n:Nat),Av xs us->Av (xs.take n) (us.take n)
 |_,_,0,_=>.nil
 |_,_,_+1,.nil=>.nil
 |_,_,n+1,.cons r t=>.cons r (Av.take n t)
theorem Av.drop:∀{xs:U'}{us:G'}(n:Nat),Av xs us->Av (xs.drop n) (us.drop n)
 |_,_,0,r=>r
 |_,_,_+1,.nil=>.nil
 |_,_,n+1,.cons _ t=>Av.drop n t
def El:V'->L'->Prop
 |some v,some u=>RelV v u
 |none,none=>True
 |_,_=>False
def KV {κ:Type}:List (κ×V)->List (κ×Value)->Prop:=Paired λ(p:κ×V)(q:κ×Value)=>p.1=q.1/\RelV p.2 q.2
def kV:AJ->V
 |.inl i=>.int i
 |.inr x=>.str x
inductive HO where
 |lst (xs:U')
 |tup (xs:U')
 |dK (kvs:Θ)|dT (kvs:List (List AJ×V))
 |set (S:Int->Bool) (n:Nat)
 |ins (C dx:Addr) (fs:List (Str×V))
 |own (x:Addr)
 |xd (fs:List (Str×V))
 |met (f x:Addr)
 |rng (lo hi:Int)
 |frz (o:Obj) (u:HO)
 |tbl (ps:O')
 |ext (φ:Heap->Prop)
abbrev Hp:=Addr->Option HO
def upd (H:Hp) (a:Addr) (o:HO):Hp:=λb=>if b=a then some o else H b
variable {H:Hp}{a:Addr}{o:HO}
def Aa:upd H a o a=some o:=by unfold upd;rw[Ag rfl]
variable {b:Addr}
def AC(h:b≠a):upd H a o b=H b:=by unfold upd;rw[Ah h]
variable {u:HO}
def Wv:upd (upd H a o) a u=upd H a u:=by
 funext b;unfold upd;split<;>rfl
def N8(h:H a=some o)(h':H b=some u)(d:o≠u):a≠b:=by intro e;subst e;rw[h] at h';exact d (Bt h')
def A3(h:H a=some o)(h':H b=none):a≠b:=by intro e;subst e;rw[h] at h';cases h'
section
variable (P:Program) (w:World)
def AB (H:Hp) (h:Heap) (a:Addr):HO->Prop
 |.lst xs=>xs.length<=sizeLine/\∃(its:G')(n:Nat),Av xs its/\h.get? a=some {cls:=.type "list",data:=.seq its.toArray n}
 |.tup xs=>xs.length<=sizeLine/\∃its:G',Av xs its/\IsTup h a its.toArray
 |.dK kvs=>kvs.length<=sizeLine/\(a==sysModules)=false/\∃vs,KV kvs vs/\h.DictOf (EC P w) a vs
 |.dT kvs=>kvs.length<=sizeLine/\(a==sysModules)=false/\∃xs:List (List AJ×Addr×Value),
  Paired (λ(p:List AJ×V)(q:List AJ×Addr×Value)=>p.1=q.1/\H q.2.1=some (.tup (p.1.map kV))/\RelV p.2 q.2.2) kvs xs /\
  ∃o es ep,h.get? a=some o/\o.ExactDict/\o.data=.dict es ep/\es.toList=xs.map (entryOfKey (tupleKind (EC P w)))/\(xs.map (·.1)).Nodup
 |.set S n=>h.SetOf (intKind P w) a S n
 |.ins C dx fs=>H dx=some (.own a)/\fs.length<=1000/\dx≠a/\h.get? a=some (PySem.W.instObj C dx) /\
  ∃mA,h.Ns1 dx mA/\(∀f,El (fs.lookup f) (mA f))/\PySem.Within mA (fs.map (·.1))
 |.own _=>∃o,h.get? a=some o
 |.xd fs=>∃mA,h.Ns1 a mA/\∀f,El (fs.lookup f) (mA f)
 |.rng lo hi=>∃t u v,h.get? a=some {cls:=.type "range",data:=.fields #[.int lo t,.int hi u,.int 1 v]}
 |.frz o u=>h.get? a=some o/\AB H h a u
 |.tbl ps=>h.get? a=some {cls:=.none,data:=.fields ps}
 |.met f x=>h.get? a=some (PySem.W.methodObj (.ref f) (.ref x))
 |.ext φ=>φ h/\(∃o,h.get? a=some o)/\∀h1 h2:Heap,φ h1->(∀o,h1.get? a=some o->h2.get? a=some o)->φ h2
def CY (H:Hp) (h:Heap):Prop:=∀a o,H a=some o->AB P w H h a o
end
section
variable {P:Program} {w:World} {H H':Hp} {h h':Heap} {a:Addr} {o:HO}
def AB.lt(x:AB P w H h a o):a<h.objs.size:=by
 cases o with|lst b=>obtain⟨_,_,_,_,e⟩:=x;exact Bq e|tup b=>obtain⟨_,_,_,p⟩:=x;exact p.lt|dK c=>obtain⟨_,_,_,_,o,_,_,e,_⟩:=x;exact Bq e|dT c=>obtain⟨_,_,_,_,o,_,_,e,_⟩:=x;exact Bq e|set S n=>obtain⟨o,_,_,_,e,_⟩:=x;exact Bq e|ins C d fs=>obtain⟨_,_,_,e,_⟩:=x;exact Bq e|own y=>obtain⟨_,e⟩:=x;exact Bq e|xd fs=>obtain⟨_,⟨_,_,_,e,_⟩,_⟩:=x;exact Bq e|rng lo g=>obtain⟨_,_,_,e⟩:=x;exact Bq e|frz i u=>obtain⟨e,_⟩:=x;exact Bq e|tbl j=>exact Bq (show h.get? a=some _ from x)|met f y=>exact Bq (show h.get? a=some _ from x)|ext φ=>obtain⟨_,⟨_,e⟩,_⟩:=x;exact Bq e
theorem Paired.mapP{α β:Type}{F G:α->β->Prop}:∀{c:List α}{l₂:List β},Paired F c l₂->(∀a b,F a b->G a b)->Paired G c l₂
 |_,_,.nil,_=>.nil
 |_,_,.cons r t,f=>.cons (f _ _ r) (Paired.mapP t f)
def AB.stay(x:AB P w H h a o)(k:∀b u,(b=a\/H b=some (.own a))->h.get? b=some u->h'.get? b=some u)
 (B:∀b,H b=some (.own a)->H' b=some (.own a)) (D:∀b xs,H b=some (.tup xs)->H' b=some (.tup xs)):AB P w H' h' a o:=by
 induction o with|lst xs=>obtain⟨z,m,n,r,e⟩:=x;exact⟨z,m,n,r,k _ _ (.inl rfl) e⟩|tup xs=>obtain⟨z,m,r,g,e,c⟩:=x;exact⟨z,m,r,g,k _ _ (.inl rfl) e,c⟩|dK I=>obtain⟨z,y,E,r,g,i,j,e,c⟩:=x;exact⟨z,y,E,r,g,i,j,k _ _ (.inl rfl) e,c⟩|dT I=>obtain⟨z,y,xs,r,g,i,j,e,c⟩:=x;exact⟨z,y,xs,Paired.mapP r λp q z=>⟨z.1,D _ _ z.2.1,z.2.2⟩,g,i,j,k _ _ (.inl rfl) e,c⟩|set S n=>obtain⟨g,i,j,t,e,c⟩:=x;exact⟨g,i,j,t,k _ _ (.inl rfl) e,c⟩|ins C J fs=>obtain⟨d,z,ne,e,mA,⟨l,i,j,F,c⟩,r⟩:=x;exact⟨B _ d,z,ne,k _ _ (.inl rfl) e,mA,⟨l,i,j,k _ _ (.inr d) F,c⟩,r⟩|own y=>obtain⟨g,e⟩:=x;exact⟨g,k _ _ (.inl rfl) e⟩|xd fs=>obtain⟨mA,⟨l,i,j,e,c⟩,r⟩:=x;exact⟨mA,⟨l,i,j,k _ _ (.inl rfl) e,c⟩,r⟩|rng lo K=>obtain⟨t,u,v,e⟩:=x;exact⟨t,u,v,k _ _ (.inl rfl) e⟩|frz g u G=>obtain⟨e,q⟩:=x;exact⟨k _ _ (.inl rfl) e,G q⟩|tbl s=>have e:h.get? a=some {cls:=.none,data:=.fields s}:=x;show h'.get? a=some {cls:=.none,data:=.fields s};exact k a _ (.inl rfl) e|met f y=>have e:h.get? a=some (PySem.W.methodObj (.ref f) (.ref y)):=x;show h'.get? a=some (PySem.W.methodObj (.ref f) (.ref y));exact k a _ (.inl rfl) e|ext φ=>obtain⟨p,⟨o,e⟩,A⟩:=x;exact⟨A _ _ p λo q=>k _ _ (.inl rfl) q,⟨o,k _ _ (.inl rfl) e⟩,A⟩
def CY.lt(x:CY P w H h)(e:H a=some o):a<h.objs.size:=(x a o e).lt
def CY.fresh(x:CY P w H h)(e:h.objs.size<=a):H a=none:=by
 cases q:H a with|none=>rfl|some u=>exact absurd (F1 (x.lt q) e) (HF _)
def CY.kept(x:CY P w H h)(k:∀b u,h.get? b=some u->h'.get? b=some u):CY P w H h':=λa o e =>
 (x a o e).stay (λb u ζ q=>k b u q) (λζ q=>q) λζ ζ q=>q
def CY.laid(x:CY P w H h)(k:∀b u,h.get? b=some u->h'.get? b=some u)(g:h.objs.size<=a)(i:AB P w (upd H a o) h' a o):CY P w (upd H a o) h':=λb u e=>by have d:=x.fresh g;by_cases f:b=a;subst f;rw[Aa] at e;cases e;exact i;rw[AC f] at e;exact(x b u e).stay (λc v ζ q=>k c v q) (λc q=>by rw[AC (A3 q d)];exact q) λc j q=>by rw[AC (A3 q d)];exact q
end
def Rd (H:Hp) (a:Addr) (u:HO):Prop:=H a=some u\/∃o,H a=some (.frz o u)
variable {P:Program}{w:World}{h:Heap}
def Rd.ok(r:Rd H a u)(x:CY P w H h):AB P w H h a u:=by rcases r with r|⟨o,r⟩;exact x a u r;obtain⟨_,q⟩:=x a _ r;exact q
def OX:Option HO->Prop
 |some (.lst _)=>True
 |some (.dK _)=>True
 |some (.dT _)=>True
 |some (.set _ _)=>True
 |some (.ins _ _ _)=>True
 |some (.ext _)=>True
 |_=>False
section
variable {P:Program} {w:World} {H:Hp} {h h':Heap} {x e:Addr} {o':HO}
def CY.write(ok:CY P w H h)(a:OX (H x))(j:e=x\/H e=some (.own x))(k:∀b u,b≠e->h.get? b=some u->h'.get? b=some u)(o:∃u,h'.get? e=some u)
 (p:AB P w (upd H x o') h' x o'):CY P w (upd H x o') h':=λb u q=>by
 have m:∀c y,H c=some (.own y)->c≠x:=λc y r z=>by subst z;rw[r] at a;exact a
 have s:∀c d,H c=some (.tup d)->c≠x:=λc d r z=>by subst z;rw[r] at a;exact a
 by_cases f:b=x;subst f;rw[Aa] at q;cases q;exact p;rw[AC f] at q;by_cases i:b=e;have l:H b=some (.own x):=(by rcases j with z|z;exact absurd (i.trans z) f;rw[i];exact z);rw[q] at l;cases l;obtain⟨v,n⟩:=o;exact⟨v,by rw[i];exact n⟩;refine(ok b u q).stay (λc v g r=>k c v ?_ r) (λc r=>by rw[AC (m c b r)];exact r) λc d r=>by rw[AC (s c d r)];exact r
 rcases g with rfl|g;exact i;rintro rfl;rcases j with z|z;exact m c b g z;rw[g] at z;cases z;exact f rfl
end
structure Un (fs ex:I') (H H':Hp) (h h':Heap):Prop where
 keep:∀b o,h.get? b=some o->H b=none->b∉fs->b∉ex->h'.get? b=some o
 slot:∀b o,h.get? b=some o->H b=none->b∈fs->b∉ex->∃sl,h'.get? b=some {o with slots:=sl}
 free:∀b o,h.get? b=some o->H b=none->b∉ex->H' b=none
 there:∀b o,h.get? b=some o->b∉ex->∃o',h'.get? b=some o'
 tups:∀b xs,H b=some (.tup xs)->H' b=some (.tup xs)
 frzs:∀b o u,H b=some (.frz o u)->H' b=some (.frz o u)
 tbls:∀b ps,H b=some (.tbl ps)->∃more,H' b=some (.tbl (ps++more))
section
variable {fs fs' ex ex':I'} {H Y H2:Hp} {h h1 h2 h':Heap} {a x e:Addr} {o:HO}
def Un.any(u:Un fs ex H Y h h1){ob:Obj}(q:h.get? b=some ob)(n:H b=none)(a:b∉ex):∃d,h1.get? b=some {ob with slots:=d}:=by by_cases c:b∈fs;exact u.slot b ob q n c a;exact⟨ob.slots,u.keep b ob q n c a⟩
def Un.kept(k:∀b u,h.get? b=some u->h'.get? b=some u):Un fs ex H H h h':=
 ⟨λb a q ζ ζ ζ=>k b a q,λb a q ζ ζ ζ=>⟨a.slots,k b a q⟩,λζ ζ ζ n ζ=>n,λb a q ζ=>⟨a,k b a q⟩,λζ ζ q=>q,λζ ζ ζ q=>q,λζ c q=>⟨#[],by rw[q];simp⟩⟩
def Un.refl:Un fs ex H H h h:=Un.kept λζ ζ q=>q
def Un.laid(k:∀b u,h.get? b=some u->h'.get? b=some u)(d:h.objs.size<=a)(c:H a=none):Un fs ex H (upd H a o) h h' where
 keep:=λb u q ζ ζ ζ=>k b u q
 slot:=λb u q ζ ζ ζ=>⟨u.slots,k b u q⟩
 free:=λb u q n ζ=>by rw[AC (Cz (F1 (Bq q) d))];exact n
 there:=λb u q ζ=>⟨u,k b u q⟩
 tups:=λb e q=>by rw[AC (A3 q c)];exact q
 frzs:=λb u e q=>by rw[AC (A3 q c)];exact q
 tbls:=λb f q=>⟨#[],by rw[AC (A3 q c),q];simp⟩
def Un.write(a:OX (H x))(i:e=x\/H e=some (.own x))(k:∀b u,b≠e->h.get? b=some u->h'.get? b=some u)(m:∃u,h'.get? e=some u):Un fs ex H (upd H x o) h h':=by
 have d:∀b,H b=none->b≠x:=λb n z=>by subst z;rw[n] at a;exact a
 have f:∀b,H b=none->b≠e:=λb n z=>by
  subst z;rcases i with r|r;exact d b n r;rw[n] at r;cases r
 have c:∀b u,H b=some u->¬OX (some u)->b≠x:=λb u q j z=>by subst z;rw[q] at a;exact j a
 refine⟨λb u q n ζ ζ=>k b u (f b n) q,λb u q n ζ ζ=>⟨u.slots,k b u (f b n) q⟩,λb u q n ζ=>by rw[AC (d b n)];exact n,λb u q ζ=>?_,
  λb l q=>by rw[AC (c b _ q λz=>z)];exact q,λb u l q=>by rw[AC (c b _ q λz=>z)];exact q,λb p q=>⟨#[],by rw[AC (c b _ q λz=>z),q];simp⟩⟩
 by_cases g:b=e;subst g;exact m;exact⟨u,k b u g q⟩
end
def Q5 (h:Heap) (H:Hp):I':=(List.range h.objs.size).filter λa=>(H a).isSome
def FE (h:Heap) (H:Hp):Heap:=PySem.W.hideAll h (Q5 h H)
def ZM(h:Heap)(H:Hp):(FE h H).objs.size=h.objs.size:=PySem.W.hideAll_size _ _
def ZN{o:Obj}(e:h.get? b=some o)(n:H b=none):(FE h H).get? b=some o:=
 PySem.W.hideAll_get _ e λa=>by have q:(H b).isSome=true:=(JC.mp a).2;rw[n] at q;simp at q
def JG{o:Obj}(e:(FE h H).get? b=some o):h.get? b=some o/\H b=none:=by
 have a:h.get? b=some o:=PySem.W.of_hideAll (Q5 h H) e;refine⟨a,?_⟩;cases q:H b with|none=>rfl|some x=>have c:b∈Q5 h H:=JC.mpr ⟨List.mem_range.mpr (Bq a),by simp[q]⟩;have z:(FE h H).get? b=none:=PySem.W.hideAll_none (Q5 h H) c;rw[z] at e;cases e
structure Mod (K:Aj) (mg:Str->L') (base:Heap):Prop where
 kin:K.In base
 glob:base.Ns mainGlobals mg
 blt:∃mb,base.Ns builtinsNs mb/\∀x:Str,x ≠ "__name__" -> mb x=bootBuiltins x
 nolimit:base.NoLimit
structure Cx where
 prog:Program
 w:World
 K:Aj
 mg:Str->L'
 base:Heap
 A:Around
 N:J'
 s₀:Shared
 H₀:Hp
 env:Env
 outer:List Env
 stack:List Env
 ex:I'
 fn:Str->Bool
 calm:Bool
 pn:B'
 xe:Value->Shared->Prop
def Fb (l:List Env):I':=l.filterMap (·.frame)
abbrev Cx.fs (X:Cx):I':=Fb X.outer
def Q6 (sc:Scope) (x:Str):Prop:=sc.names.lookup x=some .local\/sc.names.lookup x=some .cell\/sc.names.lookup x=some .free
def Loc (sc:Scope) (x:Str):Prop:=sc.names.lookup x=some .local\/sc.names.lookup x=some .cell
def Look (env:Env) (h:Heap) (m:Str->L') (x:Str) (u:Value):Prop:=
 (env.kindOf x=some .local/\m x=some u)\/((env.kindOf x=some .cell\/env.kindOf x=some .free)/\∃c,env.cells.lookup x=some c/\h.IsCell c (some u))
structure Cx.Ok (X:Cx):Prop where
 mod:Mod X.K X.mg X.base
 kind:X.env.scope.kind=.function
 glob:X.env.globals=mainGlobals
 blt:X.env.builtins=builtinsNs
 above:X.s₀.heap.objs.size<=X.env.locals
 inj:∀x y c,X.env.cells.lookup x=some c->X.env.cells.lookup y=some c->x=y
 has:∀x,(X.env.kindOf x=some .cell\/X.env.kindOf x=some .free)->∃c,X.env.cells.lookup x=some c
 cab:∀x c,X.fn x=true->X.env.cells.lookup x=some c->X.s₀.heap.objs.size<=c
 hd:X.calm=true->X.A.handled=none
 frames:X.A.frames=some X.stack
 stk:X.stack=X.outer\/(X.stack=X.env::X.outer/\X.env.frame=some X.env.locals)
 exf:∀b∈X.ex,b≠X.env.locals/\∀x c,X.env.cells.lookup x=some c->c≠b
 bs:∀b o,X.base.get? b=some o->X.s₀.heap.get? b=some o/\X.H₀ b=none
 bsz:X.base.objs.size<=X.s₀.heap.objs.size
 noex:∀b o,X.base.get? b=some o->b∉X.ex
 exfs:∀b∈X.ex,b∉X.fs
 funs:X.s₀.heap.FunFrames X.base X.outer
 frf:∀b∈X.fs,X.H₀ b=none
structure Inv (X:Cx) (pins:B') (σ:List (V')) (H:Hp) (s:Shared):Prop where
 ok:X.Ok
 os:s.os=X.s₀.os
 bare:AllBare s.gens
 base:Un X.fs X.ex X.H₀ H X.s₀.heap s.heap
 loc:∃m,s.heap.Ns X.env.locals m/\∀(i:Nat)(x:Str)(v:V),X.N[i]?=some x->σ[i]?=some (some v)->Q6 X.env.scope x->∃u,RelV v u/\Look X.env s.heap m x u
 cell:∀x c,X.env.cells.lookup x=some c->∃v,s.heap.IsCell c v
 free:H X.env.locals=none
 freeC:∀x c,X.env.cells.lookup x=some c->H c=none
 pin:∀p∈X.pn++pins,s.heap.get? p.1=some p.2/\H p.1=none/\p.1≠X.env.locals/\p.1∉X.fs/\∀v,p.2.data≠.cell v
 hok:CY X.prog X.w H s.heap
 len:σ.length=X.N.length
section
variable {X:Cx} {pins:B'} {σ:List (V')} {H H':Hp} {s:Shared} {h':Heap}
def Cx.Ok.nofr(ok:X.Ok){o:Obj}(e:X.base.get? b=some o):b∉X.fs:=λa=>by have:=(ok.funs.mem a).1;rw[e] at this;cases this
def Inv.bs(I:Inv X pins σ H s):∀b o,X.base.get? b=some o->s.heap.get? b=some o/\H b=none:=λb o e =>
 ⟨I.base.keep b o (I.ok.bs b o e).1 (I.ok.bs b o e).2 (I.ok.nofr e) (I.ok.noex b o e),I.base.free b o (I.ok.bs b o e).1 (I.ok.bs b o e).2 (I.ok.noex b o e)⟩
def Inv.bk(I:Inv X pins σ H s):∀b o,X.base.get? b=some o->s.heap.get? b=some o:=λb o e=>(I.bs b o e).1
def Inv.mod(I:Inv X pins σ H s):Mod X.K X.mg X.base:=I.ok.mod
def Inv.kIn(I:Inv X pins σ H s):X.K.In s.heap:=I.ok.mod.kin.keeps I.bk
def Inv.lt(I:Inv X pins σ H s):X.env.locals<s.heap.objs.size:=let ⟨_,a,_⟩:=I.loc;a.lt
def Inv.sz(I:Inv X pins σ H s):X.s₀.heap.objs.size<=s.heap.objs.size:=FS I.ok.above (Cf I.lt)
def Inv.nofs(I:Inv X pins σ H s)(h:s.heap.objs.size<=a):a∉X.fs:=λb=>by obtain⟨_,o,c,_⟩:=I.ok.funs.mem b;exact absurd (F1 (Bq c) (FS I.sz h)) (HF _)
def Inv.cne(I:Inv X pins σ H s):∀x c,X.env.cells.lookup x=some c->c≠X.env.locals:=λx c e z=>by obtain⟨v,o,a,hd⟩:=I.cell x c e;obtain⟨m,⟨f,g,h,b,d,_⟩,_⟩:=I.loc;rw[z,b] at a;cases a;rw[d] at hd;cases hd
def Inv.funs(I:Inv X pins σ H s):s.heap.FunFrames X.base X.outer:=by
 have all:∀(l:List Env),(∀b∈Fb l,b∈X.fs)->X.s₀.heap.FunFrames X.base l->s.heap.FunFrames X.base l:=by
  intro l
  induction l with|nil=>intro _ _;trivial|cons p r g=>intro f h;obtain⟨i,⟨L,o,a,j,k,hd⟩,m⟩:=h;have c:L∈X.fs:=f L (by unfold Fb;rw[Md,a];exact Bg);obtain⟨n,e⟩:=I.base.slot L o k (I.ok.frf L c) c λz=>I.ok.exfs L z c;exact⟨i,⟨L,_,a,j,e,hd⟩,g (λb d=>f b (by unfold Fb;rw[Md,a];exact BQ _ d)) m⟩
 exact all X.outer (λζ d=>d) I.ok.funs
def Inv.stack(I:Inv X pins σ H s):s.heap.FunFrames X.base X.stack:=by rcases I.ok.stk with e|⟨e,a⟩;rw[e];exact I.funs;rw[e];obtain⟨m,b,_⟩:=I.loc;refine .cons (by rw[I.ok.kind];decide) a b ?_ I.funs;exact Heap.get?_none_of_le (FS I.ok.bsz I.ok.above)
def Inv.stkSub(I:Inv X pins σ H s):∀b∈Fb X.stack,b∈X.env.locals::X.fs:=λb a=>by rcases I.ok.stk with e|⟨e,c⟩;rw[e] at a;exact BQ _ a;rw[e] at a;unfold Fb at a;rw[Md,c] at a;exact a
def Inv.stkFree(I:Inv X pins σ H s):∀b∈Fb X.stack,H b=none:=λb a=>by rcases B1.mp (I.stkSub b a) with e|a;rw[e];exact I.free;obtain⟨_,o,c,_⟩:=I.ok.funs.mem a;exact I.base.free b o c (I.ok.frf b a) λz=>I.ok.exfs b z a
variable {t':Nat}{ch:I'}
def Inv.step{g':Array GenState}{d':Drawn}(I:Inv X pins σ H s)
 (w:∀b∈ch,(b∈X.ex\/X.s₀.heap.objs.size<=b)/\b≠X.env.locals/\(∀x c,X.env.cells.lookup x=some c->c≠b)/\∀p∈X.pn++pins,p.1≠b)
 (keep:∀b o,b≠X.env.locals->b∉X.fs->b∉ch->s.heap.get? b=some o->H b=none->h'.get? b=some o)
 (G:∀b o,b≠X.env.locals->b∈X.fs->b∉ch->s.heap.get? b=some o->H b=none->∃B,h'.get? b=some {o with slots:=B}) (free:∀b o,b∉ch->s.heap.get? b=some o->H b=none->H' b=none)
 (there:∀b o,b∉ch->s.heap.get? b=some o->∃j,h'.get? b=some j)
 (tups:∀b xs,H b=some (.tup xs)->H' b=some (.tup xs)) (S:∀b o u,H b=some (.frz o u)->H' b=some (.frz o u)) (T:∀b ps,H b=some (.tbl ps)->∃more,H' b=some (.tbl (ps++more)))
 (ns:∀m,s.heap.Ns X.env.locals m->h'.Ns X.env.locals m) (Q:CY X.prog X.w H' h') (K:AllBare g') :
 Inv X pins σ H' {s with heap:=h',gens:=g',drawn:=d',toks:=t'}:=by
 have F:∀b o,X.s₀.heap.get? b=some o->b≠X.env.locals:=λb o e=>Cz (F1 (Bq e) I.ok.above)
 have A:∀b o,X.s₀.heap.get? b=some o->b∉X.ex->b∉ch:=λb o e a g=>by
  rcases(w b g).1 with z|z;exact a z;exact absurd (F1 (Bq e) z) (HF _)
 have J:∀x c,X.env.cells.lookup x=some c->∀v,s.heap.IsCell c v->h'.IsCell c v:=λx c e v⟨o,h,hd⟩=>by
  have y:c∉ch:=λz=>(w c z).2.2.1 x c e rfl;by_cases C:c∈X.fs;obtain⟨B,q⟩:=G c o (I.cne x c e) C y h (I.freeC x c e);exact⟨_,q,hd⟩;exact⟨o,keep c o (I.cne x c e) C y h (I.freeC x c e),hd⟩
 refine⟨I.ok,I.os,K,⟨λb o e n g a=>?_,λb o e n g a=>?_,λb o e n a=>?_,λb o e a=>?_,λb xs e=>tups b xs (I.base.tups b xs e),λb o xs e=>S b o xs (I.base.frzs b o xs e),λb ps e=>?_⟩,?_,λx c e=>?_,?_,λx c e=>?_,λp D=>?_,Q,I.len⟩;exact keep b o (F b o e) g (A b o e a) (I.base.keep b o e n g a) (I.base.free b o e n a);obtain⟨B,f⟩:=I.base.slot b o e n g a;obtain⟨R,t⟩:=G b _ (F b o e) g (A b o e a) f (I.base.free b o e n a);exact⟨R,t⟩;obtain⟨j,f⟩:=I.base.there b o e a;exact free b j (A b o e a) f (I.base.free b o e n a);obtain⟨j,f⟩:=I.base.there b o e a;exact there b j (A b o e a) f;obtain⟨L,f⟩:=I.base.tbls b ps e;obtain⟨M,t⟩:=T b _ f;exact⟨L++M,by rw[t,Array.append_assoc]⟩;obtain⟨m,N,O⟩:=I.loc;refine⟨m,ns m N,λi x v f t P=>?_⟩;obtain⟨u,r,l⟩:=O i x v f t P;refine⟨u,r,?_⟩;rcases l with l|⟨k,c,e,z⟩;exact .inl l;exact .inr ⟨k,c,e,J x c e _ z⟩;obtain⟨v,z⟩:=I.cell x c e;exact⟨v,J x c e v z⟩;obtain⟨m,⟨o,_,_,h,_⟩,_⟩:=I.loc;exact free _ o (λz=>(w _ z).2.1 rfl) h I.free;obtain⟨v,o,h,hd⟩:=I.cell x c e;exact free c o (λz=>(w c z).2.2.1 x c e rfl) h (I.freeC x c e);obtain⟨e,n,ne,E,d⟩:=I.pin p D;have y:p.1∉ch:=λz=>(w p.1 z).2.2.2 p D rfl;exact⟨keep p.1 p.2 ne E y e n,free p.1 p.2 y e n,ne,E,d⟩
def Inv.un(I:Inv X pins σ H s)(u:Un X.fs [] H H' s.heap h')(i:CY X.prog X.w H' h'):Inv X pins σ H' {s with heap:=h',toks:=t'}:=by
 obtain⟨m,⟨o,l,p,c,r⟩,_⟩:=id I.loc;obtain⟨q,f⟩:=u.any c I.free (by simp)
 exact I.step (g':=s.gens) (d':=s.drawn) (ch:=[]) (λζ z=>nomatch z) (λb o ζ a ζ e n=>u.keep b o e n a (by simp)) (λb o ζ a ζ e n=>u.slot b o e n a (by simp)) (λb o ζ e n=>u.free b o e n (by simp)) (λb o ζ e=>u.there b o e (by simp)) u.tups u.frzs u.tbls (λt g=>by
  obtain⟨v,j,k,d,h⟩:=g;rw[c] at d;cases d;exact⟨_,j,k,f,h⟩) i I.bare
def Inv.call{g':Array GenState}{d':Drawn}(I:Inv X pins σ H s)(u:Un (Fb X.stack) ch H H' s.heap h')(q:CY X.prog X.w H' h')(i:AllBare g')
 (g:∀b∈ch,(b∈X.ex\/X.s₀.heap.objs.size<=b)/\b≠X.env.locals/\(∀x c,X.env.cells.lookup x=some c->c≠b)/\∀p∈X.pn++pins,p.1≠b) :
 Inv X pins σ H' {s with heap:=h',gens:=g',drawn:=d',toks:=t'}:=by
 obtain⟨m,⟨o,w,y,f,r⟩,_⟩:=id I.loc;obtain⟨A,d⟩:=u.any f I.free λz=>(g _ z).2.1 rfl
 exact I.step (ch:=ch) g (λb o d j a e n=>u.keep b o e n (λz=>(B1.mp (I.stkSub b z)).elim d j) a) (λb o ζ ζ a e n=>u.any e n a) (λb o a e n=>u.free b o e n a) (λb o a e=>u.there b o e a) u.tups u.frzs u.tbls (λB k=>by
  obtain⟨C,t,v,h,l⟩:=k;rw[f] at h;cases h;exact⟨_,t,v,d,l⟩) q i
def Inv.turned{it:Addr}(I:Inv X pins σ H s)(k:∀b o,b≠it->s.heap.get? b=some o->h'.get? b=some o)(g:H it=none)(d:it≠X.env.locals)
 (h:it∈X.ex\/X.s₀.heap.objs.size<=it) (i:∀x c,X.env.cells.lookup x=some c->c≠it) (j:∀p∈X.pn++pins,p.1≠it):Inv X pins σ H {s with heap:=h',toks:=t'}:=by
 have f:∀b u,H b=some u->b≠it:=λb u e z=>by rw[z,g] at e;cases e
 refine I.step (g':=s.gens) (d':=s.drawn) (ch:=[it]) (λb l=>?_) (λb o ζ ζ a e ζ=>k b o (λz=>a (by simp[z])) e) (λb o ζ ζ a e ζ=>⟨o.slots,k b o (λz=>a (by simp[z])) e⟩) (λζ ζ ζ ζ n=>n)
  (λb o a e=>⟨o,k b o (λz=>a (by simp[z])) e⟩) (λζ ζ e=>e) (λζ ζ ζ e=>e) (λb B e=>⟨#[],by rw[e];simp⟩) (λm t=>?_) (λb u e=>?_) I.bare
 have e:b=it:=(by simpa using l);subst e;exact⟨h,d,i,j⟩;obtain⟨o,w,y,A,r⟩:=t;exact⟨o,w,y,k _ o (Ne.symm d) A,r⟩;refine(I.hok b u e).stay (λc v a q=>k c v ?_ q) (λζ q=>q) λζ ζ q=>q;rcases a with z|z;rw[z];exact f b u e;exact f c _ z
def Inv.tok(I:Inv X pins σ H s)(t:Nat):Inv X pins σ H {s with toks:=t}:=I.un (h':=s.heap) (t':=t) Un.refl I.hok
def Inv.kept{t':Nat}(I:Inv X pins σ H s)(k:∀b u,s.heap.get? b=some u->h'.get? b=some u):Inv X pins σ H {s with heap:=h',toks:=t'}:=I.un (Un.kept k) (I.hok.kept k)
def Inv.laid{a:Addr}{o:HO}{t':Nat}(I:Inv X pins σ H s)(k:∀b u,s.heap.get? b=some u->h'.get? b=some u)(c:s.heap.objs.size<=a)(d:AB X.prog X.w (upd H a o) h' a o) :
 Inv X pins σ (upd H a o) {s with heap:=h',toks:=t'}:=I.un (Un.laid k c (I.hok.fresh c)) (I.hok.laid k c d)
def Inv.write{x e:Addr}{o:HO}{t':Nat}(I:Inv X pins σ H s)(a:OX (H x))(c:e=x\/H e=some (.own x))(k:∀b u,b≠e->s.heap.get? b=some u->h'.get? b=some u)(d:∃u,h'.get? e=some u)
 (f:AB X.prog X.w (upd H x o) h' x o):Inv X pins σ (upd H x o) {s with heap:=h',toks:=t'}:=I.un (Un.write a c k d) (I.hok.write a c k d f)
def Inv.pins_of{a:B'}(I:Inv X pins σ H s)(h:∀p∈a,s.heap.get? p.1=some p.2/\H p.1=none/\p.1≠X.env.locals/\p.1∉X.fs/\∀v,p.2.data≠.cell v):Inv X a σ H s:=
 ⟨I.ok,I.os,I.bare,I.base,I.loc,I.cell,I.free,I.freeC,λp b=>(B0.mp b).elim (λz=>I.pin p (Et _ z)) (h p),I.hok,I.len⟩
variable {i:Nat}{x:Str}
def Ww{N:J'}(c:N.Nodup){j:Nat}(a:N[i]?=some x)(b:N[j]?=some x):i=j:=by obtain⟨f,d⟩:=AV.mp a;obtain⟨g,e⟩:=AV.mp b;exact(List.getElem_inj c).mp (d.trans e.symm)
def Wx{ai:Model}{A:Around}{E:D'}{v:V}{u:Value}{Q:Unit->Shared->Prop}(I:Inv X pins σ H s)(W:X.N.Nodup)(D:X.N[i]?=some x)(m:Loc X.env.scope x)(r:RelV v u)
 (h:∀L,Inv X pins (σ.set i (some v)) H L->(∃a,Heap.SameBut a s.heap L.heap/\(a=X.env.locals\/X.env.cells.lookup x=some a))->Q () L) (hf:X.fn x=true\/X.env.scope.names.lookup x=some .local:=by first|exact .inl rfl|exact .inr rfl|assumption):wpAny ai A (storeName X.env x u) Q E s:=by
 obtain⟨aj,J,Y⟩:=id I.loc;have an:(X.env.scope.kind==.class || (X.env.scope.kind==.module && X.env.locals != X.env.globals))=false:=by rw[I.ok.kind];rfl
 have aa:i<σ.length:=by rw[I.len];exact(AV.mp D).1
 have cne:=I.cne
 have ah:∀{a:Addr}{h':Heap},(∃o,s.heap.get? a=some o/\H a=none)->Heap.SameBut a s.heap h'->CY X.prog X.w H h':=λ{a h'}ha f b ob e=>by
  obtain⟨_,_,ag⟩:=ha;refine(I.hok b ob e).stay (λc F l q=>(f.2 c ?_).trans q) (λζ q=>q) λζ ζ q=>q;rintro rfl;rcases l with rfl|l;rw[ag] at e;cases e;rw[ag] at l;cases l
 rcases m with w|w;refine wpAny_storeName_local w J (λh' ak f=>?_) an;obtain⟨oL,_,_,al,_⟩:=id J;refine h _ ⟨I.ok,I.os,I.bare,⟨λb o e n B m=>?_,λb o e n B m=>?_,I.base.free,λb o e m=>?_,I.base.tups,I.base.frzs,I.base.tbls⟩,⟨_,ak,λj y K g t M=>?_⟩,λy c e=>?_,I.free,I.freeC,λp N=>?_,ah ⟨oL,al,I.free⟩ f,by simpa using I.len⟩ ⟨_,f,.inl rfl⟩;exact(f.2 b (Cz (F1 (Bq e) I.ok.above))).trans (I.base.keep b o e n B m);obtain⟨O,g⟩:=I.base.slot b o e n B m;exact⟨O,(f.2 b (Cz (F1 (Bq e) I.ok.above))).trans g⟩;obtain⟨P,g⟩:=I.base.there b o e m;exact⟨P,(f.2 b (Cz (F1 (Bq e) I.ok.above))).trans g⟩;by_cases C:j=i;subst C;rw[D] at g;cases g;rw[u' aa] at t;cases t;exact⟨u,r,.inl ⟨w,by simp⟩⟩;rw[t0 (Ne.symm C)] at t;obtain⟨R,S,q⟩:=Y j y K g t M;refine⟨R,S,?_⟩;rcases q with⟨k,e⟩|⟨k,c,e,z⟩;refine .inl ⟨k,?_⟩;have:y≠x:=λe=>C (Ww W g (e▸D));simp[this,e];exact .inr ⟨k,c,e,z.sameBut f (cne y c e)⟩;obtain⟨F,z⟩:=I.cell y c e;exact⟨F,z.sameBut f (cne y c e)⟩;obtain⟨e,n,ne,T,d⟩:=I.pin p N;exact⟨(f.2 p.1 ne).trans e,n,ne,T,d⟩;have U:X.fn x=true:=(by rcases hf with z|z;exact z;rw[z] at w;cases w);obtain⟨c,l⟩:=I.ok.has x (.inl w);obtain⟨F,z⟩:=I.cell x c l;refine wpAny_storeName_cell I.ok.kind w l z (λh' ab f=>?_);obtain⟨Z,ae,ao⟩:=id z;refine h {s with heap:=h'} ⟨I.ok,I.os,I.bare,⟨λb o e n B m=>?_,λb o e n B m=>?_,I.base.free,λb o e m=>?_,I.base.tups,I.base.frzs,I.base.tbls⟩,⟨aj,J.sameBut f (Ne.symm (cne x c l)),λj y K g t M=>?_⟩,λy G e=>?_,I.free,I.freeC,λp N=>?_,ah ⟨Z,ae,I.freeC x c l⟩ f,by simpa using I.len⟩ ⟨c,f,.inr l⟩;exact(f.2 b (Cz (F1 (Bq e) (I.ok.cab x c U l)))).trans (I.base.keep b o e n B m);obtain⟨O,g⟩:=I.base.slot b o e n B m;exact⟨O,(f.2 b (Cz (F1 (Bq e) (I.ok.cab x c U l)))).trans g⟩;obtain⟨P,g⟩:=I.base.there b o e m;exact⟨P,(f.2 b (Cz (F1 (Bq e) (I.ok.cab x c U l)))).trans g⟩;by_cases C:j=i;subst C;rw[D] at g;cases g;rw[u' aa] at t;cases t;exact⟨u,r,.inr ⟨.inl w,c,l,ab⟩⟩;rw[t0 (Ne.symm C)] at t;obtain⟨R,S,q⟩:=Y j y K g t M;refine⟨R,S,?_⟩;rcases q with q|⟨k,G,e,z'⟩;exact .inl q;refine .inr ⟨k,G,e,z'.sameBut f ?_⟩;rintro rfl;exact C (Ww W g (I.ok.inj _ _ _ e l▸D));by_cases af:G=c;subst af;exact⟨_,ab⟩;obtain⟨w2,z2⟩:=I.cell y G e;exact⟨w2,z2.sameBut f af⟩;obtain⟨e,n,ne,T,d⟩:=I.pin p N;refine⟨(f.2 p.1 ?_).trans e,n,ne,T,d⟩;intro q;rw[q,ae] at e;have q':Z=p.2:=Bt e;exact d F (by rw[<-q'];exact ao)
def Tr{M:Model}{A:Around}{E:D'}{v:V}{u:Value}{Q:Unit->Shared->Prop}(I:Inv X pins σ H s)(a:X.N.Nodup)(b:X.N[i]?=some x)(c:Loc X.env.scope x)(r:RelV v u)
 (h:∀L,Inv X pins (σ.set i (some v)) H L->Q () L) (d:X.fn x=true\/X.env.scope.names.lookup x=some .local:=by first|exact .inl rfl|exact .inr rfl|assumption):wpAny M A (storeName X.env x u) Q E s:=
 Wx I a b c r (λL e ζ=>h L e) d
def Inv.call'{L:Shared}(I:Inv X pins σ H s)(a:L.os=s.os)(u:Un (Fb X.stack) ch H H' s.heap L.heap)(g:CY X.prog X.w H' L.heap)(d:AllBare L.gens)
 (h:∀b∈ch,(b∈X.ex\/X.s₀.heap.objs.size<=b)/\b≠X.env.locals/\(∀x c,X.env.cells.lookup x=some c->c≠b)/\∀p∈X.pn++pins,p.1≠b):Inv X pins σ H' L:=by
 obtain⟨h',g',d',t',f⟩:=L;have e:f=s.os:=a;subst e;exact I.call (g':=g') (t':=t') (d':=d') u g d h
end
abbrev XK:=Value->Option Addr->Hp->Prop
abbrev St:=List (Option V)
abbrev VK:=V->Hp->Prop
abbrev TE:=St->Hp->VK->Prop
abbrev TT:=St->Hp->(Bool->Hp->Prop)->Prop
abbrev TA:=St->Hp->(U'->Hp->Prop)->Prop
structure Ends where
 nx:St->Hp->Prop
 rt:VK
 bk:St->Hp->Prop:=λζ ζ=>False
 ct:St->Hp->Prop:=λζ ζ=>False
abbrev TS:=Ends->St->Hp->Prop
def EP (X:Cx) (pins:B') (σ:St) (Q:VK) (u:Value) (L:Shared):Prop:=∃v H',Inv X pins σ H' L/\RelV v u/\Q v H'
def TP (X:Cx) (pins:B') (σ:St) (Q:Bool->Hp->Prop) (b:Bool) (L:Shared):Prop:=∃H',Inv X pins σ H' L/\Q b H'
def AP (X:Cx) (pins:B') (σ:St) (Q:U'->Hp->Prop) (us:G') (L:Shared):Prop:=∃vs H',Inv X pins σ H' L/\Av vs us/\Q vs H'
def SP (X:Cx) (pins:B') (D:Ends) (f:Flow) (L:Shared):Prop:=
 match f with
 |.next=>∃σ' H',Inv X pins σ' H' L/\D.nx σ' H'
 |.brk=>∃σ' H',Inv X pins σ' H' L/\D.bk σ' H'
 |.cont=>∃σ' H',Inv X pins σ' H' L/\D.ct σ' H'
 |.ret u=>∃v σ' H',Inv X pins σ' H' L/\RelV v u/\D.rt v H'
def PE (X:Cx) (e:Expr) (t:TE):Prop:=
 ∀(pins:B')(s:Shared)(σ:St)(H:Hp)(Q:VK),Inv X pins σ H s->t σ H Q->wpAny (model X.prog X.w) X.A (eval e X.env) (EP X pins σ Q) X.xe s
def PT (X:Cx) (e:Expr) (t:TT):Prop:=
 ∀(pins:B')(s:Shared)(σ:St)(H:Hp)(Q:Bool->Hp->Prop),Inv X pins σ H s->t σ H Q->wpAny (model X.prog X.w) X.A (isTrue e X.env (eval e X.env)) (TP X pins σ Q) X.xe s
def PW (X:Cx) (e:Expr) (t:TT):Prop:=
 ∀(whole:Sem Value)(pins:B')(s:Shared)(σ:St)(H:Hp)(Q:Bool->Hp->Prop),Inv X pins σ H s->t σ H Q->wpAny (model X.prog X.w) X.A (isTrue e X.env whole) (TP X pins σ Q) X.xe s
variable {X:Cx}{e:Expr}
def PW.pt{t:TT}(h:PW X e t):PT X e t:=h _
def PA (X:Cx) (es:P') (t:TA):Prop:=
 ∀(pos:Pos)(pins:B')(s:Shared)(σ:St)(H:Hp)(Q:U'->Hp->Prop),Inv X pins σ H s->t σ H Q->wpAny (model X.prog X.w) X.A (spliced (backTo pos (starEach es X.env))) (AP X pins σ Q) X.xe s
def PS (X:Cx) (st:Stmt) (t:TS):Prop:=
 ∀(pins:B')(s:Shared)(σ:St)(H:Hp)(D:Ends),Inv X pins σ H s->t D σ H->wpAny (model X.prog X.w) X.A (exec st X.env) (SP X pins D) X.xe s
def Gz (X:Cx) (st:List Stmt) (t:TS):Prop:=
 ∀(pins:B')(s:Shared)(σ:St)(H:Hp)(D:Ends),Inv X pins σ H s->t D σ H->wpAny (model X.prog X.w) X.A (execs st X.env) (SP X pins D) X.xe s
variable {A:Around}{E:D'}{s:Shared}
def AX{α:Type}{t:Sem α}{Q b:α->Shared->Prop}{M:Model}(h:wpAny M A t Q E s)(c:∀a s,Q a s->b a s):wpAny M A t b E s:=F3 h c λζ ζ x=>x
section
variable {X:Cx}
def mV:Option (V')->(V->Prop)->Prop|some (some v),q=>q v|_,_=>(λζ=>False) Nat.repr
def mB:V->(Bool->Prop)->Prop|.bl c,q=>0=0/\q c|_,_=>(λζ=>False) Nat.repr
def mI:V->(Int->Prop)->Prop|.int i,q=>q i|_,_=>(λζ=>False) Nat.repr
def GV:V->V->(Int->Int->Prop)->Prop|.int i,.int j,q=>q i j|_,_,_=>(λζ=>False) Nat.repr
def mR:V->(Addr->Prop)->Prop|.ref a,q=>q a|_,_=>(λζ=>False) Nat.repr
def mT:V->(Addr->U'->Prop)->Prop|.ref a,q=>∃xs,q a xs|_,_=>(λζ=>False) Nat.repr
def mX:V->V->(Addr->U'->Int->V->Prop)->Prop|.ref p,.int i,q=>∃xs v,q p xs i v|_,_,_=>(λζ=>False) Nat.repr
def mC:U'->(V->U'->Prop)->Prop|v::r,q=>q v r|_,_=>(λζ=>False) Nat.repr
def mN:U'->Prop->Prop|[],q=>q|_,_=>(λζ=>False) Nat.repr
def mL:U'->(V->Nat->Prop)->Prop|[x],q=>∃n,q x n|_,_=>(λζ=>False) Nat.repr
def mA:V->U'->(Addr->U'->V->Prop)->Prop|.ref l,[y],q=>∃xs,q l xs y|_,_,_=>(λζ=>False) Nat.repr
def mJ:U'->(Int->Prop)->Prop|[.int j],q=>q j|_,_=>(λζ=>False) Nat.repr
def mV.ex{o:Option (V')}{q:V->Prop}(h:mV o q):∃v,o=some (some v)/\q v:=by unfold mV at h;split at h;exact⟨_,rfl,h⟩;exact False.elim h
variable {x:V}
def mB.ex{q:Bool->Prop}(h:mB x q):∃c,x=.bl c/\q c:=by unfold mB at h;split at h;exact⟨_,rfl,h.2⟩;exact False.elim h
def mI.ex{q:Int->Prop}(h:mI x q):∃i,x=.int i/\q i:=by unfold mI at h;split at h;exact⟨_,rfl,h⟩;exact False.elim h
def GV.ex{y:V}{q:Int->Int->Prop}(h:GV x y q):∃i j,x=.int i/\y=.int j/\q i j:=by unfold GV at h;split at h;exact⟨_,_,rfl,rfl,h⟩;exact False.elim h
def mR.ex{q:Addr->Prop}(h:mR x q):∃a,x=.ref a/\q a:=by unfold mR at h;split at h;exact⟨_,rfl,h⟩;exact False.elim h
def mT.ex{q:Addr->U'->Prop}(h:mT x q):∃a xs,x=.ref a/\q a xs:=by unfold mT at h;split at h;exact⟨_,h.choose,rfl,h.choose_spec⟩;exact False.elim h
def mX.ex{y:V}{q:Addr->U'->Int->V->Prop}(h:mX x y q):∃p xs i v,x=.ref p/\y=.int i/\q p xs i v:=by unfold mX at h;split at h;obtain⟨xs,v,h⟩:=h;exact⟨_,xs,_,v,rfl,rfl,h⟩;exact False.elim h
variable {vs:U'}
def mC.ex{q:V->U'->Prop}(h:mC vs q):∃v r,vs=v::r/\q v r:=by unfold mC at h;split at h;exact⟨_,_,rfl,h⟩;exact False.elim h
def mN.ex{q:Prop}(h:mN vs q):vs=[]/\q:=by unfold mN at h;split at h;exact⟨rfl,h⟩;exact False.elim h
def mL.ex{q:V->Nat->Prop}(h:mL vs q):∃x n,vs=[x]/\q x n:=by unfold mL at h;split at h;exact⟨_,h.choose,rfl,h.choose_spec⟩;exact False.elim h
def mA.ex{q:Addr->U'->V->Prop}(h:mA x vs q):∃l xs y,x=.ref l/\vs=[y]/\q l xs y:=by unfold mA at h;split at h;exact⟨_,h.choose,_,rfl,rfl,h.choose_spec⟩;exact False.elim h
def mJ.ex{q:Int->Prop}(h:mJ vs q):∃j,vs=[.int j]/\q j:=by unfold mJ at h;split at h;exact⟨_,rfl,h⟩;exact False.elim h
def AS (i:Nat):TE:=λσ H Q=>mV σ[i]? λv=>Q v H
def tC (v:V):TE:=λζ H Q=>Q v H
def Mi{i:Nat}{x:Str}{pos:Pos}(g:X.N[i]?=some x)(hv:Q6 X.env.scope x)(hd:(x==o9)=false:=by decide)(o:(x==("__classdict__":Str))=false:=by decide):PE X (.Name x pos) (AS i):=by
 intro p s σ H Q I h;replace h:=mV.ex h;obtain⟨v,e,h⟩:=h;obtain⟨m,j,k⟩:=I.loc;obtain⟨u,r,l⟩:=k i x v g e hv;have b:EP X p σ Q u s:=⟨v,H,I,r,h⟩;rcases l with⟨a,n⟩|⟨a,c,d,f⟩;exact wpAny_Name (wpAny_loadName_local I.ok.kind a j n b) hd;rcases a with a|a;exact wpAny_Name (wpAny_loadName_cell I.ok.kind a d f b) hd;exact wpAny_Name (wpAny_loadName_free I.ok.kind a d f b o) hd
def Ap{i j pos}:PE X (.Constant (.int i) j pos) (tC (.int i)):=λζ ζ ζ H ζ I h=>wpAny_Constant_int ⟨.int i,H,I.tok _,⟨_,rfl⟩,h⟩
def JH{b j pos}:PE X (.Constant (.bool b) j pos) (tC (.bl b)):=λζ ζ ζ H ζ I h=>Constant_bool ⟨.bl b,H,I,rfl,h⟩
def GA{j pos}:PE X (.Constant .none j pos) (tC .non):=λζ ζ ζ H ζ I h=>Constant_none ⟨.non,H,I,rfl,h⟩
def Br{x j pos}:PE X (.Constant (.str x) j pos) (tC (.str x)):=λζ ζ ζ H ζ I h=>Calls.Constant_str ⟨.str x,H,I.tok _,⟨_,rfl⟩,h⟩
def Gl (X:Cx) (x:Str):Prop:=X.env.kindOf x=some .globalImplicit
def Wy{pins:B'}{σ:St}{x:Str}{u:Value}{pos:Pos}{Q:D'}(I:Inv X pins σ H s)(a:Gl X x)(b:X.mg x=some u)(h:Q u s)
 (hd:(x==o9)=false:=by decide):wpAny (model X.prog X.w) X.A (eval (.Name x pos) X.env) Q E s:=
 Calls.Name_function_global I.ok.kind a (Calls.loadGlobal_global (by rw[I.ok.glob];exact I.mod.glob.keeps I.bk) b h) hd
def Lm{pins:B'}{σ:St}{x:Str}{u:Value}{pos:Pos}{Q:D'}(I:Inv X pins σ H s)(a:Gl X x)(b:X.mg x=none)(hv:bootBuiltins x=some u)(h:Q u s)
 (c:x ≠ "__name__" :=by decide) (hd:(x==o9)=false:=by decide):wpAny (model X.prog X.w) X.A (eval (.Name x pos) X.env) Q E s:=by
 obtain⟨f,d,e⟩:=I.mod.blt;exact Calls.Name_function_global I.ok.kind a (Calls.loadGlobal_builtin (by rw[I.ok.glob];exact I.mod.glob.keeps I.bk) b (by rw[I.ok.blt];exact d.keeps I.bk) ((e x c).trans hv) h) hd
def JI{x:Str}{v:V}{u:Value}{pos:Pos}(a:Gl X x)(b:X.mg x=some u)(r:RelV v u)(hd:(x==o9)=false:=by decide):PE X (.Name x pos) (tC v):=
 λζ ζ ζ H ζ I h=>Wy I a b ⟨v,H,I,r,h⟩ hd
def JJ{x:Str}{v:V}{u:Value}{pos:Pos}(a:Gl X x)(b:X.mg x=none)(hv:bootBuiltins x=some u)(r:RelV v u)(c:x ≠ "__name__" :=by decide)(hd:(x==o9)=false:=by decide):PE X (.Name x pos) (tC v):=
 λζ ζ ζ H ζ I h=>Lm I a b hv ⟨v,H,I,r,h⟩ c hd
variable {a b:Expr} {ta tb:TE} {pos:Pos}
def PC (X:Cx) (op:CmpOp) (a b:Expr) (t:TE):Prop:=
 ∀(pins:B')(s:Shared)(σ:St)(H:Hp)(Q:VK),Inv X pins σ H s->t σ H Q ->
  wpAny (model X.prog X.w) X.A (eval a X.env) (λv s₁=>wpAny (model X.prog X.w) X.A (eval b X.env) (λu s₂=>wpAny (model X.prog X.w) X.A (compareOp op v u) (EP X pins σ Q) X.xe s₂) X.xe s₁) X.xe s
variable {op:CmpOp}
def Wz(b:Expr)(h:op≠.In)(a:op≠.NotIn):behindInMarks op b=false:=by
 have c:(op==CmpOp.In)=false:=by cases op<;>first|rfl|exact absurd rfl h
 have d:(op==CmpOp.NotIn)=false:=by cases op<;>first|rfl|exact absurd rfl a
 cases b<;>simp[behindInMarks,c,d]
def JK (ta:TE):TE:=λσ H Q=>ta σ H λx Y=>Q (.bl (decide (x=.non))) Y
def Ln (ta:TE):TE:=λσ H Q=>ta σ H λx Y=>Q (.bl (!decide (x=.non))) Y
def RelV.none_iff{v:Value}(r:RelV x v):(v==Value.none)=decide (x=.non):=by
 cases x with|non=>cases r;rfl|bl _=>cases r;rfl|int _=>obtain⟨t,rfl⟩:=r;rfl|str _=>obtain⟨t,rfl⟩:=r;rfl|byt _=>obtain⟨t,rfl⟩:=r;rfl|flt _=>obtain⟨t,rfl⟩:=r;rfl|ref _=>cases r;rfl|ty _=>cases r;rfl
def GB{j t}(b:PE X a ta):PC X .Is a (.Constant .none j t) (JK ta):=by intro f s σ H Q I h;refine AX (b f s σ H _ I h) λv g⟨x,Y,c,d,e⟩=>?_;exact Constant_none (is_none_gen ⟨.bl _,Y,c,by rw[d.none_iff];rfl,e⟩)
def N9{j t}(b:PE X a ta):PC X .IsNot a (.Constant .none j t) (Ln ta):=by intro f s σ H Q I h;refine AX (b f s σ H _ I h) λv g⟨x,Y,c,d,e⟩=>?_;exact Constant_none (isnot_none_gen ⟨.bl _,Y,c,by rw[d.none_iff];rfl,e⟩)
def tB (t:TE):TT:=λσ H Q=>t σ H λx Y=>mB x λc=>Q c Y
def Ts{t:TE}(h:PC X op a b t)(c:behindInMarks op b=false:=by first|exact Wz _ (by decide) (by decide)|rfl):PE X (.Compare a [op] [b] pos) t:=λe s σ H Q I d=>wpAny_Compare1 (h e s σ H Q I d) c
def FU{t:TE}(h:PC X op a b t)(e:behindInMarks op b=false:=by first|exact Wz _ (by decide) (by decide)|rfl):PT X (.Compare a [op] [b] pos) (tB t):=by
 intro l s σ H Q I g;refine wpAny_isTrue_Compare1 (AX (h l s σ H _ I g) λv m e=>AX e λu n i=>AX i λc o⟨x,Y,j,k,f⟩=>?_) e;replace f:=mB.ex f;obtain⟨d,rfl,q⟩:=f;cases k;exact Gw ⟨Y,j,q⟩
def GC{t:TE}(h:PE X e t)(b:∀whole,isTrue e X.env whole=(do let v <-whole;standAt e.pos;holding [v] (truthy v)):=by intro _;rfl):PT X e (tB t):=by
 intro i s σ H Q I c;refine isTrue_plain (AX (h i s σ H _ I c) λv j⟨x,Y,f,g,a⟩=>?_) (b _);replace a:=mB.ex a;obtain⟨d,rfl,q⟩:=a;cases g;exact Gw ⟨Y,f,q⟩
variable {f tB':TT} {j:P'}
def OY (t u:TT):TT:=λσ H Q=>t σ H λc Y=>if c=true then u σ Y Q else Q false Y
def ZO (t u:TT):TT:=λσ H Q=>t σ H λc Y=>if c=true then Q true Y else u σ Y Q
def Tt (t:TT):TT:=λσ H Q=>t σ H λc Y=>Q (!c) Y
def Jj(b:PT X a f):PW X (.BoolOp .And [a] pos) f:=by
 intro g d s σ H Q I h;refine isTrue_and (AX (b d s σ H Q I h) λc i e=>?_);cases c with|true=>exact isTrue_and_nil e|false=>exact e
def Q7(b:PT X a f):PW X (.BoolOp .Or [a] pos) f:=by
 intro g d s σ H Q I h;refine isTrue_or (AX (b d s σ H Q I h) λc i e=>?_);cases c with|false=>exact isTrue_or_nil e|true=>exact e
def HJ(i:PT X a f)(k:PW X (.BoolOp .And (b::j) pos) tB'):PW X (.BoolOp .And (a::b::j) pos) (OY f tB'):=by
 intro l g s σ H Q I h;refine isTrue_and (AX (i g s σ H _ I h) λc m⟨Y,d,e⟩=>?_);cases c with|true=>exact k l g m σ Y Q d e|false=>exact⟨Y,d,e⟩
def OZ(i:PT X a f)(k:PW X (.BoolOp .Or (b::j) pos) tB'):PW X (.BoolOp .Or (a::b::j) pos) (ZO f tB'):=by
 intro l g s σ H Q I h;refine isTrue_or (AX (i g s σ H _ I h) λc m⟨Y,d,e⟩=>?_);cases c with|true=>exact⟨Y,d,e⟩|false=>exact k l g m σ Y Q d e
def Lo(b:PT X a f):PT X (.UnaryOp .Not a pos) (Tt f):=by intro d s σ H Q I h;exact isTrue_not (b d s σ H (λc Y=>Q (!c) Y) I h)
def O0 (ta tb:TE):TE:=λσ H Q=>ta σ H λx Y=>∃c,x=.bl c/\if c=true then tb σ Y Q else Q (.bl false) Y
def O3 (ta:TE):TE:=λσ H Q=>ta σ H λx Y=>∃c,x=.bl c/\Q (.bl (!c)) Y
def Tu{op}{t:TE}(h:PE X a t):PE X (.BoolOp op [a] pos) t:=λc s σ H Q I b=>BoolOp_one (h c s σ H Q I b)
def Q8(g:PE X a ta)(i:PE X (.BoolOp .And (b::j) pos) tb):PE X (.BoolOp .And (a::b::j) pos) (O0 ta tb):=by
 intro f s σ H Q I h;refine BoolOp_and (AX (g f s σ H _ I h) λv k⟨x,Y,e,l,d⟩=>?_);obtain⟨c,rfl,d⟩:=d;cases l;refine Gw ?_;cases c with|true=>exact i f k σ Y Q e d|false=>exact⟨.bl false,Y,e,rfl,d⟩
def Mj(d:PE X a ta):PE X (.UnaryOp .Not a pos) (O3 ta):=by intro g s σ H Q I h;refine UnaryOp_ (AX (d g s σ H _ I h) λv i⟨x,Y,e,f,b⟩=>?_);obtain⟨c,rfl,b⟩:=b;cases f;exact not_of (Gw ⟨.bl (!c),Y,e,rfl,b⟩)
def WA (t:TT) (ta tb:TE):TE:=λσ H Q=>t σ H λc Y=>if c=true then ta σ Y Q else tb σ Y Q
def ZP{c:Expr}(k:PT X c f)(l:PE X a ta)(m:PE X b tb):PE X (.IfExp c a b pos) (WA f ta tb):=by
 intro e s σ H Q I h;refine wpAny_IfExp (AX (k e s σ H _ I h) λd g⟨Y,i,j⟩=>?_);cases d with|true=>exact l e g σ Y Q i j|false=>exact m e g σ Y Q i j
end
def Ae (K:Aj) (H:Hp) (a:Addr) (xs:U'):Prop:=
 Rd H a (.lst xs) \/
  ∃(o:Obj)(its:O')(n:Nat),K.lookup a=some o/\o.cls=.type "list" /\ o.dict=none/\o.data=.seq its n/\its.size<=sizeLine/\Av xs its.toList
def Ar (K:Aj) (H:Hp) (a:Addr) (xs:U'):Prop:=
 Rd H a (.tup xs) \/
  ∃(o:Obj)(its:O')(n:Nat),K.lookup a=some o/\o.cls=.type "tuple" /\ o.data=.seq its n/\its.size<=sizeLine/\Av xs its.toList
def Tv:Value->V'
 |.none=>some .non
 |.bool b=>some (.bl b)
 |.int i _=>some (.int i)
 |.str x _=>some (.str x)
 |.bytes b _=>some (.byt b)
 |.float b _=>some (.flt b)
 |.ref a=>some (.ref a)
 |.type n=>some (.ty n)
 |_=>none
variable {x:V}
def RelV.abs{u:Value}(r:RelV x u):Tv u=some x:=by
 cases x with|non=>cases r;rfl|bl _=>cases r;rfl|int _=>obtain⟨t,rfl⟩:=r;rfl|str _=>obtain⟨t,rfl⟩:=r;rfl|byt _=>obtain⟨t,rfl⟩:=r;rfl|flt _=>obtain⟨t,rfl⟩:=r;rfl|ref _=>cases r;rfl|ty _=>cases r;rfl
def RelV.inj{y:V}{u:Value}(r:RelV x u)(q:RelV y u):x=y:=Bt (r.abs.symm.trans q.abs)
theorem Av.inj:∀{xs ys:U'}{us:G'},Av xs us->Av ys us->xs=ys
 |_,_,_,.nil,.nil=>rfl
 |_,_,_,.cons r t,.cons a t'=>by rw[r.inj a,Av.inj t t']
section
variable {X:Cx} {pins:B'} {σ:St} {H:Hp} {s:Shared} {a:Addr} {xs ys:U'}
def Ae.of{K:Aj}(h:H a=some (.lst xs)):Ae K H a xs:=.inl (.inl h)
def Ar.of{K:Aj}(h:H a=some (.tup xs)):Ar K H a xs:=.inl (.inl h)
def Inv.list(I:Inv X pins σ H s)(h:Ae X.K H a xs):∃b:G',Av xs b/\PlainL s.heap a b.toArray/\xs.length<=sizeLine:=by rcases h with h|⟨o,b,n,c,d,hd,f,g,r⟩;obtain⟨z,b,n,r,e⟩:=h.ok I.hok;exact⟨b,r,⟨_,n,e,rfl,rfl,rfl⟩,z⟩;refine⟨b.toList,r,⟨o,n,I.kIn a o c,d,hd,by simpa using f⟩,?_⟩;have e:=r.length;simp only[Array.length_toList] at e;lia
def Inv.tuple(I:Inv X pins σ H s)(h:Ar X.K H a xs):∃b:G',Av xs b/\IsTup s.heap a b.toArray/\xs.length<=sizeLine:=by rcases h with h|⟨o,b,n,c,d,f,g,r⟩;obtain⟨z,b,r,p⟩:=h.ok I.hok;exact⟨b,r,p,z⟩;refine⟨b.toList,r,⟨o,I.kIn a o c,d,n,by simpa using f⟩,?_⟩;have e:=r.length;simp only[Array.length_toList] at e;lia
def Inv.list_inj(I:Inv X pins σ H s)(h:Ae X.K H a xs)(h':Ae X.K H a ys):xs=ys:=by obtain⟨i,r,⟨o,n,e,_,_,d⟩,_⟩:=I.list h;obtain⟨j,f,⟨k,l,b,_,_,c⟩,_⟩:=I.list h';rw[e] at b;cases b;rw[d] at c;injection c with g _;have:i=j:=(by simpa using Bw Array.toList g);subst this;exact r.inj f
def Inv.tuple_inj(I:Inv X pins σ H s)(h:Ar X.K H a xs)(h':Ar X.K H a ys):xs=ys:=by obtain⟨i,r,⟨o,e,_,n,d⟩,_⟩:=I.tuple h;obtain⟨j,f,⟨k,b,_,l,c⟩,_⟩:=I.tuple h';rw[e] at b;cases b;rw[d] at c;injection c with g _;have:i=j:=(by simpa using Bw Array.toList g);subst this;exact r.inj f
end
abbrev Cx.wish (X:Cx) (E:D'):Cx:={X with xe:=E}
abbrev Cx.nox (X:Cx):Cx:=X.wish λζ ζ=>False
def Cx.Ok.wish{X:Cx}(ok:X.Ok)(E:D'):(X.wish E).Ok:=
 ⟨ok.mod,ok.kind,ok.glob,ok.blt,ok.above,ok.inj,ok.has,ok.cab,ok.hd,ok.frames,ok.stk,ok.exf,ok.bs,ok.bsz,ok.noex,ok.exfs,ok.funs,ok.frf⟩
def Cx.Ok.unwish(ok:(X.wish E).Ok):X.Ok:=
 ⟨ok.mod,ok.kind,ok.glob,ok.blt,ok.above,ok.inj,ok.has,ok.cab,ok.hd,ok.frames,ok.stk,ok.exf,ok.bs,ok.bsz,ok.noex,ok.exfs,ok.funs,ok.frf⟩
section
variable {X:Cx} {pins:B'} {σ:St} {H:Hp} {s:Shared} {E:D'}
def Inv.wish(I:Inv X pins σ H s)(E:D'):Inv (X.wish E) pins σ H s:=⟨I.ok.wish E,I.os,I.bare,I.base,I.loc,I.cell,I.free,I.freeC,I.pin,I.hok,I.len⟩
def Inv.unwish(I:Inv (X.wish E) pins σ H s):Inv X pins σ H s:=⟨I.ok.unwish,I.os,I.bare,I.base,I.loc,I.cell,I.free,I.freeC,I.pin,I.hok,I.len⟩
def SP.unwish{D:Ends}{f:Flow}{L:Shared}(h:SP (X.wish E) pins D f L):SP X pins D f L:=by
 cases f with|next=>obtain⟨σ',a,I,q⟩:=h;exact⟨σ',a,I.unwish,q⟩|brk=>obtain⟨σ',a,I,q⟩:=h;exact⟨σ',a,I.unwish,q⟩|cont=>obtain⟨σ',a,I,q⟩:=h;exact⟨σ',a,I.unwish,q⟩|ret u=>obtain⟨v,σ',a,I,r,q⟩:=h;exact⟨v,σ',a,I.unwish,r,q⟩
def Gz.nox{st:List Stmt}{t:TS}(h:Gz X.nox st t):Gz X st t:=λpins s σ H D I a =>
 F3 (h pins s σ H D (I.wish _) a) (λζ ζ q=>q.unwish) λζ ζ z=>False.elim z
end
section
variable {X:Cx} {st:Stmt} {j:List Stmt} {t u:TS} {e:Expr} {te:TE} {pos:Pos}
def O4:TS:=λD σ H=>D.nx σ H
def HK (t u:TS):TS:=λD σ H=>(λζ=>t {D with nx:=u D} σ H) Nat.repr
def BE:Gz X [] O4:=λζ ζ σ H ζ I h=>wpAny_execs_nil ⟨σ,H,I,h⟩
def An(b:PS X st t)(c:Gz X j u):Gz X (st::j) (HK t u):=by
 intro a s σ H D I h;refine wpAny_execs_cons (AX (b a s σ H {D with nx:=u D} I h) λf d q=>?_);cases f with|next=>obtain⟨σ',e,g,q⟩:=q;exact c a d σ' e D g q|ret v=>exact q|brk=>exact q|cont=>exact q
def Az(a:PS X st t):Gz X [st] t:=by
 intro b s σ H D I h;refine wpAny_execs_cons (AX (a b s σ H D I h) λf c q=>?_);cases f with|next=>exact wpAny_execs_nil q|ret v=>exact q|brk=>exact q|cont=>exact q
def Inv.quiet{pins:B'}{σ:St}(I:Inv X pins σ H s):interactive X.env=false:=by simp[interactive,I.ok.kind]
def O5 (te:TE):TS:=λD σ H=>te σ H λζ Y=>D.nx σ Y
def DR(a:PE X e te)(b:swapsWith e none pos.line X.env=pure false:=by rfl):PS X (.Expr e pos) (O5 te):=by intro f s σ H D I h;exact wpAny_Expr_any (AX (a f s σ H _ I h) λv g⟨x,Y,c,i,d⟩=>⟨σ,Y,c,d⟩) I.quiet b
def Tx (te:TE):TS:=λD σ H=>te σ H D.rt
def AZ(a:PE X e te):PS X (.Return (some e) pos) (Tx te):=by intro f s σ H D I h;exact wpAny_Return_some (AX (a f s σ H _ I h) λv g⟨x,Y,b,c,d⟩=>⟨x,σ,Y,b,c,d⟩)
def Tz (c:TT) (t u:TS):TS:=λD σ H=>c σ H λb Y=>if b=true then t D σ Y else u D σ Y
def BA{c:Expr}{a b:List Stmt}{tc:TT}(j:PT X c tc)(k:Gz X a t)(l:Gz X b u):PS X (.If c a b pos) (Tz tc t u):=by
 intro e s σ H D I h;refine wpAny_If (AX (j e s σ H _ I h) λd f⟨Y,g,i⟩=>?_);cases d with|true=>exact k e f σ Y D g i|false=>exact l e f σ Y D g i
def Mk:TS:=λζ ζ ζ=>False
def ZQ:PS X st Mk:=λζ ζ ζ ζ ζ ζ h=>h.elim
end
abbrev TG:=V->St->Hp->(St->Hp->Prop)->Prop
abbrev Ml:=List V->St->Hp->(St->Hp->Prop)->Prop
def PG (X:Cx) (target:Expr) (t:TG):Prop:=
 ∀(pins:B')(s:Shared)(σ:St)(H:Hp)(v:V)(u:Value)(Q:St->Hp->Prop),Inv X pins σ H s->RelV v u->t v σ H Q ->
  wpAny (model X.prog X.w) X.A (assign target X.env u) (λζ L=>∃σ' H',Inv X pins σ' H' L/\Q σ' H') X.xe s
def O6 (X:Cx) (ts:P') (t:Ml):Prop:=
 ∀(pins:B')(s:Shared)(σ:St)(H:Hp)(vs:U')(us:G')(Q:St->Hp->Prop),Inv X pins σ H s->Av vs us->t vs σ H Q ->
  wpAny (model X.prog X.w) X.A (assignInOrder ((assignEach ts X.env).map (·.2)) us) (λζ L=>∃σ' H',Inv X pins σ' H' L/\Q σ' H') X.xe s
abbrev Mm:=V->V->V->Hp->(Hp->Prop)->Prop
def JL (X:Cx) (t:Mm):Prop:=
 ∀(pins:B')(s:Shared)(σ:St)(H:Hp)(o i v:V)(ov iv u:Value)(Q:Hp->Prop),Inv X pins σ H s->RelV o ov->RelV i iv->RelV v u->t o i v H Q ->
  wpAny (model X.prog X.w) X.A (setItem ov iv u) (λζ L=>∃H',Inv X pins σ H' L/\Q H') X.xe s
abbrev TC:=V->V->Hp->VK->Prop
def ZR (X:Cx) (op:Operator) (t:TC):Prop:=
 ∀(pins:B')(s:Shared)(σ:St)(H:Hp)(x y:V)(v u:Value)(Q:VK),Inv X pins σ H s->RelV x v->RelV y u->t x y H Q ->
  wpAny (model X.prog X.w) X.A (inplaceOp op v u) (EP X pins σ Q) X.xe s
section
variable {X:Cx} {pos:Pos}
def Hr (i:Nat):TG:=λv σ H Q=>Q (σ.set i (some v)) H
variable {i:Nat}
def Aw{x:Str}(a:X.N.Nodup)(b:X.N[i]?=some x:=by rfl)(c:Loc X.env.scope x:=by first|exact .inl rfl|exact .inr rfl)(d:X.fn x=true\/X.env.scope.names.lookup x=some .local:=by first|exact .inl rfl|exact .inr rfl|assumption):PG X (.Name x pos) (Hr i):=by intro f s σ H v u Q I r h;exact wpAny_assign_Name (Tr I a b c r (λL e=>⟨_,H,e,h⟩) d)
def HL:Ml:=λvs σ H Q=>mN vs (Q σ H)
def Mn (t:TG) (u:Ml):Ml:=λvs σ H Q=>mC vs λv r=>t v σ H λσ' H'=>u r σ' H' Q
def Ca:O6 X [] HL:=by
 intro c s σ H a b Q I r h;replace h:=mN.ex h;obtain⟨e,h⟩:=h;subst e;cases r;exact assignInOrder_nil ⟨σ,H,I,h⟩
def AE{es:P'}{t:TG}{u:Ml}(b:PG X e t)(c:O6 X es u)
 (d:(assignEach (e::es) X.env).map (·.2)=assign e X.env::(assignEach es X.env).map (·.2):=by rfl):O6 X (e::es) (Mn t u):=by
 intro a s σ H l m Q I r h;replace h:=mC.ex h;obtain⟨v,n,f,h⟩:=h;subst f;cases r with|cons r g=>rw[d];refine assignInOrder_cons (AX (b a s σ H _ _ _ I r h) λ_ i⟨σ1,Y,j,k⟩=>?_);exact c a i σ1 Y _ _ Q j g k
def Mo (K:Aj) (n:Nat) (t:Ml):TG:=λv σ H Q=>mT v λa xs=>Ar K H a xs/\xs.length=n/\t xs σ H Q
def Cb{es:P'}{k:Nat}{t:Ml}{n:Nat}(g:X.calm=true)(h:O6 X es t)
 (i:(assignEach es X.env).length=n:=by rfl) (z:(assignEach es X.env).findIdx? (·.1)=none:=by rfl):PG X (.Tuple es k pos) (Mo X.K n t):=by
 intro f s σ H v u Q I r c;replace c:=mT.ex c;obtain⟨a,j,l,m,p,c⟩:=c;subst l;cases r;obtain⟨B,d,q,A⟩:=I.tuple m;refine assign_Tuple_tuple (I.ok.hd g) q (by simp[i,<-p,d.length]) z λw x=>?_;have y:Inv X f σ H {s with heap:=w}:=I.kept (t':=s.toks) λb o e=>x b o (Cz (Bq e)) e;exact h f _ σ H j _ Q y (by simpa using d) c
def TD (to ti:TE) (t:Mm):TG:=λv σ H Q=>to σ H λo Y=>ti σ Y λi H2=>t o i v H2 λH3=>Q σ H3
def Q9{o i:Expr}{d e:TE}{t:Mm}(f:PE X o d)(g:PE X i e)(j:JL X t)
 (k:∀v,assign (.Subscript o i pos) X.env v=(do
  let a <-holding [v] (eval o X.env)
  let b <-holding [v,a] (eval i X.env)
  standAt pos
  holding [v,a,b] (setItem a b v)
  release [v,a,b] []):=by intro _;rfl):PG X (.Subscript o i pos) (TD d e t):=by
 intro c s σ H v u Q I r h;rw[k];refine Ad (FD (AX (f c s σ H _ I h) λa l⟨x,Y,m,n,p⟩=>?_));refine Ad (FD (AX (g c l σ Y _ m p) λb q⟨y,w,z,A,B⟩=>?_));refine Ad (wpAny_standAt (Ad (FD (AX (j c q σ w x y v a b u _ z n A r B) λ_ F⟨C,D,E⟩=>?_))));exact wpAny_release ⟨σ,C,D,E⟩
def HM (te:TE) (g:TG):TS:=λD σ H=>(λζ=>te σ H λx Y=>g x σ Y D.nx) Nat.repr
variable {te:TE}
def Dl{a:Expr}{g:TG}(c:PE X e te)(d:PG X a g)(f:swapsWithSole [a] e pos.line X.env=pure false:=by rfl)(i:swappedStores [a] e X.env=pure none:=by rfl)
 (j:(assignEach [a] X.env).map (·.2)=[assign a X.env]:=by rfl):PS X (.Assign [a] e pos) (HM te g):=by
 intro b s σ H D I h;refine wpAny_Assign_stores (AX (c b s σ H _ I h) λv k⟨x,Y,l,m,n⟩=>?_) f i;rw[j];exact AX (d b k σ Y x v _ l m n) λζ o q=>q
def AU{x:Str}{t:Pos}(a:X.N.Nodup)(b:PE X e te)(c:X.N[i]?=some x:=by rfl)(d:Loc X.env.scope x:=by first|exact .inl rfl|exact .inr rfl)(f:swapsWith e (some (.Name x t)) pos.line X.env=pure false:=by rfl)(g:X.fn x=true\/X.env.scope.names.lookup x=some .local:=by first|exact .inl rfl|exact .inr rfl|assumption) :
 PS X (.Assign [.Name x t] e pos) (HM te (Hr i)):=by
 intro n s σ H D I h;refine wpAny_Assign_Name (AX (b n s σ H _ I h) λv o⟨y,Y,j,k,l⟩=>?_) f;exact Tr j a c d k (λp m=>⟨_,Y,m,l⟩) g
def O7 (i:Nat) (te:TE) (ti:TC):TS:=λD σ H=>∃x,σ[i]?=some (some x)/\te σ H λy Y=>ti x y Y λz H2=>D.nx (σ.set i (some z)) H2
def Mp{x:Str}{op:Operator}{f:TC}{t:Pos}(j:X.N.Nodup)(g:X.N[i]?=some x)(b:Loc X.env.scope x)(n:PE X e te)(o:ZR X op f)(p:X.fn x=true\/X.env.scope.names.lookup x=some .local:=by first|exact .inl rfl|exact .inr rfl|assumption) :
 PS X (.AugAssign (.Name x t) op e pos) (O7 i te f):=by
 intro d s σ H D I h;obtain⟨v,q,h⟩:=h;obtain⟨m,A,B⟩:=I.loc;have S:Q6 X.env.scope x:=by rcases b with k|k;exact .inl k;exact .inr (.inl k)
 obtain⟨u,r,l⟩:=B i x v g q S;refine wpAny_AugAssign_Name ?_;have go:wpAny (model X.prog X.w) X.A (eval e X.env) (λw C=>wpAny (model X.prog X.w) X.A (inplaceOp op u w) (λr E=>wpAny (model X.prog X.w) X.A (storeName X.env x r) (λζ=>SP X d D .next) X.xe E) X.xe C) X.xe s:=(by refine AX (n d s σ H _ I h) λw F⟨y,Y,G,J,K⟩=>?_;refine AX (o d F σ Y v y u w _ G r J K) λz U⟨V,L,M,N,O⟩=>?_;exact Tr M j g b N (λW P=>⟨_,L,P,O⟩) p);rcases l with⟨a,Q⟩|⟨a,c,R,T⟩;exact wpAny_loadName_local I.ok.kind a A Q go;rcases a with a|a;exact wpAny_loadName_cell I.ok.kind a R T go;rcases b with k|k;have:X.env.scope.names.lookup x=some .free:=a;rw[k] at this;cases this;have:X.env.scope.names.lookup x=some .free:=a;rw[k] at this;cases this
end
section
variable {X:Cx} {pos:Pos}
def Mq (c:TT) (tb:TS):TS:=λD σ H=>∃W:Nat->St->Hp->Prop,(∃m,W m σ H)/\∀m σ H,W m σ H ->
 c σ H λb Y=>if b=true then ∃N:St->Hp->Prop,(∀σ' H',N σ' H'->∃m',m'<m/\W m' σ' H')/\tb {D with nx:=N,ct:=N,bk:=D.nx} σ Y else D.nx σ Y
def O8{c:Expr}{body:List Stmt}{tc:TT}{tb:TS}(m:PassesOwn (model X.prog X.w) X.A X.env X.xe)(t:PT X c tc)(u:Gz X body tb):PS X (.While c body [] pos) (Mq tc tb):=by
 intro l s σ H D I h;obtain⟨W,⟨w,x⟩,turn⟩:=h;refine wpAny_While (codeAny_whileLoop (λn L=>∃σ' o,Inv X l σ' o L/\W n σ' o) ?_ w ⟨σ,H,I,x⟩);rintro n y ⟨σ1,Y,z,A⟩;refine wpAny_passesOwn m (AX (t l y σ1 Y _ z (turn n σ1 Y A)) λb B⟨p,q,d⟩=>?_)
 cases b with
 |true=>
  obtain⟨N,r,d⟩:=d;rw[Ag rfl];refine wpAny_passesOwn m (AX (u l B σ1 p _ q d) λf C e=>?_);cases f with|next=>obtain⟨σ3,a,g,i⟩:=e;obtain⟨j,k,w3⟩:=r σ3 a i;exact⟨j,k,σ3,a,g,w3⟩|cont=>obtain⟨σ3,a,g,i⟩:=e;obtain⟨j,k,w3⟩:=r σ3 a i;exact⟨j,k,σ3,a,g,w3⟩|brk=>exact e|ret v=>exact e
 |false=>rw[Ah CA];exact wpAny_execs_nil ⟨σ1,p,q,d⟩
end
structure It where
 go:Nat->Hp->Prop
 yld:Nat->Hp->V->Hp->Prop
 stop:Nat->Hp->Prop
def Dc (X:Cx) (pins:B') (H:Hp) (b:Addr):Prop:=
 H b=none/\b≠X.env.locals/\b∉X.fs/\(b∈X.ex\/X.s₀.heap.objs.size<=b)/\(∀x c,X.env.cells.lookup x=some c->c≠b)/\∀p∈X.pn++pins,p.1≠b
variable {pins:B'}{σ:St}
def Inv.fpOk{H':Hp}(I:Inv X pins σ H s)(a:s.heap.objs.size<=b)(d:H' b=none):Dc X pins H' b:=by refine⟨d,Nat.ne_of_gt (F1 I.lt a),I.nofs a,.inr (FS I.sz a),λx c e z=>?_,λp f z=>?_⟩;obtain⟨v,q⟩:=I.cell x c e;exact absurd (F1 q.lt (by rw[z];exact a)) (HF _);exact absurd (F1 (Bq (I.pin p f).1) (by rw[z];exact a)) (HF _)
structure F4 (P:Program) (w:World) (K:Aj) (tg:Expr) (J:It) (fp:I') (it:Addr) (tn:Nat->Heap->Prop):Prop where
 mem:it∈fp
 obj:∀i h,tn i h->∀b∈fp,∃o,h.get? b=some o/\∀v,o.data≠.cell v
 keep:∀i h h',tn i h->(∀b∈fp,∀o,h.get? b=some o->h'.get? b=some o)->tn i h'
 item:∀(X:Cx),X.prog=P->X.w=w->X.K=K->X.calm=true->∀(i:Nat)(pins:B')(s:Shared)(σ:St)(H:Hp)(E:D'),Inv X pins σ H s->(∀b∈fp,Dc X pins H b)->tn i s.heap->J.go i H ->
  wpAny (model P w) X.A (pyNext (.ref it)) (λr s1=>∃u,r=some u /\
   wpAny (model P w) X.A (letOwnedTupleGo tg (.ref it) u) (λζ s2=>∃x H',Inv X pins σ H' s2/\RelV x u/\J.yld i H x H'/\tn (i+1) s2.heap/\∀b∈fp,H' b=none) E s1) E s
 done:∀(X:Cx),X.prog=P->X.w=w->X.K=K->X.calm=true->∀(i:Nat)(pins:B')(s:Shared)(σ:St)(H:Hp)(E:D'),Inv X pins σ H s->(∀b∈fp,Dc X pins H b)->tn i s.heap->J.stop i H ->
  wpAny (model P w) X.A (pyNext (.ref it)) (λr s1=>r=none/\Inv X pins σ H s1) E s
 self:∀(A:Around)(i:Nat)(s:Shared)(Q:D')(E:D'),tn i s.heap->Q (.ref it) s->wpAny (model P w) A (pyIter (.ref it)) Q E s
abbrev TI:=St->Hp->(It->Hp->Prop)->Prop
def TF (X:Cx) (pins:B') (σ:St) (tg:Expr) (R:It->Hp->Prop) (itv:Value) (s2:Shared):Prop:=
 ∃(it:Addr)(fp:I')(tn:Nat->Heap->Prop)(J:It)(H':Hp),itv=.ref it/\Inv X pins σ H' s2/\F4 X.prog X.w X.K tg J fp it tn/\tn 0 s2.heap/\(∀b∈fp,Dc X pins H' b)/\R J H'
def PI (X:Cx) (tg j:Expr) (wi:TI):Prop:=
 ∀(pins:B')(s:Shared)(σ:St)(H:Hp)(R:It->Hp->Prop),Inv X pins σ H s->wi σ H R ->
  wpAny (model X.prog X.w) X.A (eval j X.env) (λv s1=>wpAny (model X.prog X.w) X.A (pyIter v) (TF X pins σ tg R) X.xe s1) X.xe s
variable {tg:Expr}
def Re{M:Model}{it:Addr}{u:Value}{o:Obj}{n:String}{vs:O'}{Q:Unit->Shared->Prop}(b:s.heap.get? it=some o)(c:o.cls=.type n)(hd:o.data=.fields vs)
 (d:["enumerate", "zip", "dict_itemiterator", "dict_reverseitemiterator", "odict_iterator", "itertools.zip_longest", "itertools.pairwise"].contains n=false) (a:Q () s):wpAny M A (letOwnedTupleGo tg (.ref it) u) Q E s:=by
 unfold letOwnedTupleGo
 cases tg<;>first
  |exact Ax a
  |(cases u<;>first
   |exact Ax a
   | (refine Ad (wpAny_load b ?_)
      rw[c,hd];show wpAny M A (if(["enumerate", "zip", "dict_itemiterator", "dict_reverseitemiterator", "odict_iterator", "itertools.zip_longest", "itertools.pairwise"].contains n && vs[0]?==some (rawInt _))=true then _ else _) Q E s;rw[Ah (by intro h;rw[d,Bool.false_and] at h;cases h)];exact Ax a))
def Oa (K:Aj) (a:Addr):It:=
 ⟨λi H=>∃xs x,Ae K H a xs/\xs[i]?=some x,λi H x H'=>H'=H/\∀xs,Ae K H a xs->xs[i]?=some x,λi H=>∃xs,Ae K H a xs/\xs.length<=i⟩
def Ob (lo:Int) (n:Nat):It:=⟨λi ζ=>i<n,λi H x H'=>H'=H/\x=.int (lo+i),λi ζ=>n<=i⟩
theorem ZS{K:Aj}(a it:Addr):F4 P w K tg (Oa K a) [it] it (λi h=>h.IsListIter it a i) where
 mem:=by simp
 obj:=λi h f b g=>by have e:b=it:=(by simpa using g);subst e;obtain⟨o,e,c,d⟩:=f;exact⟨o,e,λv z=>by rw[d] at z;cases z⟩
 keep:=λi h j f k=>f.at λo e=>k it (by simp) o e
 item:=by intro X n q r J i pins s σ H E I l f t;subst n q r;obtain⟨M,x,m,y⟩:=t;obtain⟨W,A,p,N⟩:=I.list m;obtain⟨u,O,Q⟩:=A.get y;obtain⟨B,C,R,D,F,G⟩:=l it (by simp);refine wpAny_pyNext_list_item f p.isList (x:=u) (by simpa using O) λj L S=>?_;have T:Inv X pins σ H {s with heap:=j}:=I.turned (t':=s.toks) (λb o g e=>(S.2 b g).trans e) B C D F G;obtain⟨o,e,c,d⟩:=id L;exact⟨u,rfl,Re (s:={s with heap:=j}) e c d (by decide) ⟨x,H,T,Q,⟨rfl,λY U=>by rw[I.list_inj U m];exact y⟩,L,λb g=>(l b g).1⟩⟩
 done:=by intro X n q r J i pins s σ H E I l f t;subst n q r;obtain⟨M,m,y⟩:=t;obtain⟨W,A,p,N⟩:=I.list m;obtain⟨B,C,R,D,F,G⟩:=l it (by simp);have Z:=A.length;exact wpAny_pyNext_list_end (I.ok.hd J) f p.isList (by simp;lia) λj V=>⟨rfl,I.turned (t':=s.toks) (λb o g e=>V b o g e) B C D F G⟩
 self:=λζ ζ ζ ζ ζ f h=>wpAny_pyIter_listiter f h
def ZT{K:Aj}(it:Addr)(lo:Int)(n:Nat):F4 P w K tg (Ob lo n) [it] it (λi h=>IsRangeIter h it (lo+(i:Nat)*1) ((n:Int)-(i:Nat)) 1) where
 mem:=by simp
 obj:=λi h a b c=>by
  have e:b=it:=(by simpa using c);subst e
  exact⟨_,a,λv z=>by
   have B:Data.fields _=Data.cell v:=z;cases B⟩
 keep:=λi h d a k=>k it (by simp) _ a
 item:=by intro X g j l m i pins s σ H E I f a p;subst g j l;obtain⟨q,r,C,u,x,y⟩:=f it (by simp);have W:=Walks.range (prog:=X.prog) (w:=X.w) (I.ok.hd m) it lo 1 n;refine W.item i s _ _ p a λv d tk D A L=>?_;obtain⟨t,rfl⟩:=D;have F:Inv X pins σ H {s with heap:=d,toks:=tk}:=I.turned (λb o c e=>L b o (by simpa using c) e) q r u x y;refine⟨_,rfl,Re (s:={s with heap:=d,toks:=tk}) (n:= "range_iterator") A rfl rfl (by decide) ⟨.int (lo+i),H,F,⟨t,?_⟩,⟨rfl,rfl⟩,A,λb c=>(f b c).1⟩⟩;rw[Int.mul_one]
 done:=by intro X g j l m i pins s σ H E I f a p;subst g j l;obtain⟨q,r,C,u,x,y⟩:=f it (by simp);exact wpAny_pyNext_range_end (I.ok.hd m) a (by have:n<=i:=p;lia) λd G=>⟨rfl,I.turned (t':=s.toks) (λb o c e=>G b o c e) q r u x y⟩
 self:=λζ ζ ζ ζ ζ a h=>wpAny_pyIter_rangeiter a h
section
variable {X:Cx} {tg:Expr}
def O9 (K:Aj) (tl:TE):TI:=λσ H R=>tl σ H λx Y=>mR x λa=>(∃xs,Ae K Y a xs)/\R (Oa K a) Y
def DN{l:Expr}{g:TE}(i:PE X l g):PI X tg l (O9 X.K g):=by
 intro pins s σ H R I h;refine AX (i pins s σ H _ I h) λv c⟨x,Y,d,j,f⟩=>?_;replace f:=mR.ex f;obtain⟨a,e,⟨n,k⟩,q⟩:=f;subst e;cases j;obtain⟨u,r,p,t⟩:=d.list k;refine wpAny_pyIter_list p.isList ?_;refine⟨c.heap.objs.size,[c.heap.objs.size],_,_,Y,rfl,d.kept (t':=c.toks) λb o e=>Bb _ e,ZS a _,⟨_,B9 _ rfl,rfl,rfl⟩,λb m=>?_,q⟩;have e:b=c.heap.objs.size:=(by simpa using m);subst e;exact d.fpOk (AF _) (d.hok.fresh (AF _))
def ZU{R:It->Hp->Prop}{lo a:Int}{t u v:Tok}{tk:Nat}(I:Inv X pins σ H s)(d:-(2 ^ 62)<=lo)(f:lo<2 ^ 62)(g:-(2 ^ 62)<=a)(h:a<2 ^ 62)
 (q:R (Ob lo (a-lo).toNat) H):wpAny (model X.prog X.w) X.A (pyIter (.ref s.heap.objs.size)) (TF X pins σ tg R) E {s with heap:=s.heap.push {cls:=.type "range",data:=.fields #[.int lo t,.int a u,.int 1 v]},toks:=tk}:=by
 refine wpAny_pyIter_range (IsRange.new ..) (small_one d f g h) ?_;have c:Inv X pins σ H {s with heap:=s.heap.push {cls:=.type "range",data:=.fields #[.int lo t,.int a u,.int 1 v]},toks:=tk}:=I.kept λb o e=>Bb _ e
 refine⟨(s.heap.push {cls:=.type "range",data:=.fields #[.int lo t,.int a u,.int 1 v]}).objs.size,[(s.heap.push {cls:=.type "range",data:=.fields #[.int lo t,.int a u,.int 1 v]}).objs.size],_,_,H,rfl,
  c.kept (t':=tk) λb o e=>Bb _ e,ZT _ lo (a-lo).toNat,?_,λb i=>?_,q⟩
 have j:lo+((0:Nat):Int)*1=lo:=(by simp);have k:(((a-lo).toNat:Nat):Int)-((0:Nat):Int)=Builtin.Range.rangeSize lo a 1:=by rw[rangeSize_one];split<;>lia
 show IsRangeIter _ _ (lo+((0:Nat):Int)*1) ((((a-lo).toNat:Nat):Int)-((0:Nat):Int)) 1;rw[j,k];exact B9 _ rfl;have e:b=(s.heap.push {cls:=.type "range",data:=.fields #[.int lo t,.int a u,.int 1 v]}).objs.size:=(by simpa using i);subst e;exact c.fpOk (AF _) (c.hok.fresh (AF _))
def Pa (ta:TA):TI:=λσ H R=>ta σ H λvs Y=>mJ vs λj=>-(2 ^ 62)<=j/\j<2 ^ 62/\R (Ob 0 j.toNat) Y
def GD{a:Expr}{c:TA}{p pos:Pos}(d:Gl X "range")(f:X.mg "range" = none)(g:PA X [a] c)(i:starEach [a] X.env=[(false,eval a X.env)]:=by rfl):PI X tg (.Call (.Name "range" p) [a] [] pos) (Pa c):=by
 intro pins s σ H R I h;refine Call_ (Lm I d f boot_range (PyProof.Rows.callWith_type1 (AX (g pos pins s σ H _ I h) λo u⟨v,Y,k,l,b⟩=>?_) i rfl));replace b:=mJ.ex b;obtain⟨j,e,b,m,q⟩:=b;subst e;cases l with|cons r n=>cases n;obtain⟨t,rfl⟩:=r;exact call_range_1 (ZU k (by lia) (by lia) b m (by simpa using q))
def FF (J:It) (g:TG) (tb:TS) (D:Ends) (σ:St) (Y:Hp):Prop:=∃W:Nat->Nat->St->Hp->Prop,(∃m,W 0 m σ Y)/\∀i m σ H,W i m σ H ->
 (J.stop i H/\D.nx σ H)\/(J.go i H/\∃N:St->Hp->Prop,(∀σ' H',N σ' H'->∃m',m'<m/\W (i+1) m' σ' H')/\∀x H',J.yld i H x H'->g x σ H' λσ2 H2=>tb {D with nx:=N,ct:=N,bk:=D.nx} σ2 H2)
def TH (wi:TI) (g:TG) (tb:TS):TS:=λD σ H=>wi σ H λJ Y=>FF J g tb D σ Y
def Pb (fp:I') (h:Heap):B':=fp.filterMap λb=>(h.get? b).map λo=>(b,o)
variable {fp:I'}
def Rf{o:Obj}(a:b∈fp)(e:h.get? b=some o):(b,o)∈Pb fp h:=List.mem_filterMap.mpr ⟨b,a,by rw[e];rfl⟩
def ZV{p:Addr×Obj}(a:p∈Pb fp h):p.1∈fp/\h.get? p.1=some p.2:=by
 obtain⟨b,c,e⟩:=List.mem_filterMap.mp a;cases q:h.get? b with|none=>rw[q] at e;cases e|some o=>rw[q] at e;have d:(b,o)=p:=Bt e;subst d;exact⟨c,q⟩
theorem Inv.pinned(I:Inv X pins σ H s)(f:∀b∈fp,Dc X pins H b)(g:∀b∈fp,∃o,s.heap.get? b=some o/\∀v,o.data≠.cell v):Inv X (pins++Pb fp s.heap) σ H s:=
 I.pins_of λp h=>(B0.mp h).elim (λz=>I.pin p (Db _ z)) λz=>by obtain⟨a,e⟩:=ZV z;obtain⟨i,j,k,_⟩:=f p.1 a;obtain⟨o,c,d⟩:=g p.1 a;rw[e] at c;cases c;exact⟨e,i,j,k,d⟩
theorem Inv.unpinned{a:B'}(I:Inv X (pins++a) σ H s):Inv X pins σ H s:=I.pins_of λp b=>I.pin p (Db _ (Et _ b))
def Dr{j:Expr}{body:List Stmt}{B:TI}{g:TG}{tb:TS}{pos:Pos}(p:PassesOwn (model X.prog X.w) X.A X.env X.xe)(C:X.calm=true)(P:PI X tg j B)(Q:PG X tg g)(a:Gz X body tb)
 (R:∀x,foldedSetIterable j X.env x=pure x:=by intro _;rfl):PS X (.For tg j body [] pos) (TH B g tb):=by
 intro pins s σ H af I h;refine wpAny_For (AX (P pins s σ H _ I h) λv s1 S=>AX S λai s2 U=>?_) R;obtain⟨it,fp,D,ag,V,e,Y,T,aa,E,W,⟨Z,w0⟩,turn⟩:=U;subst e;have A:∀{k:Hp},(∀b∈fp,k b=none)->∀b∈fp,Dc X pins k b:=λhn b a=>⟨hn b a,(E b a).2⟩;refine codeAny_forLoop_any (λn L=>∃i σ' k,Inv X pins σ' k L/\D i L.heap/\(∀b∈fp,k b=none)/\W i n σ' k) ?_ Z ⟨0,σ,V,Y,aa,λb a=>(E b a).1,w0⟩;rintro n F ⟨i,σ3,t,G,M,O,w3⟩;rcases turn i n σ3 t w3 with⟨stop,qn⟩|⟨go,N,hN,step⟩
 . refine wpAny_passesOwn p (AX (T.done X rfl rfl rfl C i pins F σ3 t X.xe G (A O) M stop) λr s4⟨w,I4⟩=>?_)
   subst w;exact wpAny_execs_nil ⟨σ3,t,I4,qn⟩
 . refine wpAny_passesOwn p (AX (T.item X rfl rfl rfl C i pins F σ3 t X.xe G (A O) M go) λr s4⟨u,w,h4⟩=>?_)
   subst w;refine wpAny_passesOwn p (AX h4 λ_ J⟨x,K,I5,r5,y5,z,ab⟩=>?_);have ae:=I5.pinned (A ab) (T.obj _ _ z);refine wpAny_passesOwn p (AX (Q _ J σ3 K x u _ ae r5 (step x K y5)) λ_ s6⟨σ6,H6,I6,q6⟩=>?_);refine wpAny_passesOwn p (AX (a _ s6 σ6 H6 _ I6 q6) λf y l=>?_)
   have again:∀{σ7:St}{c:Hp},Inv X (pins++Pb fp J.heap) σ7 c y->N σ7 c->∃m,m<n/\∃i σ' k,Inv X pins σ' k y/\D i y.heap/\(∀b∈fp,k b=none)/\W i m σ' k:=λ{σ7 c}d q=>by
    obtain⟨m',hm,w7⟩:=hN σ7 c q;refine⟨m',hm,i+1,σ7,c,d.unpinned,T.keep _ _ _ z λb a o e=>(d.pin (b,o) (Db _ (Db _ (Rf a e)))).1,λb a=>?_,w7⟩;obtain⟨o,e,ah⟩:=T.obj _ _ z b a;exact(d.pin (b,o) (Db _ (Db _ (Rf a e)))).2.1
   cases f with|next=>obtain⟨σ7,c,d,q⟩:=l;exact again d q|cont=>obtain⟨σ7,c,d,q⟩:=l;exact again d q|brk=>obtain⟨σ7,c,d,l⟩:=l;exact⟨σ7,c,d.unpinned,l⟩|ret v=>obtain⟨x7,σ7,c,d,r7,l⟩:=l;exact⟨x7,σ7,c,d.unpinned,r7,l⟩
end
variable {g:TG}{tb:TS}{D:Ends}
def Oc{J:It}(n:Nat)(Pv:Nat->St->Hp->Prop)(b:Pv 0 σ H)(go:∀i σ H,Pv i σ H->i<n->J.go i H)(stop:∀σ H,Pv n σ H->J.stop n H)
 (c:∀i v σ H H',Pv i σ H->i<n->J.yld i H v H'->g v σ H' λσ2 d=>tb {D with nx:=Pv (i+1),ct:=Pv (i+1),bk:=D.nx} σ2 d) (hd:∀σ H,Pv n σ H->D.nx σ H):FF J g tb D σ H:=by
 unfold FF;refine⟨λi m σ H=>m=n-i/\i<=n/\Pv i σ H,⟨_,rfl,Dp _,b⟩,?_⟩;rintro i m σ H ⟨rfl,e,p⟩;by_cases a:i<n;exact .inr ⟨go i σ H p a,Pv (i+1),λσ' H' R=>⟨n-(i+1),by lia,rfl,a,R⟩,λv H' y=>c i v σ H H' p a y⟩
 . obtain rfl:i=n:=by lia
   exact .inl ⟨stop σ H p,hd σ H p⟩
def F5{K:Aj}{xs:U'}(Pv:Nat->St->Hp->Prop)(d:Pv 0 σ H)(c:∀i σ H,i<=xs.length->Pv i σ H->Ae K H a xs)
 (e:∀i x σ H,xs[i]?=some x->Pv i σ H->g x σ H λσ2 f=>tb {D with nx:=Pv (i+1),ct:=Pv (i+1),bk:=D.nx} σ2 f) (hd:∀σ H,Pv xs.length σ H->D.nx σ H):FF (Oa K a) g tb D σ H:=Oc xs.length Pv d (λi σ H p b=>⟨xs,xs[i],c i σ H (Cf b) p,by simp[b]⟩) (λσ H p=>⟨xs,c _ σ H (AF _) p,AF _⟩) (λi v σ H h p b y=>by obtain⟨rfl,y⟩:=y;exact e i v σ _ (y xs (c i σ _ (Cf b) p)) p) hd
def Pc{lo:Int}{n:Nat}(Pv:Nat->St->Hp->Prop)(b:Pv 0 σ H)
 (c:∀i σ H,i<n->Pv i σ H->g (.int (lo+i)) σ H λσ2 d=>tb {D with nx:=Pv (i+1),ct:=Pv (i+1),bk:=D.nx} σ2 d) (hd:∀σ H,Pv n σ H->D.nx σ H):FF (Ob lo n) g tb D σ H:=Oc n Pv b (λi σ H p a=>a) (λσ H p=>AF _) (λi v σ H e p a y=>by obtain⟨rfl,rfl⟩:=y;exact c i σ _ a p) hd
abbrev R2:=V->V->Hp->VK->Prop
def DS (X:Cx) (f:Value->Value->Sem Value) (r:R2):Prop:=
 ∀(pins:B')(s:Shared)(σ:St)(H:Hp)(x y:V)(v u:Value)(Q:VK),Inv X pins σ H s->RelV x v->RelV y u->r x y H Q ->
  wpAny (model X.prog X.w) X.A (f v u) (EP X pins σ Q) X.xe s
def Rh (X:Cx) (f:Value->Sem Value) (r:V->Hp->VK->Prop):Prop:=
 ∀(pins:B')(s:Shared)(σ:St)(H:Hp)(x:V)(v:Value)(Q:VK),Inv X pins σ H s->RelV x v->r x H Q ->
  wpAny (model X.prog X.w) X.A (f v) (EP X pins σ Q) X.xe s
def Bc (X:Cx) (f:Value) (r:U'->Hp->VK->Prop):Prop:=
 ∀(pins:B')(s:Shared)(σ:St)(H:Hp)(xs:U')(us:G')(Q:VK),Inv X pins σ H s->Av xs us->r xs H Q ->
  wpAny (model X.prog X.w) X.A (call f us) (EP X pins σ Q) X.xe s
def TJ (X:Cx) (r:V->Hp->(Bool->Hp->Prop)->Prop):Prop:=
 ∀(pins:B')(s:Shared)(σ:St)(H:Hp)(x:V)(v:Value)(Q:Bool->Hp->Prop),Inv X pins σ H s->RelV x v->r x H Q ->
  wpAny (model X.prog X.w) X.A (truthy v) (TP X pins σ Q) X.xe s
def Ct (r:R2) (ta tb:TE):TE:=λσ H Q=>ta σ H λx Y=>tb σ Y λy H2=>r x y H2 Q
def ZW (r:V->Hp->VK->Prop) (ta:TE):TE:=λσ H Q=>ta σ H λx Y=>r x Y Q
def rI (C:Int->Int->Prop) (g:Int->Int->V):R2:=λx y H Q=>GV x y λi j=>C i j/\Q (g i j) H
def GF (g:Int->Int->V):R2:=λx y H Q=>GV x y λi j=>Q (g i j) H
def rU (g:Int->V):V->Hp->VK->Prop:=λx H Q=>mI x λi=>Q (g i) H
section
variable {X:Cx} {a b c:Expr} {ta tb tc:TE} {pos:Pos}
variable {f:Value->Value->Sem Value}
def Mr(e:PE X a ta)(g:PE X b tb){R:V->V->Hp->Prop}(I:Inv X pins σ H s)
 (h:ta σ H λx Y=>tb σ Y λy c=>R x y c) {Q:D'} (i:∀v u d x y c,Inv X pins σ c d->RelV x v->RelV y u->R x y c->wpAny (model X.prog X.w) X.A (f v u) Q X.xe d) :
 wpAny (model X.prog X.w) X.A (eval a X.env) (λv j=>wpAny (model X.prog X.w) X.A (eval b X.env) (λu k=>wpAny (model X.prog X.w) X.A (f v u) Q X.xe k) X.xe j) X.xe s:=by
 refine AX (e pins s σ H _ I h) λv l⟨x,Y,m,n,o⟩=>?_;refine AX (g pins l σ Y _ m o) λu d⟨y,c,p,q,r⟩=>?_;exact i v u d x y c p n q r
def A2{op:Operator}{r:R2}(c:DS X (binaryOp op) r)(d:PE X a ta)(e:PE X b tb):PE X (.BinOp a op b pos) (Ct r ta tb):=by intro pins s σ H Q I h;exact wpAny_BinOp (Mr d e I h λv u f x y g i j k q=>c pins f σ g x y v u Q i j k q)
def GG{op:UnaryOp}{r:V->Hp->VK->Prop}(b:Rh X (unaryOp op) r)(c:PE X a ta):PE X (.UnaryOp op a pos) (ZW r ta):=by intro pins s σ H Q I h;exact UnaryOp_ (AX (c pins s σ H _ I h) λv d⟨x,Y,e,f,g⟩=>b pins d σ Y x v Q e f g)
def TL{C:Int->Int->Prop}{g:Int->Int->Int}
 (e:∀(i j:Int)(t u:Tok)(s:Shared)(Q:D')(E:D'),C i j->Q (.int (g i j) s.toks) {s with toks:=s.toks+1}->wpAny (model X.prog X.w) X.A (f (.int i t) (.int j u)) Q E s) :
 DS X f (rI C λi j=>.int (g i j)):=by
 intro pins s σ H x y v u Q I a b h;replace h:=GV.ex h;obtain⟨i,j,rfl,rfl,c,q⟩:=h;obtain⟨t,rfl⟩:=a;obtain⟨d,rfl⟩:=b;exact e i j t d s _ _ c ⟨.int (g i j),H,I.tok _,⟨_,rfl⟩,q⟩
def Ms{g:Int->Int->Int}
 (d:∀(i j:Int)(t u:Tok)(s:Shared)(Q:D')(E:D'),Q (.int (g i j) s.toks) {s with toks:=s.toks+1}->wpAny (model X.prog X.w) X.A (f (.int i t) (.int j u)) Q E s) :
 DS X f (GF λi j=>.int (g i j)):=by
 intro pins s σ H x y v u Q I a b h;replace h:=GV.ex h;obtain⟨i,j,rfl,rfl,q⟩:=h;obtain⟨t,rfl⟩:=a;obtain⟨c,rfl⟩:=b;exact d i j t c s _ _ ⟨.int (g i j),H,I.tok _,⟨_,rfl⟩,q⟩
def Mt{g:Int->Int->Bool}
 (d:∀(i j:Int)(t u:Tok)(s:Shared)(Q:D')(E:D'),Q (.bool (g i j)) s->wpAny (model X.prog X.w) X.A (f (.int i t) (.int j u)) Q E s) :
 DS X f (GF λi j=>.bl (g i j)):=by
 intro pins s σ H x y v u Q I a b h;replace h:=GV.ex h;obtain⟨i,j,rfl,rfl,q⟩:=h;obtain⟨t,rfl⟩:=a;obtain⟨c,rfl⟩:=b;exact d i j t c s _ _ ⟨.bl (g i j),H,I,rfl,q⟩
def TM (i j:Int):Prop:=0<j/\j<1073741824
def JM (i j:Int):Prop:=(-(2 ^ 64)<i/\i<2 ^ 64)\/(-(2 ^ 64)<j/\j<2 ^ 64)
def JM.ok{i j:Int}(h:JM i j):IntMulOk i j:=by rcases h with⟨a,b⟩|⟨a,b⟩;exact .of_left (intBits_le_64 a b);exact .of_right (intBits_le_64 a b)
def F6:DS X (binaryOp .Add) (GF λi j=>.int (i+j)):=Ms λζ ζ ζ ζ ζ ζ ζ q=>add_int q
def TN:DS X (binaryOp .Sub) (GF λi j=>.int (i-j)):=Ms λζ ζ ζ ζ ζ ζ ζ q=>sub_int q
def He:DS X (binaryOp .Mult) (rI JM λi j=>.int (i*j)):=TL λζ ζ ζ ζ ζ ζ ζ a q=>mul_int q a.ok
def Jk:DS X (binaryOp .FloorDiv) (rI TM λi j=>.int (i/j)):=TL λi j ζ ζ ζ ζ ζ a q=>by have b:(0:Int)<j:=a.1;have c:j<1073741824:=a.2;exact floordiv_int (by lia) (by rw[Int.fdiv_eq_ediv_of_nonneg i (by lia)];exact q) (.inl (PyProof.noPylong_small (by lia)))
def DO:DS X (binaryOp .Mod) (rI (λζ j=>0<j) λi j=>.int (i%j)):=TL λi j ζ ζ ζ ζ ζ a q=>by have b:(0:Int)<j:=a;exact mod_int' (by lia) (by rw[Int.fmod_eq_emod_of_nonneg i (by lia)];exact q)
def WB:DS X (inplaceOp .Add) (GF λi j=>.int (i+j)):=Ms λζ ζ ζ ζ ζ ζ ζ q=>iadd_int q
def ZX{f:Value->Sem Value}{g:Int->Int}
 (b:∀(i:Int)(t:Tok)(s:Shared)(Q:D')(E:D'),Q (.int (g i) s.toks) {s with toks:=s.toks+1}->wpAny (model X.prog X.w) X.A (f (.int i t)) Q E s) :
 Rh X f (rU λi=>.int (g i)):=by
 intro pins s σ H x v Q I a h;replace h:=mI.ex h;obtain⟨i,rfl,q⟩:=h;obtain⟨t,rfl⟩:=a;exact b i t s _ _ ⟨.int (g i),H,I.tok _,⟨_,rfl⟩,q⟩
def GH:Rh X (unaryOp .USub) (rU λi=>.int (-i)):=ZX λζ ζ ζ ζ ζ q=>neg_int q
end
def Mu:V->V->Bool
 |.non,.non=>true|.non,.int _=>true|.int _,.non=>true|.non,.bl _=>true|.bl _,.non=>true|.non,.str _=>true|.str _,.non=>true
 |.int _,.int _=>true|.bl _,.bl _=>true|.str _,.str _=>true|.byt _,.byt _=>true
 |.int _,.str _=>true|.str _,.int _=>true|.bl _,.str _=>true|.str _,.bl _=>true
 |_,_=>false
def ZY:R2:=λx y H Q=>Mu x y=true/\Q (.bl (decide (x=y))) H
def TR:R2:=λx y H Q=>Mu x y=true/\Q (.bl (!decide (x=y))) H
def WC{i j:Int}:decide (V.int i=V.int j)=(i==j):=by
 rw[Bool.eq_iff_iff];simp
def HN{i j:Bool}:decide (V.bl i=V.bl j)=(i==j):=by
 rw[Bool.eq_iff_iff];simp
def WD{i j:Str}:decide (V.str i=V.str j)=(i==j):=by
 rw[Bool.eq_iff_iff];simp
def WE{i j:Array UInt8}:decide (V.byt i=V.byt j)=(i.toList==j.toList):=by
 rw[Bool.eq_iff_iff];cases i;cases j;simp
section
variable {X:Cx} {a b c:Expr} {ta tb tc:TE} {pos:Pos}
def Dm{Q:VK}{k a:Bool}(I:Inv X pins σ H s)(q:Q (.bl k) H)(e:k=a):EP X pins σ Q (.bool a) s:=by subst e;exact⟨.bl k,H,I,rfl,q⟩
def Dd:DS X (compareOp .Eq) ZY:=by
 intro pins s σ H x y v u Q I d a h;obtain⟨c,q⟩:=h
 cases x with
 |non=>
  cases d;cases y with|non=>cases a;exact PySem.EqNone.eq_none_none (Dm I q (by simp))|bl j=>cases a;exact PySem.EqNone.eq_none_bool (Dm I q (by simp))|int j=>obtain⟨b,rfl⟩:=a;exact PySem.EqNone.eq_none_int (Dm I q (by simp))|str j=>obtain⟨b,rfl⟩:=a;exact PySem.EqNone.eq_none_str (Dm I q (by simp))|_=>exact absurd (show false=true from c) CA
 |bl i=>
  cases d;cases y with|non=>cases a;exact PySem.EqNone.eq_bool_none (Dm I q (by simp))|bl j=>cases a;exact eq_bool (Dm I q HN)|str j=>obtain⟨b,rfl⟩:=a;exact PySem.EqMixed.eq_bool_str (Dm I q (by simp))|_=>exact absurd (show false=true from c) CA
 |int i=>
  obtain⟨t,rfl⟩:=d;cases y with|non=>cases a;exact PySem.EqNone.eq_int_none (Dm I q (by simp))|int j=>obtain⟨b,rfl⟩:=a;exact eq_int (Dm I q WC)|str j=>obtain⟨b,rfl⟩:=a;exact PySem.EqMixed.eq_int_str (Dm I q (by simp))|_=>exact absurd (show false=true from c) CA
 |str i=>
  obtain⟨t,rfl⟩:=d;cases y with|non=>cases a;exact PySem.EqNone.eq_str_none (Dm I q (by simp))|bl j=>cases a;exact PySem.EqMixed.eq_str_bool (Dm I q (by simp))|int j=>obtain⟨b,rfl⟩:=a;exact PySem.EqMixed.eq_str_int (Dm I q (by simp))|str j=>obtain⟨b,rfl⟩:=a;exact eq_str (Dm I q WD)|_=>exact absurd (show false=true from c) CA
 |byt i=>
  obtain⟨t,rfl⟩:=d;cases y with|byt j=>obtain⟨b,rfl⟩:=a;exact PySem.W.eq_bytes (Dm I q WE)|_=>exact absurd (show false=true from c) CA
 |_=>cases y<;>exact absurd (show false=true from c) CA
def JN:DS X (compareOp .NotEq) TR:=by
 intro pins s σ H x y v u Q I d a h;obtain⟨c,q⟩:=h
 cases x with
 |non=>
  cases d;cases y with|non=>cases a;exact PySem.EqNone.ne_none_none (Dm I q (by simp))|bl j=>cases a;exact PySem.EqNone.ne_none_bool (Dm I q (by simp))|int j=>obtain⟨b,rfl⟩:=a;exact PySem.EqNone.ne_none_int (Dm I q (by simp))|str j=>obtain⟨b,rfl⟩:=a;exact PySem.EqNone.ne_none_str (Dm I q (by simp))|_=>exact absurd (show false=true from c) CA
 |bl i=>
  cases d;cases y with|non=>cases a;exact PySem.EqNone.ne_bool_none (Dm I q (by simp))|bl j=>cases a;exact ne_bool (Dm I q (Bw not HN))|str j=>obtain⟨b,rfl⟩:=a;exact PySem.EqMixed.ne_bool_str (Dm I q (by simp))|_=>exact absurd (show false=true from c) CA
 |int i=>
  obtain⟨t,rfl⟩:=d;cases y with|non=>cases a;exact PySem.EqNone.ne_int_none (Dm I q (by simp))|int j=>obtain⟨b,rfl⟩:=a;exact ne_int (Dm I q (Bw not WC))|str j=>obtain⟨b,rfl⟩:=a;exact PySem.EqMixed.ne_int_str (Dm I q (by simp))|_=>exact absurd (show false=true from c) CA
 |str i=>
  obtain⟨t,rfl⟩:=d;cases y with|non=>cases a;exact PySem.EqNone.ne_str_none (Dm I q (by simp))|bl j=>cases a;exact PySem.EqMixed.ne_str_bool (Dm I q (by simp))|int j=>obtain⟨b,rfl⟩:=a;exact PySem.EqMixed.ne_str_int (Dm I q (by simp))|str j=>obtain⟨b,rfl⟩:=a;exact ne_str (Dm I q (Bw not WD))|_=>exact absurd (show false=true from c) CA
 |byt i=>
  obtain⟨t,rfl⟩:=d;cases y with|byt j=>obtain⟨b,rfl⟩:=a;exact PySem.W.ne_bytes (Dm I q (Bw not WE))|_=>exact absurd (show false=true from c) CA
 |_=>cases y<;>exact absurd (show false=true from c) CA
def Ri:DS X (compareOp .Lt) (GF λi j=>.bl (decide (i<j))):=Mt λζ ζ ζ ζ ζ ζ ζ q=>lt_int q
def Lp:DS X (compareOp .Gt) (GF λi j=>.bl (decide (j<i))):=Mt λζ ζ ζ ζ ζ ζ ζ q=>gt_int q
def HP:DS X (compareOp .GtE) (GF λi j=>.bl (decide (j<=i))):=Mt λζ ζ ζ ζ ζ ζ ζ q=>ge_int q
variable {op:CmpOp}
def BJ(b:Expr)(h:op≠.In:=by decide)(a:op≠.NotIn:=by decide):behindInMarks op b=false:=by
 have c:(op==CmpOp.In)=false:=by cases op<;>first|rfl|exact absurd rfl h
 have d:(op==CmpOp.NotIn)=false:=by cases op<;>first|rfl|exact absurd rfl a
 cases b<;>simp[behindInMarks,c,d]
def Jl{r:R2}(c:DS X (compareOp op) r)(d:PE X a ta)(e:PE X b tb)(f:behindInMarks op b=false):PE X (.Compare a [op] [b] pos) (Ct r ta tb):=by intro pins s σ H Q I h;exact wpAny_Compare1 (Mr d e I h λv u g x y i j k l q=>c pins g σ i x y v u Q j k l q) f
def Pd (t:TE):TT:=λσ H Q=>t σ H λx H'=>mB x λk=>Q k H'
def BU{r:R2}(f:DS X (compareOp op) r)(g:PE X a ta)(i:PE X b tb)(j:behindInMarks op b=false):PT X (.Compare a [op] [b] pos) (Pd (Ct r ta tb)):=by
 intro pins s σ H Q I h
 refine wpAny_isTrue_Compare1 (AX (g pins s σ H _ I h) λv l⟨x,Y,m,n,o⟩=>AX (i pins l σ Y _ m o) λu p⟨y,q,t,w,A⟩ =>
  AX (f pins p σ q x y v u _ t n w A) λc E⟨z,B,C,D,d⟩=>?_) j
 replace d:=mB.ex d;obtain⟨k,e,d⟩:=d;subst e;cases D;exact Gw ⟨B,C,d⟩
def TU (K:Aj) (x:V) (H:Hp) (k:Bool):Prop:=
 match x with
 |.non=>k=false
 |.bl b=>k=b
 |.int i=>k=(i != 0)
 |.str y=>y.length<=sizeLine/\k=((y.length:Int) != 0)
 |.byt y=>y.size<=sizeLine/\k=((y.size:Int) != 0)
 |.ref p=>(∃xs,Ae K H p xs/\k=!xs.isEmpty)\/(∃xs,Ar K H p xs/\k=!xs.isEmpty)\/∃kvs,H p=some (.dK kvs)/\k=!kvs.isEmpty
 |_=>False
def ZZ{κ:Type}{a:List (κ×V)}{vs:List (κ×Value)}(r:KV a vs):(!vs.isEmpty)=!a.isEmpty:=by cases r<;>rfl
def WF{xs:U'}{a:G'}(r:Av xs a):(!a.toArray.isEmpty)=!xs.isEmpty:=by cases r<;>simp
def Mv:(sizeLine:Nat)<2 ^ 63:=by rw[sizeLine_eq];decide
def Mw:TJ X (λx H Q=>∃k,TU X.K x H k/\Q k H):=by
 intro pins s σ H x v Q I d h;obtain⟨k,e,q⟩:=h;have A:=Mv;have B:sizeLine=16777216:=sizeLine_eq
 cases x with
 |non=>cases d;have a:k=false:=e;subst a;exact truthy_none ⟨H,I,q⟩
 |bl b=>cases d;have a:k=b:=e;subst a;exact Gw ⟨H,I,q⟩
 |int i=>obtain⟨t,rfl⟩:=d;have a:k=(i != 0):=e;subst a;exact PySem.P.truthy_int ⟨H,I,q⟩
 |str y=>obtain⟨t,rfl⟩:=d;obtain⟨u,a⟩:y.length<=sizeLine/\k=((y.length:Int) != 0):=e;subst a;exact PySem.P.truthy_str (by lia) ⟨H,I.tok _,q⟩
 |byt y=>obtain⟨t,rfl⟩:=d;obtain⟨u,a⟩:y.size<=sizeLine/\k=((y.size:Int) != 0):=e;subst a;exact PySem.W.truthy_bytes (by lia) ⟨H,I.tok _,q⟩
 |ref p=>cases d;have a:(∃c,Ae X.K H p c/\k=!c.isEmpty)\/(∃c,Ar X.K H p c/\k=!c.isEmpty)\/∃f,H p=some (.dK f)/\k=!f.isEmpty:=e;rcases a with⟨c,g,a⟩|⟨c,g,a⟩|⟨f,g,a⟩;subst a;obtain⟨z,r,l,n⟩:=I.list g;have o:=r.length;exact wpAny_truthy_list l.isList (by simp only[Co];lia) ⟨H,I.tok _,by rw[WF r];exact q⟩;subst a;obtain⟨z,r,l,n⟩:=I.tuple g;have o:=r.length;exact truthy_tuple l (by simp only[Co];lia) ⟨H,I.tok _,by rw[WF r];exact q⟩;subst a;obtain⟨n,w,j,r,m⟩:f.length<=sizeLine/\(p==sysModules)=false/\∃j,KV f j/\s.heap.DictOf (EC X.prog X.w) p j:=I.hok p _ g;have o:f.length=j.length:=Paired.length r;exact wpAny_truthy_dict w m (by lia) ⟨H,I.tok _,by rw[ZZ r];exact q⟩
 |_=>exact(show False from e).elim
def WG:DS X (binaryOp .Add) (λx y H Q=>∃i j,x=.str i/\y=.str j/\i.length+j.length<=sizeLine/\Q (.str (i++j)) H):=by intro pins s σ H x y v u Q I a b h;obtain⟨i,j,rfl,rfl,c,q⟩:=h;obtain⟨t,rfl⟩:=a;obtain⟨d,rfl⟩:=b;exact add_str (λd tk=>⟨.str (i++j),H,I.tok _,⟨_,rfl⟩,q⟩) c
def FG{us:G'}(r:Av [x] us):∃u,us=[u]/\RelV x u:=by
 cases r with|cons a b=>cases b;exact⟨_,rfl,a⟩
def Lq{y:V}{us:G'}(r:Av [x,y] us):∃u a,us=[u,a]/\RelV x u/\RelV y a:=by
 cases r with
 |cons b c=>
  cases c with|cons d e=>cases e;exact⟨_,_,rfl,b,d⟩
def Pe:Bc X (.type "int") (λxs H Q=>(∃i,xs=[.int i]/\Q (.int i) H)\/∃k,xs=[.bl k]/\Q (.int (if k then 1 else 0)) H):=by
 intro pins s σ H xs b Q I r h;rcases h with⟨i,rfl,q⟩|⟨k,rfl,q⟩;obtain⟨u,rfl,t,rfl⟩:=FG r;exact call_int_int ⟨.int i,H,I,⟨_,rfl⟩,q⟩;obtain⟨u,rfl,a⟩:=FG r;cases a;exact call_int_bool ⟨.int (if k then 1 else 0),H,I.tok _,⟨_,rfl⟩,q⟩
def TV (K:Aj) (x:V) (H:Hp) (n:Nat):Prop:=
 match x with
 |.str y=>y.length<=sizeLine/\n=y.length
 |.byt y=>y.size<=sizeLine/\n=y.size
 |.ref p=>(∃xs,Ae K H p xs/\n=xs.length)\/∃xs,Ar K H p xs/\n=xs.length
 |_=>False
def F7:Bc X (.builtin "len") (λxs H Q=>mL xs λx n=>TV X.K x H n/\Q (.int n) H):=by
 intro pins s σ H xs l Q I r h;replace h:=mL.ex h;obtain⟨x,n,rfl,e,q⟩:=h;obtain⟨u,rfl,b⟩:=FG r;have m:=Mv;have o:sizeLine=16777216:=sizeLine_eq
 cases x with
 |str y=>obtain⟨t,rfl⟩:=b;obtain⟨i,a⟩:y.length<=sizeLine/\n=y.length:=e;subst a;exact len_str (by lia) ⟨.int _,H,I.tok _,⟨_,rfl⟩,q⟩
 |byt y=>obtain⟨t,rfl⟩:=b;obtain⟨i,a⟩:y.size<=sizeLine/\n=y.size:=e;subst a;exact PySem.W.len_bytes (by lia) ⟨.int _,H,I.tok _,⟨_,rfl⟩,q⟩
 |ref p=>cases b;have a:(∃xs,Ae X.K H p xs/\n=xs.length)\/∃xs,Ar X.K H p xs/\n=xs.length:=e;rcases a with⟨xs,c,a⟩|⟨xs,c,a⟩;subst a;obtain⟨k,d,f,j⟩:=I.list c;have g:=d.length;exact Calls.call_len_list f.isList (by simp only[Co];lia) ⟨.int xs.length,H,I.tok _,⟨_,by simp only[Co];rw[g]⟩,q⟩;subst a;obtain⟨k,d,f,j⟩:=I.tuple c;have g:=d.length;exact len_tuple f (by simp only[Co];lia) ⟨.int xs.length,H,I.tok _,⟨_,by simp only[Co];rw[g]⟩,q⟩
 |_=>exact(show False from e).elim
end
section
variable {prog:Program} {w:World} {A:Around} {E:D'} {s:Shared} {K:Aj} {x dx C f:Addr} {mA:Str->L'} {name:Str} {v:Value}
end
def El.some_of{v:V}{o:L'}(r:El (some v) o):∃u,o=some u/\RelV v u:=by
 cases o with|none=>exact(show False from r).elim|some u=>exact⟨u,rfl,r⟩
section
variable {P:Program} {w:World} {H H':Hp} {h h':Heap} {a C dx:Addr} {fs fs':List (Str×V)}
end
section
variable {X:Cx} {pins:B'} {σ:St} {H:Hp} {s:Shared} {a C dx:Addr} {fs:List (Str×V)} {f:Str} {v:V} {A:Around} {E:D'}
end
section
variable {X:Cx} {o e d:Expr} {f:Str} {pos t j:Pos} {ta J:TE}
end
section
variable {X:Cx} {pins:B'} {σ:St} {H:Hp} {s:Shared} {A:Around} {E:D'} {Q:D'} {c:Value} {b:Bool}
end
structure B2 (k:Nat) (A:Around):Prop where
 hd:A.handled=none
 dp:A.depth+3*k+5<recursionLimit
 un:A.units+16*k+200<cLine
def B2.mono{j k:Nat}(r:B2 k A)(h:j<=k):B2 j A:=⟨r.hd,by have:=r.dp;lia,by have:=r.un;lia⟩
def B2.deeper{k:Nat}{A:Around}(r:B2 (k+1) A)(env:Env):B2 k (A.deeper env):=
 ⟨r.hd,by have:=r.dp;show A.depth+1+3*k+5<_;lia,by have:=r.un;show A.units+3+16*k+200<_;lia⟩
def B2.depth{k:Nat}{A:Around}(r:B2 k A):A.depth<recursionLimit:=by have:=r.dp;lia
def B2.units{k:Nat}{A:Around}(r:B2 k A):A.units+64<cLine:=by have:=r.un;lia
def B3:TA:=λ_ H Q=>Q [] H
def Cu (ta:TE) (tr:TA):TA:=λσ H Q=>ta σ H λx Y=>tr σ Y λxs H2=>Q (x::xs) H2
section
variable {X:Cx} {e:Expr} {es:P'} {te:TE} {t:TA} {pos:Pos}
def Af:PA X [] B3:=λ_ _ _ _ H Q I h=>Calls.spliced_nil ⟨[],H,I,.nil,h⟩
def Ab(a:PE X e te)(b:PA X es t)(c:starEach (e::es) X.env=(false,eval e X.env)::starEach es X.env:=by rfl):PA X (e::es) (Cu te t):=by intro pos pins s σ H Q I h;rw[c];show wpAny _ _ (spliced ((false,eval e X.env)::backTo pos (starEach es X.env))) _ _ s;refine Calls.spliced_cons (AX (a pins s σ H _ I h) λu d⟨x,Y,f,g,i⟩=>?_);exact AX (b pos pins d σ Y _ f i) λo p⟨j,k,l,m,n⟩=>⟨x::j,k,l,.cons g m,n⟩
def F8 (t:TA):TE:=λσ H Q=>t σ H λxs Y=>xs.length<=sizeLine/\∀p,Y p=none->Q (.ref p) (upd Y p (.tup xs))
def FH (t:TA):TE:=λσ H Q=>t σ H λxs Y=>xs.length<=sizeLine/\∀p,Y p=none->Q (.ref p) (upd Y p (.lst xs))
def Bl{d}(h:PA X es t):PE X (.Tuple es d pos) (F8 t):=by intro pins s σ H Q I f;refine wpAny_Tuple_spliced (AX (h pos pins s σ H _ I f) λg a⟨i,Y,c,r,z,q⟩=>⟨by rw[<-r.length];exact z,?_⟩);have j:Y a.heap.objs.size=none:=c.hok.fresh (AF _);refine⟨.ref a.heap.objs.size,upd Y a.heap.objs.size (.tup i),c.laid (t':=a.toks) (λb u e=>Bb _ e) (AF _) ?_,rfl,q _ j⟩;exact⟨z,g,r,⟨_,B9 _ rfl,rfl,_,rfl⟩⟩
def BV(h:PA X es t):PE X (.List es pos) (FH t):=by intro pins s σ H Q I d;refine wpAny_List_spliced (AX (h pos pins s σ H _ I d) λf a⟨g,Y,c,r,z,q⟩=>⟨by rw[<-r.length];exact z,?_⟩);have i:Y a.heap.objs.size=none:=c.hok.fresh (AF _);refine⟨.ref a.heap.objs.size,upd Y a.heap.objs.size (.lst g),c.laid (t':=a.toks) (λb u e=>Bb _ e) (AF _) ?_,rfl,q _ i⟩;exact⟨z,f,0,r,B9 _ rfl⟩
end
abbrev Sp:=List V->Hp->VK->XK->Prop
abbrev HQ:=List Env->Hp->Shared->XK->Value->Shared->Prop
structure JO (P:Program) (w:World) (K:Aj) (mg:Str->L') (base:Heap) (A:Around) (outer:List Env) (s:Shared) (H:Hp):Prop where
 frames:A.frames=some outer
 mod:Mod K mg base
 bs:∀b o,base.get? b=some o->s.heap.get? b=some o/\H b=none
 bsz:base.objs.size<=s.heap.objs.size
 funs:s.heap.FunFrames base outer
 frf:∀b∈Fb outer,H b=none
 hok:CY P w H s.heap
 bare:AllBare s.gens
def CE (outer:List Env) (P:Program) (w:World) (H:Hp) (s:Shared) (Q:VK) (u:Value) (L:Shared):Prop:=
 ∃v H',L.os=s.os/\AllBare L.gens/\Un (Fb outer) [] H H' s.heap L.heap/\CY P w H' L.heap/\RelV v u/\Q v H'
def CR (CX:HQ) (outer:List Env) (P:Program) (w:World) (H:Hp) (s:Shared) (Q:VK) (E:XK) (r:Result) (L:Shared):Prop:=
 match r with
 |.ok (.ret u)=>CE outer P w H s Q u L
 |.ok _=>False
 |.error e=>CX outer H s E e L
structure ED (P:Program) (w:World) (K:Aj) (mg:Str->L') (base:Heap) (CX:HQ) (k:Nat) (f:Addr) (fd:FuncData) (ps:J') (sp:Sp):Prop where
 len:∀vs H Q E,sp vs H Q E->vs.length=ps.length
 run:∀(A:Around)(outer:List Env)(s:Shared)(H:Hp)(args:Args)(us:G')(vs:U')(Q:VK)(E:XK),B2 k A->JO P w K mg base A outer s H->BindsTo s fd args (ps.zip us)->Av vs us->sp vs H Q E ->
  codeAny (model P w) A (.call (.ref f) args) (CR CX outer P w H s Q E) s
section
variable {X:Cx} {pins:B'} {σ:St} {H:Hp} {s L:Shared}
def Inv.env0(I:Inv X pins σ H s):JO X.prog X.w X.K X.mg X.base X.A X.stack s H:=
 ⟨I.ok.frames,I.ok.mod,I.bs,FS I.ok.bsz I.sz,I.stack,I.stkFree,I.hok,I.bare⟩
def Inv.after{Q:VK}{u:Value}(I:Inv X pins σ H s)(h:CE X.stack X.prog X.w H s Q u L):EP X pins σ Q u L:=by obtain⟨v,a,c,j,un,f,r,q⟩:=h;obtain⟨e,g,d,t,i⟩:=L;obtain rfl:i=s.os:=c;exact⟨v,a,I.call (h':=e) (g':=g) (d':=d) (t':=t) (ch:=[]) un f j (λb z=>absurd z (by simp)),r,q⟩
end
def HS (sp:Sp) (c:U') (E:XK) (t:TA):TE:=λσ H Q=>t σ H λvs Y=>sp (vs++c) Y Q E
def Binds (K:Aj) (fd:FuncData) (ps:J') (ds:G'):Prop:=
 ∀(s:Shared)(us:G'),K.In s.heap->(us++ds).length=ps.length->BindsTo s fd ⟨us,[]⟩ (ps.zip (us++ds))
variable {ps:J'}
def Binds.all{K:Aj}{fd:FuncData}(h:∀us:G',us.length=ps.length->bindArgs fd ⟨us,[]⟩=pure (ps.zip us)):Binds K fd ps []:=λs us _ a=>by rw[FA] at a ⊢;exact .of_eq (h us a)
def TX (CX:HQ) (X:Cx) (E:XK):Prop:=∀(pins:B')(σ:St)(H:Hp)(s:Shared)(e:Value)(L:Shared),Inv X pins σ H s->CX X.stack H s E e L->X.xe e L
section
variable {X:Cx} {CX:HQ} {k:Nat} {f C:Addr} {fd:FuncData} {ps:J'} {sp:Sp} {c:U'} {ds:G'} {E:XK} {x m:Str} {p pos apos:Pos} {e o:Expr} {es:P'} {ta:TE} {t:TA}
def Mx{Q:VK}{us:G'}{vs:U'}(F:ED X.prog X.w X.K X.mg X.base CX k f fd ps sp)(d:B2 k X.A)(g:Binds X.K fd ps ds)(hd:Av c ds)(i:TX CX X E)
 (I:Inv X pins σ H s) (r:Av vs us) (h:sp (vs++c) H Q E):wpAny (model X.prog X.w) X.A (call (.ref f) us) (EP X pins σ Q) X.xe s:=by
 have b:Av (vs++c) (us++ds):=r.append hd;have j:(us++ds).length=ps.length:=by rw[<-b.length];exact F.len _ _ _ _ h
 refine wpAny_call (codeAny_mono (F.run X.A X.stack s H ⟨us,[]⟩ (us++ds) (vs++c) Q E d I.env0 (g s us I.kIn j) b h) λr L a=>?_)
 cases r with
 |error e=>exact i pins σ H s e L I a
 |ok l=>
  cases l with|ret u=>exact I.after a|next=>exact False.elim a|brk=>exact False.elim a|cont=>exact False.elim a
def JP(F:ED X.prog X.w X.K X.mg X.base CX k f fd ps sp)(b:B2 k X.A)(d:Gl X x)(g:X.mg x=some (.ref f))(i:PySem.W.keepIn X.K (.ref f)=true)(j:Binds X.K fd ps ds)(hd:Av c ds)(l:TX CX X E)
 (m:PA X (e::es) t) (o:(x==o9)=false:=by decide) (n:starEach (e::es) X.env=(false,eval e X.env)::starEach es X.env:=by rfl) (u:(backTo pos (starEach es X.env)).any (·.1)=false:=by rfl) :
 PE X (.Call (.Name x p) (e::es) [] pos) (HS sp c E t):=by
 intro pins s σ H Q I h;refine wpAny_Call_Name_kw (Wy I d g ?_ o);refine PySem.W.callWith_K (h₀:=X.base) I.ok.mod.kin i (AX (m pos pins s σ H _ I h) λv w⟨y,Y,a,r,q⟩=>⟨a.kIn,?_⟩) n u;exact Mx F b j hd l a r q
end
section
variable {X:Cx} {CX:HQ} {k:Nat} {f C:Addr} {fd:FuncData} {ps ks:J'} {sp:Sp} {E:XK} {x m:Str} {p pos apos kpos:Pos} {e o:Expr} {es:P'} {kws:List Keyword} {te ta:TE} {t tk:TA} {nm:Option Str}
variable {g:G'->G'->G'} {gV:U'->U'->U'}
end
structure Ai (N P:J') (sc:Scope):Prop where
 kind:sc.kind=.function
 co:sc.isCoroutine=false
 gen:sc.isGenerator=false
 nd:N.Nodup
 pre:N.take P.length=P
 par:∀x∈P,sc.names.lookup x=some .local\/sc.names.lookup x=some .cell
 nofree:∀y∈sc.names,y.2≠.free
theorem WH{kindOf:Str->Option NameKind}{x:Str}:∀{binds:List (Str×Value)}{m:Str->L'},(∀v,(x,v)∉binds)->bindL kindOf binds m x=m x
 |[],_,_=>rfl
 |(n,v)::r,m,h=>by
   unfold bindL;rw[WH λw a=>h w (BQ _ a)];split;have:x≠n:=by rintro rfl;exact h v Bg
   simp[this];rfl
theorem WI{kindOf:Str->Option NameKind}{x:Str}:∀{binds:List (Str×Value)}{m:Str->L'},(∀v,(x,v)∉binds)->bindC kindOf binds m x=m x
 |[],_,_=>rfl
 |(n,v)::r,m,h=>by
   unfold bindC;rw[WI λw a=>h w (BQ _ a)];split;rfl;have:x≠n:=by rintro rfl;exact h v Bg
   simp[this]
theorem WJ{kindOf:Str->Option NameKind}{x:Str}{v:Value}:∀{P:J'}{vs:G'}{i:Nat}{m:Str->L'},P.Nodup->P[i]?=some x->vs[i]?=some v->kindOf x=some .local ->
 bindL kindOf (P.zip vs) m x=some v
 |[],_,_,_,_,h,_,_=>by simp at h
 |_::_,[],_,_,_,_,h,_=>by simp at h
 |p::P,w::vs,0,m,c,a,b,d=>by
   simp at a b;subst a;subst b;show bindL kindOf ((p,w)::P.zip vs) m p=_;unfold bindL;rw[WH λv hv=>(F0.mp c).1 (List.of_mem_zip hv).1,Ag d];simp
 |p::P,w::vs,i+1,m,c,a,b,d=>by show bindL kindOf ((p,w)::P.zip vs) m x=_;unfold bindL;exact WJ (i:=i) (F0.mp c).2 (by simpa using a) (by simpa using b) d
theorem WK{kindOf:Str->Option NameKind}{x:Str}{v:Value}:∀{P:J'}{vs:G'}{i:Nat}{m:Str->L'},P.Nodup->P[i]?=some x->vs[i]?=some v->kindOf x≠some .local ->
 bindC kindOf (P.zip vs) m x=some v
 |[],_,_,_,_,h,_,_=>by simp at h
 |_::_,[],_,_,_,_,h,_=>by simp at h
 |p::P,w::vs,0,m,c,a,b,d=>by
   simp at a b;subst a;subst b;show bindC kindOf ((p,w)::P.zip vs) m p=_;unfold bindC;rw[WI λv hv=>(F0.mp c).1 (List.of_mem_zip hv).1,Ah d];simp
 |p::P,w::vs,i+1,m,c,a,b,d=>by show bindC kindOf ((p,w)::P.zip vs) m x=_;unfold bindC;exact WK (i:=i) (F0.mp c).2 (by simpa using a) (by simpa using b) d
def start (N:J') (vs:U'):St:=vs.map some++List.replicate (N.length-vs.length) none
def AH (CX:HQ) (P:Program) (w:World) (K:Aj) (mg:Str->L') (base:Heap) (N:J') (qual:Str) (scope:Scope) (f:Addr) (cd:Value) (A:Around) (outer:List Env) (s:Shared) (H:Hp) (E:XK):Cx where
 prog:=P
 w:=w
 K:=K
 mg:=mg
 base:=base
 A:=A.deeper (envOfC qual scope s.heap.objs.size f cd)
 N:=N
 s₀:=s
 H₀:=H
 env:=envOfC qual scope s.heap.objs.size f cd
 outer:=outer
 stack:=envOfC qual scope s.heap.objs.size f cd::outer
 ex:=[]
 calm:=true
 fn:=λ_=>true
 pn:=[]
 xe:=λe L=>wpAny (model P w) (A.deeper (envOfC qual scope s.heap.objs.size f cd)) (leaving (envOfC qual scope s.heap.objs.size f cd) e) (λ_ s''=>CX outer H s E e s'') (λe' s''=>CX outer H s E e' s'') L
def WL{a:Scope}{n:Nat}{x:Str}(h:a.names.lookup x=some .cell):∃c,(cellsFrom n a.names []).lookup x=some c:=by have q:=PySem.W.cellsFrom_some a.names n [] (.inl h);exact Option.isSome_iff_exists.mp q
def Z0{CX:HQ}{K:Aj}{C:Str->L'}{F:Heap}{N:J'}{B:Str}{scope:Scope}{f:Addr}{m:Value}{G:List Env}{I:Shared}{E:XK}{us:G'}{vs:U'}
 (S:Ai N ps scope) (hd:A.handled=none) (g:JO P w K C F A G s H) (R:vs.length=ps.length) (r:Av vs us)
 (x:InCallC s s.heap.objs.size (bindL (envOfC B scope s.heap.objs.size f m).kindOf (ps.zip us) λ_=>none) (cellsFrom (s.heap.objs.size+1) scope.names []) (bindC (envOfC B scope s.heap.objs.size f m).kindOf (ps.zip us) λ_=>none) I) :
 Inv (AH CX P w K C F N B scope f m A G s H E) [] (start N vs) H I:=by
 have U:ps.length<=N.length:=by have:=Bw List.length S.pre;rw[FQ] at this;lia
 obtain⟨o,tk,rfl,J⟩:=x.done;have D:∀b:Addr,b∉(AH CX P w K C F N B scope f m A G s H E).ex:=λb z=>absurd (show b∈([]:I') from z) (by simp)
 refine⟨⟨g.mod,S.kind,rfl,rfl,AF _,λy z c o d=>?_,λy j=>?_,λy c _ h=>?_,λ_=>hd,Around.frames_deeper g.frames,.inr ⟨rfl,rfl⟩,λb z=>absurd z (D b),g.bs,g.bsz,λb _ _=>D b,λb z=>absurd z (D b),g.funs,g.frf⟩,
  rfl,g.bare,Un.kept J,⟨_,x.toInCall.ns,λi y v o d T=>?_⟩,λy c h=>⟨_,x.cell y c h⟩,g.hok.fresh (AF _),λy c h=>?_,λp l=>absurd (show p∈([]:B') from l) (by simp),g.hok.kept J,?_⟩
 exact name_of_addr x.apart (Gx o) (Gx d);have j:scope.names.lookup y=some .cell\/scope.names.lookup y=some .free:=j;rcases j with j|j;exact WL j;exact absurd rfl (S.nofree _ (Gx j));exact Cf (x.above y c (Gx h));have t:i<vs.length:=(by unfold start at d;by_cases t:i<vs.length;exact t;rw[EA (by simpa using t)] at d;rw[List.getElem?_replicate] at d;split at d<;>cases d)
 have O:vs[i]?=some v:=by
  unfold start at d;rw[D7 (by simpa using t),AQ] at d;cases e:vs[i]? with|none=>rw[e] at d;cases d|some a=>rw[e] at d;cases d;rfl
 obtain⟨u,L,Q⟩:=r.get O;have l:ps[i]?=some y:=(by rw[<-S.pre,List.getElem?_take_of_lt (by lia)];exact o);have M:ps.Nodup:=by rw[<-S.pre];exact S.nd.sublist (List.take_sublist _ _)
 refine⟨u,Q,?_⟩;rcases S.par y (Bf l) with k|k;exact .inl ⟨k,WJ M l L k⟩;obtain⟨c,e⟩:=WL (n:=s.heap.objs.size+1) k;refine .inr ⟨.inl k,c,e,?_⟩;have q:=x.cell y c e;rw[WK M l L (by show scope.names.lookup y≠_;rw[k];decide)] at q;exact q;exact g.hok.fresh (Cf (x.above y c (Gx h)));unfold start;show _=N.length;rw[A1,Am,p7];lia
def Pf{CX:HQ}{K:Aj}{i:Str->L'}{j:Heap}{k:Nat}{f:Addr}{name c:Str}{O:Arguments}{body:List Stmt}{scope:Scope}{p kV F z a ct R:Value}{B T:Option Addr}
 {aa:Array (L')} {N:J'} {sp:Sp} (lk:K.lookup f=some ⟨R,T,.func (PySem.W.fnOf name c O body scope p kV F z B a ct),aa⟩) (ab:PySem.W.codeIn K a c=true) (S:Ai N ps scope)
 (len:∀vs H Q E,sp vs H Q E->vs.length=ps.length)
 (af:∀(A:Around)(g:List Env)(s:Shared)(H:Hp)(vs:U')(Q:VK)(E:XK),B2 k (A.deeper (envOfC c scope s.heap.objs.size f a))->sp vs H Q E ->
  ∃t,Gz (AH CX P w K i j N c scope f a A g s H E) body t/\t {nx:=λ_ H'=>Q .non H',rt:=Q} (start N vs) H) :
 ED P w K i j CX (k+1) f (PySem.W.fnOf name c O body scope p kV F z B a ct) ps sp:=by
 refine⟨len,λA g s H ai U vs Q E l h W r G=>?_⟩;have X:=len _ _ _ _ G;have C:K.In s.heap:=h.mod.kin.keeps λb o e=>(h.bs b o e).1;have ae:s.heap.NoLimit:=h.mod.nolimit.keeps λb o e=>(h.bs b o e).1
 have ag:∀y∈ps.zip U,scope.names.lookup y.1=some .local\/(scope.names.lookup y.1=some .cell/\((cellsFrom (s.heap.objs.size+1) scope.names []).lookup y.1).isSome=true):=λ⟨n,v⟩Y=>by
  rcases S.par n (List.of_mem_zip Y).1 with q|q;exact .inl q;exact .inr ⟨q,PySem.W.cellsFrom_some _ _ _ (.inl q)⟩
 refine codeAny_call_function l.depth (C _ _ lk) rfl S.co S.gen rfl (PySem.W.codeRec_of C ab) (W _ _ _ _ ?_);refine wpAny_newFunctionEnv_cells S.kind ag λah Z D x=>?_;subst Z;refine⟨ae.keeps x.toInCall.keep,codeAny_func ?_⟩;obtain⟨t,ht,hq⟩:=af A g s H vs Q E (l.deeper _) G;have I:Inv (AH CX P w K i j N c scope f a A g s H E) [] (start N vs) H D:=Z0 S l.hd h X r x;refine F3 (ht [] D (start N vs) H _ I hq) (λfl L d=>?_) λe L d=>d
 have M:∀{σ':St}{H':Hp}{v:V}{u:Value},Inv (AH CX P w K i j N c scope f a A g s H E) [] σ' H' L->RelV v u->Q v H'->CE g P w H s Q u L:=
  λ{σ' H' v u}J m q=>⟨v,H',J.os,J.bare,J.base,J.hok,m,q⟩
 cases fl with|ret u=>obtain⟨v,σ',H',J,m,q⟩:=d;exact M J m q|next=>obtain⟨σ',H',J,q⟩:=d;exact M (v:=V.non) (u:=Value.none) J rfl q|brk=>obtain⟨_,_,_,q⟩:=d;exact False.elim q|cont=>obtain⟨_,_,_,q⟩:=d;exact False.elim q
section
variable {X:Cx} {x:Str} {p pos:Pos} {e:Expr} {es:P'} {t:TA} {id T:String} {r:U'->Hp->VK->Prop}
def My (r:U'->Hp->VK->Prop) (t:TA):TE:=λσ H Q=>t σ H λvs Y=>r vs Y Q
def Cv(a:Bc X (.builtin id) r)(b:X.mg x=none)(c:PA X (e::es) t)(d:Gl X x:=by rfl)(hv:bootBuiltins x=some (.builtin id):=by decide +kernel)(f:x ≠ "__name__" :=by decide)(o:(x==o9)=false:=by decide)
 (g:starEach (e::es) X.env=(false,eval e X.env)::starEach es X.env:=by rfl) (q:(backTo pos (starEach es X.env)).any (·.1)=false:=by rfl):PE X (.Call (.Name x p) (e::es) [] pos) (My r t):=by
 intro pins s σ H Q I h;refine wpAny_Call_Name_kw (Lm I d b hv ?_ f o);exact PyProof.Rows.callWith_builtin1 (AX (c pos pins s σ H _ I h) λi j⟨k,Y,l,m,n⟩=>a pins j σ Y k i Q l m n) g q
def HU(a:Bc X (.type T) r)(b:X.mg x=none)(c:PA X (e::es) t)(d:Gl X x:=by rfl)(hv:bootBuiltins x=some (.type T):=by decide +kernel)(f:x ≠ "__name__" :=by decide)(o:(x==o9)=false:=by decide)
 (g:starEach (e::es) X.env=(false,eval e X.env)::starEach es X.env:=by rfl) (q:(backTo pos (starEach es X.env)).any (·.1)=false:=by rfl):PE X (.Call (.Name x p) (e::es) [] pos) (My r t):=by
 intro pins s σ H Q I h;refine wpAny_Call_Name_kw (Lm I d b hv ?_ f o);exact PyProof.Rows.callWith_type1 (AX (c pos pins s σ H _ I h) λi j⟨k,Y,l,m,n⟩=>a pins j σ Y k i Q l m n) g q
end
end L2
namespace HT
open PySem PyProof.Rows
section
open PySem.SeqAt
open PySem.AutoSeq1 (wpAny_loadPart')
open PySem.MeetsSeq PySem.MeetsSeq2 PySem.MeetsSeq3
end
section
variable {prog:Program} {w:World} {A:Around} {E:D'} {s:Shared}
def sIx (n d:Nat):M'->Nat
 |none=>d
 |some v=>if v<0 then(v+(n:Int)).toNat else min v.toNat n
def sIx_none(n d:Nat):sIx n d none=d:=rfl
def sIx_nat(n d k:Nat):sIx n d (some (k:Int))=min k n:=by show(if(k:Int)<0 then((k:Int)+(n:Int)).toNat else min (k:Int).toNat n)=min k n;rw[Ah (by lia),Bn]
end
end HT
namespace L2
open PySem PySem.Spec PyProof.Rows
abbrev TO:=St->Hp->(M'->Hp->Prop)->Prop
def PO (X:Cx) (e:Option Expr) (t:TO):Prop:=
 ∀(pins:B')(s:Shared)(σ:St)(H:Hp)(Q:M'->Hp->Prop),Inv X pins σ H s->t σ H Q ->
  wpAny (model X.prog X.w) X.A (evalPart e X.env) (λu L=>∃o H',Inv X pins σ H' L/\IsPart u o/\Q o H') X.xe s
def JQ:TO:=λ_ H Q=>Q none H
def Pg (t:TE):TO:=λσ H Q=>t σ H λx Y=>∃i,x=.int i/\Q (some i) Y
def WM{ns:F'}:∀{us:G'},Av (ns.map V.int) us->IntsAre us ns:=by
 induction ns with
 |nil=>intro us r;rw[NY] at r;cases r;exact .nil
 |cons n ns a=>
  intro us r;rw[D6] at r;cases r with|cons b c=>obtain⟨t,e⟩:=b;subst e;exact .cons n t (a c)
section
variable {X:Cx} {e:Expr} {te:TE} {lo hi:Option Expr} {tl th:TO} {pos J:Pos}
def Od:PO X none JQ:=by intro a s σ H Q I h;rw[evalPart_none];exact Ax ⟨none,H,I,.none,h⟩
def Oe(h:PE X e te):PO X (some e) (Pg te):=by intro f s σ H Q I a;rw[evalPart_some];refine AX (h f s σ H _ I a) λu g⟨x,Y,b,c,d⟩=>?_;obtain⟨i,rfl,q⟩:=d;obtain⟨t,rfl⟩:=c;exact⟨some i,Y,b,.int i t,q⟩
def TY (X:Cx) (r:V->M'->M'->Hp->VK->Prop):Prop:=
 ∀(pins:B')(s:Shared)(σ:St)(H:Hp)(x:V)(v vl vu:Value)(lo hi:M')(sl:Addr)(Q:VK),Inv X pins σ H s->RelV x v->s.heap.IsSliceOf sl vl vu .none->IsPart vl lo->IsPart vu hi->r x lo hi H Q ->
  ∃T id,typeLookup (.type T) "__getitem__" = pure (some (.builtin id))/\s.TypeIs v T/\wpAny (model X.prog X.w) X.A (getItem v (.ref sl)) (EP X pins σ Q) X.xe s
def Z1 (r:V->M'->M'->Hp->VK->Prop) (te:TE) (tl th:TO):TE:=λσ H Q=>te σ H λx Y=>tl σ Y λl H2=>th σ H2 λu H3=>r x l u H3 Q
def Of{r:V->M'->M'->Hp->VK->Prop}(i:TY X r)(j:PE X e te)(k:PO X lo tl)(m:PO X hi th):PE X (.Subscript e (.Slice lo hi none J) pos) (Z1 r te tl th):=by intro c s σ H Q I h;refine Subscript_ (AX (j c s σ H _ I h) λv n⟨x,Y,o,p,t⟩=>?_);refine wpAny_Slice (AX (k c n σ Y _ o t) λd w⟨l,y,z,A,B⟩=>AX (m c w σ y _ z B) λf a⟨u,g,C,D,E⟩=>?_);rw[evalPart_none];refine Ax ?_;have F:Inv X c σ g {a with heap:=a.heap.push {cls:=.type "slice",data:=.fields #[d,f,.none]}}:=C.kept (t':=a.toks) λb M q=>Bb _ q;obtain⟨T,id,G,K,L⟩:=i c {a with heap:=a.heap.push {cls:=.type "slice",data:=.fields #[d,f,.none]}} σ g x v d f l u a.heap.objs.size Q F p (Heap.IsSliceOf.new ..) A D E;show wpAny (model X.prog X.w) X.A (subscriptTail e (.Slice lo hi none J) v (.ref a.heap.objs.size)) (EP X c σ Q) X.xe {a with heap:=a.heap.push {cls:=.type "slice",data:=.fields #[d,f,.none]}};exact tail_any (ops:=[.ref a.heap.objs.size,v]) K G L (by with_unfolding_all rfl)
def EE (xs:U') (lo hi:M'):U':=(xs.drop (HT.sIx xs.length 0 lo)).take (HT.sIx xs.length xs.length hi-HT.sIx xs.length 0 lo)
def Z2(xs:U')(lo hi:M'):(EE xs lo hi).length<=xs.length:=by unfold EE;rw[FQ,HE];lia
end
def Hs (n:Nat) (i:Int):Option Nat:=if 0<=i then(if i<n then some i.toNat else none) else if -(n:Int)<=i then some (i+n).toNat else none
def Bm {α:Type} (xs:List α) (i:Int):Option α:=(Hs xs.length i).bind λj=>xs[j]?
variable {n:Nat}
def WN{i:Int}{j:Nat}(h:Hs n i=some j):seqIndex? i n=some j/\j<n/\-(n:Int)<=i/\i<n:=by unfold Hs at h;by_cases b:0<=i;rw[Ag b] at h;by_cases a:i<n;rw[Ag a] at h;have e:i.toNat=j:=Bt h;exact⟨by rw[seqIndex_of b a,e],by lia,by lia,a⟩;rw[Ah a] at h;cases h;rw[Ah b] at h;by_cases a:-(n:Int)<=i;rw[Ag a] at h;have e:(i+n).toNat=j:=Bt h;exact⟨by rw[seqIndex_neg (by lia) a,e],by lia,a,by lia⟩;rw[Ah a] at h;cases h
def TZ{α:Type}{xs:List α}{i:Int}{v:α}(h:Bm xs i=some v):∃j,seqIndex? i xs.length=some j/\xs[j]?=some v/\j<xs.length/\-(xs.length:Int)<=i/\i<xs.length:=by
 unfold Bm at h;cases e:Hs xs.length i with|none=>rw[e] at h;cases h|some j=>rw[e] at h;obtain⟨a,b,c,d⟩:=WN e;exact⟨j,a,h,b,c,d⟩
def A8{α:Type}{xs:List α}{j:Nat}{v:α}(h:xs[j]?=some v):Bm xs (j:Int)=some v:=by
 have a:j<xs.length:=(AV.mp h).1;have e:Hs xs.length (j:Int)=some j:=(by unfold Hs;rw[Ag (by lia),Ag (by lia)];simp);unfold Bm;rw[e];exact h
def JR (b:Expr):Prop:=∀o i,subscripted b false o i=operate [o,i] (getItem o i)
def Jm (X:Cx) (r:R2):Prop:=
 ∀(d slice:Expr)(pins:B')(s:Shared)(σ:St)(H:Hp)(x y:V)(v u:Value)(Q:VK),Inv X pins σ H s->RelV x v->RelV y u->r x y H Q ->
  subscripted slice false v u=operate [v,u] (getItem v u)->wpAny (model X.prog X.w) X.A (subscriptTail d slice v u) (EP X pins σ Q) X.xe s
def Og (X:Cx) (id:String) (r:V->U'->Hp->VK->Prop):Prop:=
 ∀(pins:B')(s:Shared)(σ:St)(H:Hp)(x:V)(xs:U')(v:Value)(us:G')(Q:VK),Inv X pins σ H s->RelV x v->Av xs us->r x xs H Q ->
  wpAny (model X.prog X.w) X.A (call (.builtin id) (v::us)) (EP X pins σ Q) X.xe s
section
variable {X:Cx} {a b:Expr} {ta tb:TE} {pos:Pos}
def Jm.or{r a:R2}(h:Jm X r)(h':Jm X a):Jm X (λx y H Q=>r x y H Q\/a x y H Q):=by intro d slice f s σ H x y v u Q I b c q e;rcases q with q|q;exact h d slice f s σ H x y v u Q I b c q e;exact h' d slice f s σ H x y v u Q I b c q e
def At{r:R2}(c:Jm X r)(d:PE X a ta)(e:PE X b tb)(f:JR b:=by exact λ_ _=>rfl):PE X (.Subscript a b pos) (Ct r ta tb):=by intro m s σ H Q I h;exact Subscript_ (Mr d e I h λv u g x y i j k l q=>c a b m g σ i x y v u Q j k l q (f _ _))
def Ph (K:Aj):R2:=λx y H Q=>mX x y λp xs i v=>Ae K H p xs/\Bm xs i=some v/\Q v H
def Pj (K:Aj):R2:=λx y H Q=>mX x y λp xs i v=>Ar K H p xs/\Bm xs i=some v/\Q v H
def Pk:R2:=λx y H Q=>∃z i c,x=.str z/\y=.int i/\z.length<=sizeLine/\Bm z.cps.toList i=some c/\Q (.str ⟨#[c]⟩) H
def JS:Jm X (Ph X.K):=by
 intro d slice l s σ H x y v u Q I m n h e;replace h:=mX.ex h;obtain⟨p,J,i,z,rfl,rfl,o,A,q⟩:=h;cases m;obtain⟨t,rfl⟩:=n;obtain⟨F,r,b,K⟩:=I.list o;obtain⟨j,a,B,M,C,D⟩:=TZ A;obtain⟨w,f,G⟩:=r.get B;have E:=r.length;have N:=Mv;have k:EP X l σ Q w s:=⟨z,H,I,G,q⟩;by_cases g:0<=i;have c:i.toNat=j:=(by rw[seqIndex_of g D] at a;exact Bt a);exact item_listR b.isList g (by lia) (by rw[c];simpa using f) k e;have c:(i+(F.toArray.size:Int)).toNat=j:=(by rw[seqIndex_neg (by lia) C] at a;rw[Co,<-E];exact Bt a)
 exact subscriptTail_builtinR (x:=w) b.isList.typeIs slot_list_getitem.lookup
  (wpAny_getItem_list_neg (Q:=λr L=>r=w/\EP X l σ Q r L) b.isList (by lia) (by rw[Co]<;>lia) (by lia) (by rw[c];simpa using f) ⟨rfl,k⟩) e
def Mz:Jm X (Pj X.K):=by
 intro d slice b s σ H x y v u Q I c e h f;replace h:=mX.ex h;obtain⟨p,C,i,z,rfl,rfl,g,k,q⟩:=h;cases c;obtain⟨t,rfl⟩:=e;obtain⟨K,r,a,D⟩:=I.tuple g;obtain⟨j,l,m,E,F,G⟩:=TZ k;obtain⟨w,n,A⟩:=r.get m;have o:=r.length;have J:=Mv;have B:EP X b σ Q w s:=⟨z,H,I,A,q⟩
 exact subscriptTail_builtinR (x:=w) a.typeIs slot_tuple_getitem.lookup
  (getItem_tuple (j:=j) (Q:=λr L=>r=w/\EP X b σ Q r L) a (by lia) (by lia) (by rw[Co,<-o];exact l) (by simpa using n) ⟨rfl,B⟩) f
def MA:Jm X Pk:=by
 intro d slice C s σ H x y v u Q I b e h f;obtain⟨z,i,c,rfl,rfl,r,g,q⟩:=h;obtain⟨t,rfl⟩:=b;obtain⟨w,rfl⟩:=e;obtain⟨j,a,k,A,l,m⟩:=TZ g;have n:z.cps.toList.length=z.length:=(by simp[Str.length]);rw[n] at a l m;have B:=Mv
 exact tail_any (typeIs_str s z t) slot_str_getitem.lookup (getItem_str (c:=c) (by
  have o:decide (i < -(2 ^ 63:Int))=false:=DL (by lia);have p:decide (i ≥ 2 ^ 63)=false:=DL (by lia);rw[o,p,Bool.or_false]) (by rw[a];simpa using k) ⟨.str ⟨#[c]⟩,H,I.tok _,⟨_,rfl⟩,q⟩) f
def DT (K:Aj):R2:=λx y H Q=>Ph K x y H Q\/Pj K x y H Q\/Pk x y H Q
def Au:Jm X (DT X.K):=JS.or (Mz.or MA)
def Z3(a:G')(n j:Nat)(u:Value):Obj.mapSeq (·.setIfInBounds j u) {cls:=.type "list",data:=.seq a.toArray n}={cls:=.type "list",data:=.seq (a.set j u).toArray n}:=by simp[Obj.mapSeq]
def Inv.lst{pins:B'}{σ:St}{H:Hp}{s:Shared}{p:Addr}{xs:U'}(I:Inv X pins σ H s)(h:H p=some (.lst xs)) :
 ∃(a:G')(n:Nat),Av xs a/\s.heap.get? p=some {cls:=.type "list",data:=.seq a.toArray n}/\xs.length<=sizeLine:=by
 obtain⟨z,a,n,r,e⟩:=I.hok p _ h;exact⟨a,n,r,e,z⟩
variable {s:Shared}
def Inv.lstUpd{pins:B'}{σ:St}{H:Hp}{p:Addr}{xs ys:U'}{d its':G'}{a:Nat}{f:Obj->Obj}(I:Inv X pins σ H s)(h:H p=some (.lst xs))
 (g:s.heap.get? p=some {cls:=.type "list",data:=.seq d.toArray n}) (c:f {cls:=.type "list",data:=.seq d.toArray n}={cls:=.type "list",data:=.seq its'.toArray a}) (r:Av ys its') (hz:ys.length<=sizeLine) (t:Nat) :
 Inv X pins σ (upd H p (.lst ys)) {s with heap:=s.heap.update p f,toks:=t}:=by
 have e:(s.heap.update p f).get? p=some {cls:=.type "list",data:=.seq its'.toArray a}:=(by rw[t5 f g (by rw[c]<;>rfl),c]);refine I.write (x:=p) (e:=p) (by rw[h];trivial) (.inl rfl) (λb u i q=>(Heap.get?_update_other _ _ (Ne.symm i)).trans q) ⟨_,e⟩ ?_;exact⟨hz,its',a,r,e⟩
def Pl:V->V->V->Hp->(Hp->Prop)->Prop:=λo i v H Q=>∃p xs k j,o=.ref p/\i=.int k/\H p=some (.lst xs)/\Hs xs.length k=some j/\Q (upd H p (.lst (xs.set j v)))
def T1:JL X Pl:=by
 intro D s σ H o i v E F u Q I x y z h;obtain⟨p,A,k,j,rfl,rfl,e,B,q⟩:=h;cases x;obtain⟨t,rfl⟩:=y;obtain⟨w,n,r,b,C⟩:=I.lst e;obtain⟨a,G,f,g⟩:=WN B;have c:=r.length;have J:=Mv
 have l:Inv X D σ (upd H p (.lst (A.set j v))) {s with heap:=s.heap.update p (Obj.mapSeq (·.setIfInBounds j u))}:=
  I.lstUpd e b (Z3 w n j u) (r.set z j) (by rw[FR];exact C) s.toks
 by_cases m:0<=k;have d:k.toNat=j:=(by rw[seqIndex_of m g] at a;exact Bt a);exact PySem.W.ki_setAt b m (by lia) (by rw[Co,<-c];exact g) (by rw[d];exact⟨_,l,q⟩);have d:(k+(w.toArray.size:Int)).toNat=j:=(by rw[seqIndex_neg (by lia) f] at a;rw[Co,<-c];exact Bt a);exact PySem.W.ki_setBack b (by lia) (by rw[Co,<-c];exact f) (by lia) (by rw[d];exact⟨_,l,q⟩)
def Z4(lo a:M')(n:Nat):(sliceBounds lo a none n).1=((HT.sIx n 0 lo:Nat):Int)/\(sliceBounds lo a none n).2.1=((HT.sIx n n a:Nat):Int)/\(sliceBounds lo a none n).2.2=1:=by
 refine⟨?_,?_,rfl⟩
 cases lo with
 |none=>simp[sliceBounds,HT.sIx]
 |some i=>simp only[sliceBounds,HT.sIx,Option.getD_none,show(1:Int) > 0 by decide,if_true];by_cases h:i<0;simp only[h,if_true]<;>lia;simp only[h,if_false]<;>lia
 cases a with|none=>simp[sliceBounds,HT.sIx]|some i=>simp only[sliceBounds,HT.sIx,Option.getD_none,show(1:Int) > 0 by decide,if_true];by_cases h:i<0;simp only[h,if_true]<;>lia;simp only[h,if_false]<;>lia
def Z5(a:G')(lo b:M'):slicePick a.toArray lo b none=((a.drop (HT.sIx a.length 0 lo)).take (HT.sIx a.length a.length b-HT.sIx a.length 0 lo)).toArray:=by obtain⟨c,d,e⟩:=Z4 lo b a.toArray.size;unfold slicePick;rw[c,d,e];simp only[sliceRange_one,pick_run,Co]<;>rfl
def T4 (K:Aj):V->M'->M'->Hp->VK->Prop:=λx lo hi H Q=>∃a xs,x=.ref a/\Ae K H a xs/\∀p,H p=none->Q (.ref p) (upd H p (.lst (EE xs lo hi)))
def Oh:TY X (T4 X.K):=by intro z s σ H x v p t d e u Q I g i j k h;obtain⟨a,c,rfl,l,q⟩:=h;cases g;obtain⟨y,r,f,m⟩:=I.list l;have n:=r.length;refine⟨"list",_,slot_list_getitem.lookup,f.isList.typeIs,?_⟩;refine wpAny_getItem_list_slice f.isList i j k .none (by simp) ?_ (by rw[Co]<;>lia);rw[Z5,<-n];refine⟨.ref s.heap.objs.size,_,I.laid (t':=s.toks) (o:=.lst (EE c d e)) (λb w q=>Bb _ q) (AF _) ?_,rfl,q _ (I.hok.fresh (AF _))⟩;exact⟨FS (Z2 c d e) m,_,0,(r.drop (HT.sIx c.length 0 d)).take (HT.sIx c.length c.length e-HT.sIx c.length 0 d),B9 _ rfl⟩
def JT:V->Bool
 |.non=>true
 |.bl _=>true
 |.int _=>true
 |.str _=>true
 |_=>false
def JU:V->V->Bool
 |.non,.non=>true
 |.bl a,.bl b=>a==b
 |.bl a,.int b=>(if a then 1 else 0)==b
 |.int a,.bl b=>a==(if b then 1 else 0)
 |.int a,.int b=>a==b
 |.str a,.str b=>a==b
 |_,_=>false
variable {x:V}
def MB{A:Around}{y:V}{u v:Value}(e:RelV y u)(c:RelV x v)(g:JT y=true)(f:JT x=true):SeqAt.EqAt A s u v (JU y x):=by
 cases y with
 |non=>
  cases e;cases x with|non=>cases c;exact SeqAt.EqAt.same _|bl b=>cases c;exact SeqAt.EqAt.none_bool b|int b=>obtain⟨t,rfl⟩:=c;exact SeqAt.EqAt.none_int b t|str b=>obtain⟨t,rfl⟩:=c;exact SeqAt.EqAt.none_str b t|_=>exact absurd (show false=true from f) CA
 |bl a=>
  cases e;cases x with|non=>cases c;exact SeqAt.EqAt.bool_none a|bl b=>cases c;exact SeqAt.EqAt.bool_bool a b|int b=>obtain⟨t,rfl⟩:=c;exact SeqAt.EqAt.bool_int a b t|str b=>obtain⟨t,rfl⟩:=c;exact SeqAt.EqAt.bool_str a b t|_=>exact absurd (show false=true from f) CA
 |int a=>
  obtain⟨d,rfl⟩:=e;cases x with|non=>cases c;exact SeqAt.EqAt.int_none a d|bl b=>cases c;exact SeqAt.EqAt.int_bool a d b|int b=>obtain⟨t,rfl⟩:=c;exact SeqAt.EqAt.int_int a d b t|str b=>obtain⟨t,rfl⟩:=c;exact SeqAt.EqAt.int_str a d b t|_=>exact absurd (show false=true from f) CA
 |str a=>
  obtain⟨d,rfl⟩:=e;cases x with|non=>cases c;exact SeqAt.EqAt.str_none a d|bl b=>cases c;exact SeqAt.EqAt.str_bool a d b|int b=>obtain⟨t,rfl⟩:=c;exact SeqAt.EqAt.str_int a d b t|str b=>obtain⟨t,rfl⟩:=c;exact SeqAt.EqAt.str_str a d b t|_=>exact absurd (show false=true from f) CA
 |_=>exact absurd (show false=true from g) CA
def JV (x:V) (u:Value):Bool:=match u with
 |.none=>JU .non x
 |.bool b=>JU (.bl b) x
 |.int i _=>JU (.int i) x
 |.str z _=>JU (.str z) x
 |_=>false
def HV{y:V}{u:Value}(r:RelV y u)(f:JT y=true):JV x u=JU y x:=by
 cases y with|non=>cases r;rfl|bl b=>cases r;rfl|int i=>obtain⟨t,rfl⟩:=r;rfl|str z=>obtain⟨t,rfl⟩:=r;rfl|_=>exact absurd (show false=true from f) CA
theorem T6{x:V}:∀{xs:U'}{us:G'},Av xs us->xs.all JT=true->us.any (JV x)=xs.any λy=>JU y x
 |_,_,.nil,_=>rfl
 |y::xs,u::us,.cons r t,f=>by rw[List.all_cons,Bool.and_eq_true] at f;rw[List.any_cons,List.any_cons,HV r f.1,T6 t f.2]
theorem T8{A:Around}{s:Shared}{x:V}{v:Value}(b:RelV x v)(c:JT x=true):∀{xs:U'}{us:G'},Av xs us->xs.all JT=true->∀u∈us,SeqAt.EqAt A s u v (JV x u)
 |_,_,.nil,_=>λu a=>by cases a
 |y::xs,u::us,.cons r t,f=>λd a=>by rw[List.all_cons,Bool.and_eq_true] at f;rcases B1.mp a with rfl|a;rw[HV r f.1];exact MB r b f.1 c;exact T8 b c t f.2 d a
def Rj (x:V) (xs:U'):Bool:=xs.any λy=>JU y x
def WO (K:Aj) (neg:Bool):R2:=λx y H Q=>∃p xs,y=.ref p/\(Ae K H p xs\/Ar K H p xs)/\JT x=true/\xs.all JT=true/\Q (.bl (if neg then !Rj x xs else Rj x xs)) H
def Z6:DS X (compareOp .In) (WO X.K false):=by intro k s σ H x y v u Q I e g h;obtain⟨p,j,rfl,a,f,fs,q⟩:=h;cases g;rcases a with a|a;obtain⟨b,r,c,i⟩:=I.list a;refine SeqAt.in_listAt (JV x) c.isList (λw d=>T8 e f r fs w (by simpa using d)) ⟨.bl _,H,I,rfl,?_⟩;rw[show b.toArray.any (JV x)=b.any (JV x) by simp,T6 r fs];exact q;obtain⟨b,r,c,i⟩:=I.tuple a;refine SeqAt.in_tupleAt (JV x) c (λw d=>T8 e f r fs w (by simpa using d)) ⟨.bl _,H,I,rfl,?_⟩;rw[show b.toArray.any (JV x)=b.any (JV x) by simp,T6 r fs];exact q
def Z7:Bc X (.type "list") (λxs H Q=>∃p ys,xs=[.ref p]/\(Ae X.K H p ys\/Ar X.K H p ys)/\∀l,H l=none->Q (.ref l) (upd H l (.lst ys))):=by
 intro y s σ H xs A Q I r h;obtain⟨p,ys,rfl,g,q⟩:=h;obtain⟨u,rfl,x⟩:=FG r;cases x
 have w:∀(c:G'),Av ys c->ys.length<=sizeLine->∀(a:Heap)(d:Nat),(∀b v,s.heap.get? b=some v->a.get? b=some v) ->
  a.get? s.heap.objs.size=some {cls:=.type "list",dict:=none,data:=.seq c.toArray d,slots:=#[]}->EP X y σ Q (.ref s.heap.objs.size) {s with heap:=a}:=λc f i a d j e =>
  ⟨.ref s.heap.objs.size,_,I.laid (t':=s.toks) j (AF _) (show AB X.prog X.w _ a _ (.lst ys) from⟨i,c,d,f,e⟩),rfl,q _ (I.hok.fresh (AF _))⟩
 rcases g with g|g;obtain⟨c,f,k,i⟩:=I.list g;have z:=f.length;obtain⟨o,m,t,n,hd⟩:=k.isList;exact call_list_seq p (.inl rfl) m t hd (λa d j e=>w c f i a d j e) (by simp only[Co]<;>lia);obtain⟨c,f,k,i⟩:=I.tuple g;have z:=f.length;obtain⟨o,m,t,n,hd⟩:=k;exact call_list_seq p (.inr rfl) m t hd (λa d j e=>w c f i a d j e) (by simp only[Co]<;>lia)
def WP (K:Aj) (T:String) (x:V) (H:Hp):Prop:=match x with
 |.str _=>T = "str"
 |.int _=>T = "int"
 |.ref p=>(T = "list" /\ ∃xs,Ae K H p xs)\/(T = "tuple" /\ ∃o,K.lookup p=some o/\o.cls=.type "tuple" /\ o.dict=none) \/
  (T = "dict" /\ ((∃kvs,H p=some (.dK kvs))\/∃kvs,H p=some (.dT kvs)))\/(T = "set" /\ ∃S n,H p=some (.set S n))
 |_=>False
def MC{pins:List (Addr × Obj)}{σ:St}{H:Hp}{T:String}{v:Value}(I:Inv X pins σ H s)(r:RelV x v)(ty:WP X.K T x H) :
 s.TypeIs v T/\∀a,v=.ref a->∃ob,s.heap.get? a=some ob/\ob.dict=none:=by
 cases x with
 |str z=>
  obtain⟨t,rfl⟩:=r;cases(show T = "str" from ty);exact⟨typeIs_str s z t,λ_ e=>nomatch e⟩
 |int i=>
  obtain⟨t,rfl⟩:=r;cases(show T = "int" from ty);exact⟨typeIs_int s i t,λ_ e=>nomatch e⟩
 |ref p=>
  cases r;rcases ty with⟨rfl,k,g⟩|⟨rfl,o,b,h,hd⟩|⟨rfl,b⟩|⟨rfl,S,n,b⟩;obtain⟨l,_,f,_⟩:=I.list g;refine⟨f.isList.typeIs,λa e=>?_⟩;cases e;obtain⟨o,n,e,c,hd,_⟩:=f;exact⟨o,e,hd⟩;refine⟨⟨o,I.kIn p o b,h⟩,λa e=>?_⟩;cases e;exact⟨o,I.kIn _ o b,hd⟩;have z:∃o,s.heap.get? p=some o/\o.ExactDict:=(by rcases b with⟨j,b⟩|⟨j,b⟩;obtain⟨_,_,_,_,o,_,_,e,ex,_⟩:=I.hok p _ b;exact⟨o,e,ex⟩;obtain⟨_,_,_,_,o,_,_,e,ex,_⟩:=I.hok p _ b;exact⟨o,e,ex⟩);obtain⟨o,e,ex⟩:=z;refine⟨⟨o,e,ex.1⟩,λa d=>?_⟩;cases d;exact⟨o,e,ex.2.1⟩;obtain⟨o,_,_,_,e,ex,_⟩:=I.hok p _ b;refine⟨⟨o,e,ex.1⟩,λa d=>?_⟩;cases d;exact⟨o,e,ex.2.1⟩
 |_=>exact False.elim ty
def Z8 (K:Aj) (T:String) (r:V->U'->Hp->VK->Prop) (to:TE) (t:TA):TE:=λσ H Q=>to σ H λx Y=>WP K T x Y/\t σ Y λxs H2=>r x xs H2 Q
variable {o e:Expr} {es:P'} {to:TE} {t:TA} {name:Str} {apos cpos:Pos} {T id:String} {r:V->U'->Hp->VK->Prop}
def Ds(f:PlainAttrs T)(D:Slot T name id)(C:typeOf (.builtin id)=pure (.type "method_descriptor"))(g:Og X id r)(i:PE X o to)(j:PA X (e::es) t)
 (F:attributeBase o name X.env (eval o X.env)=eval o X.env:=by rfl)
 (E:((backTo cpos (starEach (e::es) X.env)).all (λx=>!x.1) && (backToKw cpos (keywordEach [] X.env)).all (λx=>x.1.isSome)
  && decide ((e::es).length+([]:List Keyword).length+(if([]:List Keyword).isEmpty then 0 else 1)<30))=true:=by rfl)
 (G:(apos.endLine==cpos.line)=true:=by rfl) (k:starEach (e::es) X.env=(false,eval e X.env)::starEach es X.env:=by rfl) (J:(backTo cpos (starEach es X.env)).any (·.1)=false:=by rfl) :
 PE X (.Call (.Attribute o name apos) (e::es) [] cpos) (Z8 X.K T r to t):=by
 intro a s σ H Q I h;refine wpAny_Call_method_late F E G rfl (AX (i a s σ H _ I h) λv l⟨x,Y,b,c,ty,m⟩=>?_);obtain⟨n,p⟩:=MC b c ty;refine⟨T,id,f,D,C,n,p,?_⟩;have d:=j cpos a l σ Y _ b m;rw[k] at d ⊢;refine Calls.callWith_builtin (by show(false || (backTo cpos (starEach es X.env)).any (·.1))=false;rw[J]<;>rfl) (Calls.evalArgs_plain ?_);exact AX d λq u⟨w,y,z,A,B⟩=>g a u σ y x w v q Q z c A B
end
def WQ (X:Cx) (id:String) (r:V->U'->Hp->VK->Prop):Prop:=
 ∀(pins:B')(s:Shared)(σ:St)(H:Hp)(x:V)(xs:U')(v:Value)(us:G')(Q:VK),Inv X pins σ H s->RelV x v->Av xs us->r x xs H Q ->
  wpAny (model X.prog X.w) X.A (call (.builtin id) (v::us)) (EP X pins σ Q) X.xe s
theorem Av.one:∀{x:V}{us:G'},Av [x] us->∃u,us=[u]/\RelV x u
 |_,_,.cons r .nil=>⟨_,rfl,r⟩
section
variable {X:Cx} {pins:B'} {σ:St} {H:Hp} {s:Shared} {l b:Addr} {xs ys zs:U'}
def Inv.lset{a its':G'}{f:O'->O'}{t':Nat}(I:Inv X pins σ H s)(b:H l=some (.lst xs))
 (e:s.heap.get? l=some {cls:=.type "list",data:=.seq a.toArray n}) (c:f a.toArray=its'.toArray) (hv:Av ys its') (hz:ys.length<=sizeLine) :
 Inv X pins σ (upd H l (.lst ys)) {s with heap:=s.heap.update l (Obj.mapSeq f),toks:=t'}:=by
 have q:=PySem.IsL.update e f;rw[c] at q;refine I.write (x:=l) (e:=l) (by rw[b];exact trivial) (.inl rfl) (λh u d g=>(Heap.get?_update_other s.heap (Obj.mapSeq f) (Ne.symm d)).trans g) ⟨_,q⟩ ?_;exact⟨hz,its',_,hv,q⟩
def Inv.lnew{a:G'}{t':Nat}(I:Inv X pins σ H s)(hv:Av ys a)(hz:ys.length<=sizeLine) :
 Inv X pins σ (upd H s.heap.objs.size (.lst ys)) {s with heap:=s.heap.push {cls:=.type "list",data:=.seq a.toArray},toks:=t'}:=
 I.laid (λ_ _ q=>Bb _ q) (AF _) ⟨hz,a,0,hv,B9 _ rfl⟩
def Inv.fresh(I:Inv X pins σ H s):H s.heap.objs.size=none:=I.hok.fresh (AF _)
def Inv.lstM(I:Inv X pins σ H s)(b:H l=some (.lst xs)):xs.length<=sizeLine/\∃(a:G')(n:Nat),Av xs a/\xs.length=a.length/\s.heap.get? l=some {cls:=.type "list",data:=.seq a.toArray n}:=by obtain⟨z,a,n,r,e⟩:=I.hok l _ b;exact⟨z,a,n,r,r.length,e⟩
def Z9(h:n<=sizeLine):Builtin.List.listTooLong n=false:=by unfold Builtin.List.listTooLong;exact DL (by lia)
end
section
variable {X:Cx}
def WR:V->U'->Hp->VK->Prop:=λx vs H Q=>mA x vs λl xs y=>H l=some (.lst xs)/\xs.length<sizeLine/\Q .non (upd H l (.lst (xs++[y])))
theorem WS:WQ X "list.append" WR:=by
 intro o s σ H x g v i Q I c d h;replace h:=mA.ex h;obtain⟨l,j,y,rfl,rfl,a,k,q⟩:=h;cases c;obtain⟨u,rfl,f⟩:=d.one;obtain⟨z,b,n,r,m,e⟩:=I.lstM a;refine call_meets F.slot_list_append ⟨_,e,rfl⟩ F.entry_list_append (F.args_list_append_2 _ _) (PySem.list_append l b.toArray n u (by rw[Co];lia)) ⟨e,?_⟩;refine⟨.non,_,I.lset (its':=b++[u]) a e (by simp) (r.append (.cons f .nil)) ?_,rfl,q⟩;rw[A1,D8];lia
def WT:V->U'->Hp->VK->Prop:=λx vs H Q=>∃l b xs zs,x=.ref l/\vs=[.ref b]/\H l=some (.lst xs)/\H b=some (.lst zs)/\xs.length+zs.length<=sizeLine/\Q .non (upd H l (.lst (xs++zs)))
theorem cA:WQ X "list.extend" WT:=by
 intro J s σ H x w v y Q I f g h;obtain⟨l,b,A,B,rfl,rfl,d,i,C,q⟩:=h;cases f;obtain⟨u,rfl,j⟩:=g.one;cases j;obtain⟨z,a,n,r,D,e⟩:=I.lstM d;obtain⟨E,c,k,m,G,o⟩:=I.lstM i;have p:a.toArray.size+c.toArray.size<=sizeLine:=by rw[Co,Co];lia
 have t:¬(!a.toArray.isEmpty && Builtin.List.listTooLong (a.toArray.size+c.toArray.size))=true:=(by rw[Z9 p,Bool.and_false];exact CA)
 refine call_meets F.slot_list_extend ⟨_,e,rfl⟩ F.entry_list_extend (F.args_list_extend_2 _ _)
  (AutoSeq1.list_extend_list_list_0 l a.toArray n b c.toArray k t (by rw[Co];lia) (by lia)) ⟨e,o,?_⟩
 refine⟨.non,_,I.lset (its':=a++c) d e (by simp) (r.append m) ?_,rfl,q⟩;rw[A1];lia
def T9:R2:=λx y H Q=>∃l b xs zs,x=.ref l/\y=.ref b/\H l=some (.lst xs)/\H b=some (.lst zs)/\xs.length+zs.length<=sizeLine/\∀p,H p=none->Q (.ref p) (upd H p (.lst (xs++zs)))
def Oi:DS X (binaryOp .Add) T9:=by intro D s σ H x y v u Q I d f h;obtain⟨l,b,o,p,rfl,rfl,g,i,t,q⟩:=h;cases d;cases f;obtain⟨z,a,n,r,w,e⟩:=I.lstM g;obtain⟨A,c,B,j,C,k⟩:=I.lstM i;refine PySem.P.add_list e k ?_ (by rw[Co,Co];lia);have m:a.toArray++c.toArray=(a++c).toArray:=(by simp);rw[m];exact⟨.ref _,_,I.lnew (t':=s.toks) (r.append j) (by rw[A1];lia),rfl,q _ I.fresh⟩
end
section
variable {prog:Program} {w:World} {A:Around} {E:D'} {s:Shared}
end
section
variable {X:Cx}
end
section
variable {κ:Type} [DecidableEq κ]
def AG (kvs:List (κ×V)) (k:κ):V':=(kvs.find? λkv=>decide (kv.1=k)).map (·.2)
def AM (kvs:List (κ×V)) (k:κ) (v:V):List (κ×V):=
 if(kvs.any λkv=>decide (kv.1=k))=true then kvs.map (λkv=>if kv.1=k then(kv.1,v) else kv) else kvs++[(k,v)]
def Ht{p:κ×V}{r:List (κ×V)}{k:κ}(e:p.1=k):AG (p::r) k=some p.2:=by simp[AG,NZ,e]
def Hu{p:κ×V}{r:List (κ×V)}{k:κ}(e:¬p.1=k):AG (p::r) k=AG r k:=by simp[AG,NZ,e]
theorem Po(k:κ):∀a:List (κ×V),(a.any λb=>decide (b.1=k))=(AG a k).isSome
 |[]=>rfl
 |p::r=>by rw[List.any_cons];by_cases e:p.1=k;simp only[Ht e,Bs e,Bool.true_or,Option.isSome_some];rw[Hu e,DL e,Bool.false_or];exact Po k r
theorem WU(k j:κ)(y:V):∀c:List (κ×V),AG (c.map λa=>if a.1=k then(a.1,y) else a) j=(AG c j).map λx=>if j=k then y else x
 |[]=>rfl
 |p::r=>by have b:=WU k j y r;rw[D6];by_cases h:p.1=k;rw[Ag h];by_cases e:p.1=j;rw[Ht (p:=(p.1,y)) e,Ht e,Option.map_some,Ag (e.symm.trans h)];rw[Hu (p:=(p.1,y)) e,Hu e,b];rw[Ah h];by_cases e:p.1=j;rw[Ht (p:=p) e,Ht e,Option.map_some,Ah (λz=>h (e.trans z))];rw[Hu (p:=p) e,Hu e,b]
theorem WV(k j:κ)(y:V):∀b:List (κ×V),AG b k=none->AG (b++[(k,y)]) j=if j=k then some y else AG b j
 |[],_=>by by_cases e:k=j;rw[Ag e.symm];exact Ht (p:=(k,y)) e;rw[Ah (λz=>e z.symm)];exact Hu (p:=(k,y)) e
 |p::r,a=>by
   rw[List.cons_append];have c:¬p.1=k:=λz=>by rw[Ht z] at a;cases a
   rw[Hu c] at a;have d:=WV k j y r a;by_cases e:p.1=j;rw[Ht e,Ht e,Ah (λz=>c (e.trans z))];rw[Hu e,Hu e,d]
def Oj(b:List (κ×V))(k j:κ)(y:V):AG (AM b k y) j=if j=k then some y else AG b j:=by
 unfold AM;by_cases a:(b.any λc=>decide (c.1=k))=true;rw[Ag a,WU];rw[Po] at a;by_cases e:j=k;obtain⟨x,d⟩:=Option.isSome_iff_exists.mp a;rw[Ag e,e,d,Option.map_some,Ag rfl];rw[Ah e]
 cases AG b j with
 |none=>rfl
 |some x=>rw[Option.map_some,Ah e]
 rw[Ah a];refine WV k j y b ?_;rw[Po] at a;cases q:AG b k with|none=>rfl|some x=>rw[q] at a;exact(a rfl).elim
def Ol(a:List (κ×V))(k:κ)(v:V):(AM a k v).length<=a.length+1:=by unfold AM;split;rw[Am];lia;rw[A1,D9,Hc];lia
def El.isSome_eq{o:V'}{u:L'}(r:El o u):o.isSome=u.isSome:=by
 cases o with
 |none=>cases u with
   |none=>rfl
   |some _=>exact(show False from r).elim
 |some _=>cases u with
   |none=>exact(show False from r).elim
   |some _=>rfl
def El.getD{o:V'}{u:L'}{d:V}{d':Value}(r:El o u)(a:RelV d d'):RelV (o.getD d) (u.getD d'):=by
 cases o with
 |none=>cases u with
   |none=>exact a
   |some _=>exact(show False from r).elim
 |some _=>cases u with
   |none=>exact(show False from r).elim
   |some _=>exact r
variable {kvs:List (κ×V)}{vs:List (κ×Value)}
def KV.val(r:KV kvs vs)(k:κ):El (AG kvs k) (valueAt vs k):=by
 unfold KV at r
 induction r with|nil=>exact True.intro|@cons p q i a h t f=>obtain⟨d,g⟩:=h;by_cases e:p.1=k;have c:q.1=k:=d.symm.trans e;have b:valueAt (q::a) k=some q.2:=(by simp[valueAt,NZ,c]);rw[Ht e,b];exact g;have c:¬q.1=k:=λz=>e (d.trans z);have b:valueAt (q::a) k=valueAt a k:=(by simp[valueAt,NZ,c]);rw[Hu e,b];exact f
def KV.any{kvs:List (κ×V)}{vs:List (κ×Value)}(r:KV kvs vs)(k:κ):(kvs.any λa=>decide (a.1=k))=vs.any λa=>decide (a.1=k):=by
 unfold KV at r
 induction r with|nil=>rfl|cons h t b=>rw[List.any_cons,List.any_cons,b,h.1]
def KV.repl(r:KV kvs vs)(k:κ){y:V}{u:Value}(c:RelV y u) :
 KV (kvs.map λa=>if a.1=k then(a.1,y) else a) (vs.map λa=>if a.1=k then(a.1,u) else a):=by
 unfold KV at r ⊢
 induction r with|nil=>exact .nil|@cons p q g i h t d=>rw[D6,D6];refine .cons ?_ d;obtain⟨b,f⟩:=h;by_cases e:p.1=k;rw[Ag e,Ag (b.symm.trans e)];exact⟨b,c⟩;rw[Ah e,Ah (λz=>e (b.trans z))];exact⟨b,f⟩
def KV.put(r:KV kvs vs)(k:κ){y:V}{u:Value}(a:RelV y u):KV (AM kvs k y) (stored vs k u):=by unfold AM stored;rw[r.any k];by_cases e:(vs.any λb=>decide (b.1=k))=true;rw[Ag e,Ag e];exact r.repl k a;rw[Ah e,Ah e];exact Paired.snoc r ⟨rfl,a⟩
def KV.length{kvs:List (κ×V)}{vs:List (κ×Value)}(r:KV kvs vs):kvs.length=vs.length:=Paired.length r
end
variable {P:Program}{w:World}{u:Value}
def MD{k:AJ}(r:RelV (kV k) u):(EC P w).is k u=true:=by
 cases k with|inl i=>obtain⟨t,e⟩:=(show ∃t,u=Value.int i t from r);subst e;exact ZK P w i t|inr x=>obtain⟨t,e⟩:=(show ∃t,u=Value.str x t from r);subst e;exact ZL P w x t
theorem WW{P:Program}{w:World}:∀{ks:List AJ}{us:G'},Av (ks.map kV) us->ItemsAre (EC P w) ks us
 |[],_,r=>by rw[NY] at r;cases r;exact .nil
 |k::ks,_,r=>by
   rw[D6] at r;cases r with|cons h t=>exact .cons (MD h) (WW t)
abbrev KT (H:Hp):List (List AJ×V)->List (List AJ×Addr×Value)->Prop:=Paired λp q=>p.1=q.1/\H q.2.1=some (.tup (p.1.map kV))/\RelV p.2 q.2.2
variable {H:Hp}{kvs:List (List AJ×V)}{xs:List (List AJ×Addr×Value)}
def KT.val(r:KT H kvs xs)(k:List AJ):El (AG kvs k) ((atKey xs k).map (·.2)):=by
 induction r with|nil=>exact True.intro|@cons p q i a h t f=>obtain⟨d,_,g⟩:=h;by_cases e:p.1=k;have c:q.1=k:=d.symm.trans e;have b:atKey (q::a) k=some q.2:=(by simp[atKey,NZ,c]);rw[Ht e,b];exact g;have c:¬q.1=k:=λz=>e (d.trans z);have b:atKey (q::a) k=atKey a k:=(by simp[atKey,NZ,c]);rw[Hu e,b];exact f
variable {y:V}
def KT.repl(r:KT H kvs xs)(k:List AJ)(d:RelV y u) :
 KT H (kvs.map λb=>if b.1=k then(b.1,y) else b) (xs.map (putAt k u)):=by
 induction r with|nil=>exact .nil|@cons p q i j h t f=>rw[D6,D6];refine .cons ?_ f;obtain⟨a,c,g⟩:=h;unfold putAt;by_cases e:p.1=k;rw[Ag e,Ag (a.symm.trans e)];exact⟨a,c,d⟩;rw[Ah e,Ah (λz=>e (a.trans z))];exact⟨a,c,g⟩
def KT.put(r:KT H kvs xs)(k:List AJ){b:Addr}(c:H b=some (.tup (k.map kV)))(a:RelV y u) :
 KT H (AM kvs k y) (storedH xs k b u):=by
 have e:(kvs.any λd=>decide (d.1=k))=(atKey xs k).isSome:=(by rw[Po,(r.val k).isSome_eq,Option.isSome_map]);unfold AM storedH;rw[e];by_cases q:(atKey xs k).isSome=true;rw[Ag q,Ag q];exact r.repl k a;rw[Ah q,Ah q];exact Paired.snoc r ⟨rfl,c,a⟩
variable {H':Hp}
def KT.keeps(r:KT H kvs xs)(a:∀b ys,H b=some (.tup ys)->H' b=some (.tup ys)):KT H' kvs xs:=
 Paired.mapP r λ_ _ z=>⟨z.1,a _ _ z.2.1,z.2.2⟩
section
variable {P:Program} {w:World} {H:Hp} {h:Heap} {a:Addr}
def HW{u:HO}(ok:CY P w H h)(e:Rd H a u):AB P w H h a u:=e.ok ok
def Om{kvs:Θ}(ok:CY P w H h)(e:Rd H a (.dK kvs)):kvs.length<=sizeLine/\(a==sysModules)=false/\∃vs,KV kvs vs/\h.DictOf (EC P w) a vs:=
 show AB P w H h a (.dK kvs) from HW ok e
def HX{kvs:Θ}(ok:CY P w H h)(e:H a=some (.dK kvs)):kvs.length<=sizeLine/\(a==sysModules)=false/\∃vs,KV kvs vs/\h.DictOf (EC P w) a vs:=Om ok (.inl e)
def ME{ks:List AJ}(ok:CY P w H h)(e:H a=some (.tup (ks.map kV))):(tupleKind (EC P w)).is h ks a:=by obtain⟨_,f,r,o,b,c,n,d⟩:=(show AB P w H h a (.tup (ks.map kV)) from ok a _ e);exact⟨o,f.toArray,n,b,c,d,by simpa using WW r⟩
def Oo(ok:CY P w H h)(e:Rd H a (.dT kvs)):kvs.length<=sizeLine/\(a==sysModules)=false /\
 ∃xs,KT H kvs xs/\h.DictOfH (tupleKind (EC P w)) a xs:=by
 obtain⟨z,y,xs,r,o,d,f,g,i,j,k,n⟩:=(show AB P w H h a (.dT kvs) from HW ok e);refine⟨z,y,xs,r,o,d,f,g,i,j,k,λx b=>?_,n⟩
 have all:∀{l:List (List AJ × V)}{m:List (List AJ × Addr × Value)},KT H l m -> ∀x∈m,(tupleKind (EC P w)).is h x.1 x.2.1:=by
  intro l m q
  induction q with
  |nil=>intro x b;exact nomatch b
  |@cons p q u v c t s=>intro x b;rcases B1.mp b with e|b;subst e;exact ME ok (by rw[<-c.1];exact c.2.1);exact s x b
 exact all r x b
def HY(ok:CY P w H h)(e:H a=some (.dT kvs)):kvs.length<=sizeLine/\(a==sysModules)=false /\
 ∃xs,KT H kvs xs/\h.DictOfH (tupleKind (EC P w)) a xs:=Oo ok (.inl e)
end
def De (H:Hp) (a:Addr) (y:V) (r:V'):Prop:=
 (∃kvs k,Rd H a (.dK kvs)/\y=kV k/\r=AG kvs k)\/∃kvs k b,Rd H a (.dT kvs)/\y=.ref b/\H b=some (.tup (k.map kV))/\r=AG kvs k
def HZ (H:Hp) (a:Addr) (y v:V) (H':Hp):Prop:=
 (∃kvs k,H a=some (.dK kvs)/\y=kV k/\kvs.length<sizeLine/\H'=upd H a (.dK (AM kvs k v))) \/
 ∃kvs k b,H a=some (.dT kvs)/\y=.ref b/\H b=some (.tup (k.map kV))/\kvs.length<sizeLine/\H'=upd H a (.dT (AM kvs k v))
def De.k{H:Hp}{a:Addr}{kvs:Θ}{k:AJ}(e:H a=some (.dK kvs)):De H a (kV k) (AG kvs k):=.inl ⟨kvs,k,.inl e,rfl,rfl⟩
variable {a:Addr}
def De.t{b:Addr}{k:List AJ}(e:H a=some (.dT kvs))(c:H b=some (.tup (k.map kV))):De H a (.ref b) (AG kvs k):=.inr ⟨kvs,k,b,.inl e,rfl,c,rfl⟩
def HZ.k{H:Hp}{a:Addr}{kvs:Θ}{k:AJ}{v:V}(e:H a=some (.dK kvs))(b:kvs.length<sizeLine):HZ H a (kV k) v (upd H a (.dK (AM kvs k v))):=.inl ⟨kvs,k,e,rfl,b,rfl⟩
section
variable {X:Cx} {pins:B'} {σ:St} {H:Hp} {s:Shared} {a:Addr} {y v:V} {u r:Value} {o:V'} {A:Around} {E:D'}
def Inv.big(I:Inv X pins σ H s):sysModules<s.heap.objs.size:=by have h:mainGlobals<s.heap.objs.size:=(I.mod.glob.keeps I.bk).lt;exact Nat.lt_trans (by decide) h
def cB{Q:D'}(q:A.units+1<cLine)(I:Inv X pins σ H s)(g:De H a y (some v))(n:RelV y u)(h:∀c L,Inv X pins σ H L->RelV v c->Q c L) :
 wpAny (model X.prog X.w) A (getItem (.ref a) u) Q E s:=by
 rcases g with⟨kvs,k,e,d,l⟩|⟨kvs,k,b,e,d,r,l⟩;subst d;obtain⟨z,hd,t,j,f⟩:=Om I.hok e;obtain⟨c,i,m⟩:=El.some_of (v:=v) (o:=valueAt t k) (by rw[l];exact j.val k);exact wpAny_getItem_of (MD n) f.mapOf i (h c _ (I.tok _) m);subst d;cases(show u=Value.ref b from n);obtain⟨z,hd,xs,j,f⟩:=Oo I.hok e;obtain⟨c,i,m⟩:=El.some_of (v:=v) (o:=(atKey xs k).map (·.2)) (by rw[l];exact j.val k);obtain⟨p,w,x⟩:=E4.mp i;refine wpAny_getItem_heap (tupleKind_room_in1 q) (ME I.hok r) f w ?_;rw[x];exact h c _ (I.tok _) m
def Ua{Q:D'}(j:A.units+1<cLine)(I:Inv X pins σ H s)(g:De H a y o)(i:RelV y u)(h:∀L,Inv X pins σ H L->Q (.bool o.isSome) L) :
 wpAny (model X.prog X.w) A (compareOp .In u (.ref a)) Q E s:=by
 rcases g with⟨kvs,k,e,c,l⟩|⟨kvs,k,b,e,c,m,l⟩;subst c;obtain⟨z,hd,n,f,d⟩:=Om I.hok e;refine wpAny_in_of (MD i) hd d.mapOf ?_;rw[<-(f.val k).isSome_eq,<-l];exact h _ (I.tok _);subst c;cases(show u=Value.ref b from i);obtain⟨z,hd,xs,f,d⟩:=Oo I.hok e;refine wpAny_in_heap (tupleKind_room_in1 j) (ME I.hok m) hd d ?_;have q:=(f.val k).isSome_eq;rw[Option.isSome_map] at q;rw[<-q,<-l];exact h _ (I.tok _)
def Op{h':Heap}{t':Nat}{ob:HO}(I:Inv X pins σ H s)(c:OX (H a))(d:Heap.SameBut a s.heap h')(f:∃q,h'.get? a=some q)(h:AB X.prog X.w (upd H a ob) h' a ob) :
 Inv X pins σ (upd H a ob) {s with heap:=h',toks:=t'}:=
 I.write (x:=a) (e:=a) c (.inl rfl) (λb q g z=>(d.2 b g).trans z) f h
def Ub{h':Heap}{kvs:Θ}{vs:List (AJ×Value)}(z:kvs.length<=sizeLine)(hd:(a==sysModules)=false)(c:KV kvs vs)(b:h'.DictOf (EC P w) a vs) :
 AB P w H' h' a (.dK kvs):=⟨z,hd,vs,c,b⟩
def cC{Q:Unit->Shared->Prop}(F:A.units+1<cLine)(I:Inv X pins σ H s)(g:HZ H a y v H')(w:RelV y u)(x:RelV v r)(h:∀L,Inv X pins σ H' L->Q () L) :
 wpAny (model X.prog X.w) A (setItem (.ref a) u r) Q E s:=by
 rcases g with⟨kvs,k,e,j,l,m⟩|⟨kvs,k,b,e,j,B,l,m⟩;subst j m;obtain⟨z,hd,G,d,n⟩:=HX I.hok e;have o:G.length<=sizeLine:=by rw[<-d.length];exact z
 have p:(AM kvs k v).length<=sizeLine:=by have:=Ol kvs k v;lia
 refine wpAny_setItem_pairs (hsz:=o) (MD w) n λC i t=>h _ ?_;have J:∃q,C.get? a=some q:=let ⟨q,_,_,f,_⟩:=i;⟨q,f⟩;exact Op I (by rw[e];exact True.intro) t J (Ub p hd (d.put k x) i);subst j m;cases(show u=Value.ref b from w);obtain⟨z,hd,xs,d,n⟩:=HY I.hok e;have o:xs.length<=sizeLine:=by rw[<-Paired.length d];exact z
 have p:(AM kvs k v).length<=sizeLine:=by have:=Ol kvs k v;lia
 refine wpAny_setItem_heap (hsz:=o) (tupleKind_room_in1 F) (ME I.hok B) n λC i t=>h _ ?_;obtain⟨q,K,M,f,N,O,P,_,R⟩:=i;refine Op I (by rw[e];exact True.intro) t ⟨q,f⟩ ⟨p,hd,_,(d.put k B x).keeps λc S D=>?_,q,K,M,f,N,O,P,R⟩;rw[AC (N8 D e (λz=>nomatch z))];exact D
end
section
variable {X:Cx} {pins:B'} {σ:St} {H:Hp} {s:Shared} {a:Addr} {kvs:Θ} {k:AJ} {u:Value} {A:Around} {E:D'}
end
def Pq (i:Expr):Prop:=∀ov iv,subscripted i false ov iv=operate [ov,iv] (getItem ov iv)
variable {s:Shared}
def JW{prog:Program}{A:Around}{E:D'}{env:Env}{d slice:Expr}{pos:Pos}{T id:String}{Q:D'}
 (j:typeLookup (.type T) "__getitem__" = pure (some (.builtin id))) (k:Pq slice)
 (h:wpAny (model prog w) A (eval d env) (λo e=>wpAny (model prog w) A (eval slice env) (λi a=>a.TypeIs o T/\wpAny (model prog w) A (getItem o i) Q E a) E e) E s) :
 wpAny (model prog w) A (eval (.Subscript d slice pos) env) Q E s:=by
 refine Subscript_ (F3 h (λo e l=>F3 l (λi a b=>?_) λ_ _ x=>x) λ_ _ x=>x);obtain⟨f,b⟩:=b;unfold subscriptTail;refine Ad ?_;rw[getitemInPython_of_ne f.not_modules];refine Ad (wpAny_specialOf f j ?_);have c:wpAny (model prog w) A (subscripted slice false o i) (λr g=>wpAny (model prog w) A (letTemporaryGo d o r >>= λ_=>pure r) Q E g) E a:=(by rw[k o i];exact wpAny_operating (F3 b (λr g m=>Ad (wpAny_letTemporaryGo (Ax m))) λ_ _ x=>x))
 first
  |exact Ax (Ad c)
  |exact Ad (Ax (Ad c))
  |exact Ad c
variable {X:Cx}
def cD{pins:B'}{σ:St}{o:V'}(I:Inv X pins σ H s)(g:De H a y o):s.TypeIs (.ref a) "dict" :=by rcases g with⟨kvs,k,e,_,_⟩|⟨kvs,k,b,e,_,_,_⟩;obtain⟨_,_,d,_,c⟩:=Om I.hok e;exact c.typeIs;obtain⟨_,_,xs,_,c⟩:=Oo I.hok e;exact c.typeIs
def Lr (M ty:TE):TE:=λσ H Q=>M σ H λx Y=>ty σ Y λy H2=>∃a v,x=.ref a/\De H2 a y (some v)/\Q v H2
section
variable {X:Cx} {o i e d:Expr} {pos t j:Pos} {M ty J:TE}
def Uc(d:X.A.units+1<cLine)(e:PE X o M)(f:PE X i ty)(j:Pq i):PE X (.Subscript o i pos) (Lr M ty):=by intro c s σ H Q I h;refine JW PySem.F.slot_dict_getitem.lookup j (AX (e c s σ H _ I h) λu k⟨x,Y,l,m,n⟩=>AX (f c k σ Y _ l n) λz A⟨y,p,b,q,a,v,ex,g,r⟩=>?_);subst ex;obtain rfl:u=Value.ref a:=m;exact⟨cD b g,cB d b g q λB C t w=>⟨v,p,t,w,r⟩⟩
end
def Ud(h:Heap)(a:sysModules<h.objs.size):AB P w H (h.push {cls:=.type "dict",data:=.dict #[]}) h.objs.size (.dK []):=
 ⟨Dp _,beq_eq_false_iff_ne.mpr (Ne.symm (Cz a)),[],.nil,Heap.DictOf.new h⟩
def WX(h:Heap)(a:sysModules<h.objs.size):AB P w H (h.push {cls:=.type "dict",data:=.dict #[]}) h.objs.size (.dT []):=
 ⟨Dp _,beq_eq_false_iff_ne.mpr (Ne.symm (Cz a)),[],.nil,_,#[],0,B9 _ rfl,⟨rfl,rfl,rfl⟩,rfl,rfl,List.nodup_nil⟩
def MF:TE:=λ_ H Q=>∀p,H p=none->Q (.ref p) (upd H p (.dK []))
def MG:TE:=λ_ H Q=>∀p,H p=none->Q (.ref p) (upd H p (.dT []))
section
variable {X:Cx} {pos:Pos}
def cE:PE X (.Dict [] [] pos) MF:=λb s σ H Q I h =>
 wpAny_Dict_empty ⟨.ref s.heap.objs.size,_,I.laid (a:=s.heap.objs.size) (o:=.dK []) (t':=s.toks) (λ_ _ q=>Bb _ q) (AF _) (Ud s.heap I.big),rfl,h _ (I.hok.fresh (AF _))⟩
def Ue:PE X (.Dict [] [] pos) MG:=λb s σ H Q I h =>
 wpAny_Dict_empty ⟨.ref s.heap.objs.size,_,I.laid (a:=s.heap.objs.size) (o:=.dT []) (t':=s.toks) (λ_ _ q=>Bb _ q) (AF _) (WX s.heap I.big),rfl,h _ (I.hok.fresh (AF _))⟩
end
def Uf:List (TE×TE)->St->Hp->(List (V×V)->Hp->Prop)->Prop
 |[],_,H,Q=>Q [] H
 |(tk,J)::r,σ,H,Q=>tk σ H λx Y=>J σ Y λy H2=>Uf r σ H2 λps H3=>Q ((x,y)::ps) H3
abbrev VV:List (V×V)->List (Value×Value)->Prop:=Paired λp q=>RelV p.1 q.1/\RelV p.2 q.2
def Rk (X:Cx) (pos:Pos) (keys:List (Option Expr)) (values:P') (trs:List (TE×TE)):Prop:=
 ∀(pins:B')(s:Shared)(σ:St)(H:Hp)(Q:List (V×V)->Hp->Prop),Inv X pins σ H s->Uf trs σ H Q ->
  wpAny (model X.prog X.w) X.A (evalPairs (pairTrees keys values X.env pos)) (λvs L=>∃ps H',Inv X pins σ H' L/\VV ps vs/\Q ps H') X.xe s
def JX{pos:Pos}:Rk X pos [] [] []:=λa s σ H Q I h=>pairTrees_nil_walk ⟨[],H,I,.nil,h⟩
def Ug{pos:Pos}{k v:Expr}{ks:List (Option Expr)}{vs:P'}{tk J:TE}{b:List (TE×TE)}(c:PE X k tk)(hv:PE X v J)(d:Rk X pos ks vs b) :
 Rk X pos (some k::ks) (v::vs) ((tk,J)::b):=λa s σ H Q I h =>
 pairTrees_cons_walk (AX (c a s σ H _ I h) λu e⟨x,Y,f,g,i⟩=>AX (hv a e σ Y _ f i) λz j⟨y,l,m,n,o⟩ =>
  AX (d a j σ l _ m o) λA B⟨p,q,r,w,t⟩=>⟨(x,y)::p,q,r,.cons ⟨g,n⟩ w,t⟩)
def GI (kvs more:Θ):Θ:=more.foldl (λacc kv=>AM acc kv.1 kv.2) kvs
def KV.merge:∀{more:Θ}{a:List (AJ×Value)}{kvs:Θ}{vs:List (AJ×Value)},KV more a->KV kvs vs->KV (GI kvs more) (merged vs a):=by
 intro more a kvs vs r;unfold KV at r
 induction r generalizing kvs vs with
 |nil=>intro q;exact q
 |@cons p q d f h t b=>
  intro c;have e:KV (AM kvs p.1 p.2) (stored vs q.1 q.2):=(by have:=c.put p.1 h.2;rw[<-h.1];exact this);exact b e
theorem WY:∀(more kvs:Θ),(GI kvs more).length<=kvs.length+more.length
 |[],kvs=>by show kvs.length<=kvs.length+0;lia
 |p::r,kvs=>by have a:=WY r (AM kvs p.1 p.2);have b:=Ol kvs p.1 p.2;show(GI (AM kvs p.1 p.2) r).length<=_;rw[D9];lia
theorem WZ{P:Program}{w:World}:∀{kvs:Θ}{ws:List (Value×Value)},VV (kvs.map λe=>(kV e.1,e.2)) ws->∃d,Carries (EC P w) ws d/\KV kvs d
 |[],_,r=>by rw[NY] at r;cases r;exact⟨[],True.intro,.nil⟩
 | p :: kvs,_,r=>by
   rw[D6] at r;cases r with|@cons a b as bs h t=>obtain⟨d,c,q⟩:=WZ (P:=P) (w:=w) t;obtain⟨g,f⟩:=b;exact⟨(p.1,f)::d,⟨MD h.1,rfl,c⟩,.cons ⟨rfl,h.2⟩ q⟩
def Pr (trs:List (TE×TE)):TE:=λσ H Q=>∀p,H p=none->Uf trs σ (upd H p (.dK [])) λps H2=>H2 p=some (.dK [])/\∃kvs:Θ,ps=kvs.map (λkv=>(kV kv.1,kv.2))/\kvs.length<=15/\Q (.ref p) (upd H2 p (.dK (GI [] kvs)))
def JY{pos:Pos}{b:List (Option Expr)}{values:P'}{f:List (TE×TE)}(h:Rk X pos b values f)(E:b.all (·.isSome)=true)(i:b.length=values.length)(j:b≠[])
 (C:b.length<=15):PE X (.Dict b values pos) (Pr f):=by
 intro F s σ H Q I q;have k:=I.hok.fresh (AF s.heap.objs.size);have l:=I.laid (a:=s.heap.objs.size) (o:=.dK []) (h':=s.heap.push {cls:=.type "dict",data:=.dict #[]}) (t':=s.toks) (λ_ _ q=>Bb _ q) (AF _) (Ud s.heap I.big);refine wpAny_Dict_walk (knd:=EC X.prog X.w) E i j C (AX (h F _ σ _ _ l (q _ k)) λG J⟨K,L,d,D,e,kvs,m,M,n⟩=>?_);subst m;obtain⟨p,c,r⟩:=WZ (P:=X.prog) (w:=X.w) D;obtain⟨z,hd,N,t,u⟩:=HX d.hok e;cases t;refine⟨p,c,u,λh' g v=>⟨.ref s.heap.objs.size,_,?_,rfl,n⟩⟩;have x:(GI [] kvs).length<=sizeLine:=(by have y:=WY kvs [];rw[Hc] at y;rw[sizeLine_eq];lia);have A:∃q,h'.get? s.heap.objs.size=some q:=let ⟨q,_,_,B,_⟩:=g;⟨q,B⟩;exact Op d (by rw[e];exact True.intro) v A (Ub x hd (r.merge .nil) g)
structure M2 (X:Cx) (o:Expr) (m:Str) (apos:Pos) (e f:Expr) (cpos:Pos):Prop where
 base:attributeBase o m X.env (eval o X.env)=eval o X.env
 few:((backTo cpos (starEach [e,f] X.env)).all (λx=>!x.1) && (backToKw cpos (keywordEach [] X.env)).all (λx=>x.1.isSome)
  && decide (([e,f]:P').length+([]:List Keyword).length+(if([]:List Keyword).isEmpty then 0 else 1)<30))=true
 line:(apos.endLine==cpos.line)=true
 trees:backTo cpos (starEach [e,f] X.env)=[(false,eval e X.env),(false,eval f X.env)]
def W0 (H:Hp) (a:Addr):Prop:=(∃kvs,Rd H a (.dK kvs))\/∃kvs,Rd H a (.dT kvs)
def MH{pins:B'}{σ:St}(I:Inv X pins σ H s)(d:W0 H a) :
 s.TypeIs (.ref a) "dict" /\ (∀b,Value.ref a=.ref b->∃ob,s.heap.get? b=some ob/\ob.dict=none)/\(a==sysModules)=false:=by
 rcases d with⟨kvs,e⟩|⟨kvs,e⟩;obtain⟨_,hd,h,_,c⟩:=Om I.hok e;refine⟨c.typeIs,λb q=>?_,hd⟩;cases q;obtain⟨ob,_,_,f,g,_⟩:=c;exact⟨ob,f,g.2.1⟩;obtain⟨_,hd,xs,_,c⟩:=Oo I.hok e;refine⟨c.typeIs,λb q=>?_,hd⟩;cases q;obtain⟨ob,_,_,f,g,_⟩:=c;exact⟨ob,f,g.2.1⟩
section
variable {X:Cx} {pins:B'} {σ:St} {H:Hp} {s:Shared} {a:Addr} {y d:V} {u r:Value} {o:V'} {A:Around} {E:D'}
def MI{Q:D'}(p:A.units+1<cLine)(I:Inv X pins σ H s)(g:De H a y o)(j:RelV y u)(m:RelV d r)(h:∀n L,Inv X pins σ H L->RelV (o.getD d) n->Q n L) :
 wpAny (model X.prog X.w) A (call (.builtin "dict.get") [.ref a,u,r]) Q E s:=by
 rcases g with⟨kvs,k,e,f,l⟩|⟨kvs,k,b,e,f,q,l⟩;subst f;obtain⟨z,hd,t,i,c⟩:=Om I.hok e;refine call_meetsIn PySem.F.slot_dict_get c.typeIs PySem.F.entry_dict_get (PySem.F.args_dict_get_3 _ _ _) (meets_dict_get_default (EC X.prog X.w) a (MD j) hd r) ⟨_,c.mapOf,h _ _ (I.tok _) ?_⟩;rw[l];exact(i.val k).getD m;subst f;cases(show u=Value.ref b from j);obtain⟨z,hd,xs,i,c⟩:=Oo I.hok e;refine call_meetsIn PySem.F.slot_dict_get c.typeIs PySem.F.entry_dict_get (PySem.F.args_dict_get_3 _ _ _) (meetsH_dict_get_default (tupleKind (EC X.prog X.w)) a b hd r) ⟨tupleKind_room_in1 p,k,xs,ME I.hok q,c,h _ _ (I.tok _) ?_⟩;rw[l];exact(i.val k).getD m
end
def MJ (M ty tx:TE):TE:=λσ H Q=>M σ H λx Y=>∃a,x=.ref a/\W0 Y a/\ty σ Y λy H2=>tx σ H2 λz H3=>∃o,De H3 a y o/\Q (o.getD z) H3
section
variable {X:Cx} {o e f:Expr} {apos cpos:Pos} {M ty tx:TE}
def cF(i:X.A.units+1<cLine)(j:PE X o M)(k:PE X e ty)(l:PE X f tx)(m:M2 X o "get" apos e f cpos):PE X (.Call (.Attribute o "get" apos) [e,f] [] cpos) (MJ M ty tx):=by
 intro b s σ H Q I h;refine wpAny_Call_method m.base m.few m.line PySem.F.plainAttrs_dict PySem.F.slot_dict_get PySem.F.type_dict_get (AX (j b s σ H _ I h) λu n⟨x,Y,c,p,a,ex,d,q⟩=>?_);subst ex;obtain rfl:u=Value.ref a:=p;obtain⟨r,t,_⟩:=MH c d;refine⟨r,t,?_⟩;rw[m.trees]
 refine Calls.callWith_builtin rfl (Calls.evalArgs_plain (Calls.spliced_cons (AX (k b n σ Y _ c q) λL v⟨y,w,A,B,C⟩ =>
  Calls.spliced_cons (AX (l b v σ w _ A C) λN O⟨z,D,E,F,P,g,G⟩=>Calls.spliced_nil ?_))))
 exact MI i E g B F λR S J K=>⟨_,D,J,K,G⟩
end
section
variable {X:Cx} {pins:B'} {σ:St} {H:Hp} {s:Shared} {a:Addr} {kvs:Θ} {A:Around} {E:D'}
end
section
variable {X:Cx} {pins:B'} {σ:St} {H:Hp} {s:Shared} {a:Addr} {y:V} {u:Value} {A:Around} {E:D'}
end
end L2
namespace Att
open PySem PySem.W PySem.Calls PyProof.Rows
def cG{P:Params}{h:Heap}:∀(ns:F')(vs:G'),WellAll P h vs (ns.map WData.int)->IntsAre vs ns:=by
 intro ns
 induction ns with
 |nil=>intro vs w;rw[NY] at w;cases w;exact .nil
 |cons n ns c=>
  intro vs w;rw[D6] at w;cases w with|cons a b=>cases a;exact .cons _ _ (c _ b)
def cH{l:OpenLaw}{n:Nat}(i:l.most=some n){P:Params}{h:Heap}{args:List WData}{f:G'}
 (g:l.row.toRowW.claim.pre args=true) (u:WellAll P h f args) :
 ∃a vs ns,f=[Value.ref a]/\args=[WData.list (ns.map WData.int)]/\h.get? a=some {cls:=.type "list",data:=.seq vs.toArray}/\IntsAre vs ns/\ns.length<=n:=by
 have v:WShape.hasAll [] args [.list .int]=true:=(pre_splitW g).1;have e:l.pre.holds [] {args:=args}=true:=(pre_splitW g).2;obtain⟨d,r,rfl,j,k⟩:=hasAllW_cons v;obtain rfl:=hasAllW_nil k;obtain⟨y,rfl,m⟩:=hasW_list j;obtain⟨ns,rfl⟩:=items_int m
 have w:ns.length<=n:=by
  unfold OpenLaw.pre at e;have b:(WTm.not (.lt (.lit (.int (n:Int))) (.len (.arg 0)))).holds [] {args:=[.list (ns.map .int)]}=true:=(by have b:=(holds_andW e).1;rw[i] at b;exact b);have c:=condW_of b (w_not (w_lt w_lit (w_len_list (w_arg rfl))));rw[Am] at c;refine Nat.le_of_not_lt λq=>?_;have o:(n:Int)<((ns.length:Nat):Int):=(by lia)
  first
   |(rw[Bs o] at c;exact absurd c (by decide))
   |(simp at c;lia)
 cases u with
 |cons p s=>
  cases s;cases p with|list t x=>exact⟨_,_,ns,rfl,rfl,t,cG ns _ x,w⟩
def cI(l:OpenLaw)(args:List WData):l.row.toRowW.claim.post args (.bool true) args=true:=
 postW_of (r:=l.row.toRowW) (X:=(true==true))
  (show WShape.has [] (.bool true) .bool=true by first|rfl|decide|simp[WShape.has,WShape.arms,WShape.armsAll])
  (show(WTm.eq .res (.lit (.bool true))).value [] {args:=args,res:=some (.bool true),after:=args}=some (.bool (true==true)) from w_eq_bool (w_res rfl) w_lit) rfl
def attach_call{l:OpenLaw}{n:Nat}{q:Program}{loose:J'}{XP:(Str->L')->Heap->Prop}{YP:World->Heap->Prop}{d:DefRec}
 (p:l.most=some n) (B:d.params.defaults=[])
 (call:∀(w:World)(h b:Shared)(e i:Str->L')(c:Addr)(o:Obj)(j g k:Value)(a:Addr)(vs:G')(ns:F'),
  Ground q loose [] XP w h e i b.heap->YP w b.heap ->
  b.heap.get? c=some o->o.data=.func (docDef d.name d.params d.body d.scope j g k)->b.heap.CodeRec g d.name->e d.name=some (.ref c) ->
  b.heap.get? a=some {cls:=.type "list",data:=.seq vs.toArray}->IntsAre vs ns->ns.length<=n->b.gens=#[] ->
  codeAny (model l.prog w) callerA (.call (.ref c) ⟨[.ref a],[]⟩) (λr L=>r=.ok (.ret (.bool true))/\OldK b.heap L.heap/\L.os=b.os/\AllBare L.gens) b) :
 WalkO q loose XP YP l.row.toRowW d [] (λf vs=>PySem.call f vs):=by
 intro w h b e i G Y c o j g k s kV t hd C m D u O P K F Q M E N;obtain rfl:s=.none:=Dflts.none m B;obtain rfl:kV=.none:=Dflts.noKw m;obtain⟨a,vs,ns,rfl,rfl,H,J,I⟩:=cH p F E;refine enter_call (codeAny_mono (call w h b e i c o j g k a vs ns G Y t (fd_plain hd) C D H J I u) λr L v=>?_);obtain⟨rfl,x,y,z⟩:=v;exact⟨.inl ⟨.bool true,.bool true,[],rfl,λ_=>rfl,.bool true,cI l _,λ_=>⟨List.Pairwise.nil,λ_ A=>(nomatch A)⟩⟩,x,y,z⟩
section
variable {prog:Program} {w:World} {A:Around} {E:D'} {s:Shared} {K:Frag}
end
end Att
namespace L2
open PySem PySem.Spec PyProof.Rows
theorem Rl:∀{vs:G'}{ns:F'},IntsAre vs ns->Av (ns.map V.int) vs
 |_,_,.nil=>.nil
 |_,_,.cons n t h=>.cons ⟨t,rfl⟩ (Rl h)
def MK (H:Hp):Prop:=∀b,H b=none\/∃o xs,H b=some (.frz o (.lst xs))
variable {P:Program}{w:World}{a:Addr}{x:Str}
def cJ {K:Aj} {g y:Str->L'} {CX:HQ} {k:Nat} {A:Addr} {fd:FuncData} {sp:Sp} {c:Shared} {vs:G'} {ns:F'}
 (E:K.In c.heap) (Q:c.heap.Ns mainGlobals g) (f:c.heap.Ns builtinsNs y) (ab:∀x:Str,x ≠ "__name__" -> y x=bootBuiltins x) (ah:c.heap.NoLimit) (W:c.gens=#[])
 (p:c.heap.get? a=some {cls:=.type "list",data:=.seq vs.toArray}) (G:IntsAre vs ns) (I:ns.length<=sizeLine) (X:B2 k callerA)
 (F:∀D:Heap,K.In D->D.Ns mainGlobals g->ED P w K g D CX k A fd [x] sp) (al:∀(s:Shared)(u:Value),BindsTo s fd ⟨[u],[]⟩ [(x,u)])
 (ae:∀H:Hp,MK H->Ae K H a (ns.map V.int)->sp [.ref a] H (λv _=>v=.bl true) λ_ _ _=>False)
 (af:∀H e L,CX [] H c (λ_ _ _=>False) e L->False) :
 codeAny (model P w) callerA (.call (.ref A) ⟨[.ref a],[]⟩) (λr L=>r=.ok (.ret (.bool true))/\OldK c.heap L.heap/\L.os=c.os/\AllBare L.gens) c:=by
 have J:=Rl G;have ai:=G.length
 have T:∀ H:Hp,MK H->Ae K H a (ns.map V.int)->CY P w H c.heap->(∀ b,H b≠none->b=a)->(H a≠none->K.lookup a=none) ->
  codeAny (model P w) callerA (.call (.ref A) ⟨[.ref a],[]⟩) (λr L=>r=.ok (.ret (.bool true))/\OldK c.heap L.heap/\L.os=c.os/\AllBare L.gens) c:=by
  intro H M Y R N Z;have U:∀{b:Addr}{o:Obj},c.heap.get? b=some o->H b=none->(FE c.heap H).get? b=some o:=λe n=>ZN e n
  have ag:∀{b:Addr}{o:Obj}{i:Array DictEntry}{j:Nat},c.heap.get? b=some o->o.data=.dict i j->H b=none:=λ{b o i j}e d=>by
   cases q:H b with|none=>rfl|some u=>have B:b=a:=N b (by rw[q];simp);subst B;rw[p] at e;cases e;have d':Data.seq vs.toArray _=Data.dict i j:=d;cases d'
  have t:∀{b:Addr}{m:Str->L'},c.heap.Ns b m->(FE c.heap H).Ns b m:=λ{b m}⟨o,i,j,e,d,r⟩=>⟨o,i,j,U e (ag e d),d,r⟩
  have S:K.In (FE c.heap H):=λb o e=>U (E b o e) (by
   cases q:H b with
   |none=>rfl
   |some u=>
    have B:b=a:=N b (by rw[q];simp);subst B;rw[Z (by rw[q];simp)] at e;cases e)
  have hM:Mod K g (FE c.heap H):=⟨S,t Q,⟨y,t f,ab⟩,let ⟨mc,h1,h2⟩:=ah;⟨mc,t h1,h2⟩⟩;have e0:JO P w K g (FE c.heap H) callerA [] c H:=⟨rfl,hM,λb o e=>JG e,Nat.le_of_eq (ZM _ _),trivial,λb f=>absurd (show b∈([]:I') from f) (by simp),R,.of_eq W⟩;refine codeAny_mono ((F _ S (t Q)).run callerA [] c H ⟨[.ref a],[]⟩ [.ref a] [.ref a] _ _ X e0 (al c (.ref a)) (.cons rfl .nil) (ae H M Y)) λr L h=>?_
  cases r with
  |error e=>exact(af H e L h).elim
  |ok fl=>
   cases fl with
   |next=>exact False.elim h
   |brk=>exact False.elim h
   |cont=>exact False.elim h
   |ret u=>
    obtain⟨v,H',aa,aj,un,ak,r',q⟩:=h;have q':v=.bl true:=q;subst q';obtain rfl:u=Value.bool true:=r';refine⟨rfl,OldK.of_keep λb o e=>?_,aa,aj⟩
    cases q:H b with
    |none=>exact un.keep b o e q (by intro z;exact absurd (show b∈([]:I') from z) (by simp)) (by simp)
    |some u=>rcases M b with z|⟨ob,xs,z⟩;rw[q] at z;cases z;have z2:=un.frzs b ob _ z;obtain⟨O,_⟩:=R b _ z;obtain⟨e2,_⟩:=ak b _ z2;rw[e] at O;cases O;exact e2
 cases C:K.lookup a with
 |some o=>have e:=E a o C;rw[p] at e;cases e;refine T (λ_=>none) (λ_=>.inl rfl) (.inr ⟨_,vs.toArray,_,C,rfl,rfl,rfl,by rw[Co,ai];exact I,by simpa using J⟩) (λb u z=>by have l:(none:Option HO)=some u:=z;cases l) (λb z=>absurd rfl z) λz=>absurd rfl z
 |none=>
  refine T (λb=>if b=a then some (.frz {cls:=.type "list",data:=.seq vs.toArray} (.lst (ns.map V.int))) else none) (λb=>?_) (.inl (.inr ⟨{cls:=.type "list",data:=.seq vs.toArray},Ag rfl⟩)) (λb u z=>?_) (λb z=>?_) λ_=>C;by_cases f:b=a;exact .inr ⟨_,_,Ag f⟩;exact .inl (Ah f);by_cases f:b=a;have l:=(Ag f).symm.trans z;cases l;subst f;exact⟨p,by rw[Am];exact I,vs,_,J,p⟩;have l:=(Ah f).symm.trans z;cases l;by_cases f:b=a;exact f;exact absurd (Ah f) z
variable {n:Nat}
def JZ{l:PySem.W.OpenLaw}{k:Nat}{q:Program}{loose:J'}{XP:(Str->L')->Heap->Prop}{YP:World->Heap->Prop}{d:DefRec}{K:Params->Aj}{CX:World->HQ}{sp:World->Sp}(m:l.most=some n)(D:n<=sizeLine)(E:d.params.defaults=[])(p:B2 k callerA)
 (r:∀(w:World)(h:Heap),YP w h->(K w.params).In h)
 (F:∀(w:World)(b:Str->L')(c:Addr)(h:Heap),(K w.params).In h->h.Ns mainGlobals b->b d.name=some (.ref c) ->
  ∃fd:FuncData,(∀(s:Shared)(u:Value),BindsTo s fd ⟨[u],[]⟩ [(x,u)]) /\
   ∀g:Heap,(K w.params).In g->g.Ns mainGlobals b->ED l.prog w (K w.params) b g (CX w) k c fd [x] (sp w))
 (I:∀(w:World)(H:Hp)(a:Addr)(ns:F'),ns.length<=n->MK H->Ae (K w.params) H a (ns.map V.int)->sp w [.ref a] H (λv _=>v=.bl true) λ_ _ _=>False)
 (J:∀(w:World)(H:Hp)(s:Shared)(e:Value)(L:Shared),CX w [] H s (λ_ _ _=>False) e L->False) :
 PySem.W.WalkO q loose XP YP l.row.toRowW d [] (λf vs=>PySem.call f vs):=by
 refine Att.attach_call m E λw P t b Q c o R S U a vs ns G Y T hd W M N O j y=>?_;have i:=r w _ Y;obtain⟨fd,z,A⟩:=F w b c _ i G.T.g M;exact cJ i G.T.g G.T.b G.T.builtins G.T.nolimit y N O (FS j D) p A z (λH B C=>I w H a ns j B C) λH e L=>J w H t e L
abbrev Jn:HQ:=λ_ _ _ _ _ _=>False
abbrev E0:XK:=λ_ _ _=>False
variable {X:Cx}
def Ps:TX Jn X E0:=λ_ _ _ _ _ _ _ h=>h.elim
structure By (K:Aj) (x qual:Str) (st:Stmt) (f:Addr) (fd:FuncData):Prop where
 ex:∃(oc:Value)(od:Option Addr)(kV doc pm:Value)(an:Option Addr)(cdv ct:Value)(osl:Array (L')),
  fd=PySem.W.fnOf x qual (Lj st) (Ji st) (AY st) .none kV doc pm an cdv ct/\K.lookup f=some ⟨oc,od,.func fd,osl⟩/\PySem.W.codeIn K cdv qual=true
 kp:PySem.W.keepIn K (.ref f)=true
section
variable {P:Program} {w:World} {K:Aj} {mg:Str->L'} {base:Heap}
variable {qual:Str}{st:Stmt}{f:Addr}
def By.ok{fd:FuncData}{N ps:J'}{k:Nat}{sp:Sp}(F:By K x qual st f fd)(S:Ai N ps (AY st))(len:∀vs H Q E,sp vs H Q E->vs.length=ps.length)
 (i:∀(a:Value)(A:Around)(b:List Env)(s:Shared)(H:Hp)(vs:U')(Q:VK)(E:XK),B2 k (A.deeper (envOfC qual (AY st) s.heap.objs.size f a))->sp vs H Q E ->
  ∃t,Gz (AH Jn P w K mg base N qual (AY st) f a A b s H E).nox (Ji st) t/\t {nx:=λ_ H'=>Q .non H',rt:=Q} (start N vs) H):ED P w K mg base Jn (k+1) f fd ps sp:=by
 obtain⟨j,l,kV,p,m,n,a,o,r,rfl,c,e⟩:=F.ex;refine Pf c e S len λA b s H vs Q E d g=>?_;obtain⟨t,h,q⟩:=i a A b s H vs Q E d g;exact⟨t,h.nox,q⟩
def By.binds{fd:FuncData}{ps:J'}(F:By K x qual st f fd)
 (h:∀(kV c a:Value)(b:Option Addr)(d ct:Value)(us:G'),us.length=ps.length->bindArgs (PySem.W.fnOf x qual (Lj st) (Ji st) (AY st) .none kV c a b d ct) ⟨us,[]⟩=pure (ps.zip us)):Binds K fd ps []:=by
 obtain⟨e,g,kV,c,a,b,d,ct,j,rfl,i,k⟩:=F.ex;exact .all (h kV c a b d ct)
def H1{g:Value}{h b:Option Addr}{i:Array (L')}{kV e d a ct:Value}(l:K.lookup f=some ⟨g,h,.func (PySem.W.fnOf x qual (Lj st) (Ji st) (AY st) .none kV e d b a ct),i⟩)
 (c:PySem.W.codeIn K a qual=true) (k:PySem.W.keepIn K (.ref f)=true):By K x qual st f (PySem.W.fnOf x qual (Lj st) (Ji st) (AY st) .none kV e d b a ct):=⟨⟨g,h,kV,e,d,b,a,ct,i,rfl,l,c⟩,k⟩
end
variable {A:Around}
def Ls{k:Nat}(a:B2 k A):A.units+1<cLine:=Nat.lt_of_le_of_lt (Nat.add_le_add_left (by decide:1<=64) _) a.units
def Bz(h:n<=1000):n<sizeLine:=Nat.lt_of_le_of_lt h (by decide)
section
variable {X:Cx}
def pv(i:Nat){pos:Pos}(a:X.N[i]?=some x:=by rfl)(hv:Q6 X.env.scope x:=by first|exact p4 rfl|exact p5 (p4 rfl)|exact p5 (p5 rfl))(hd:(x==o9)=false:=by decide)
 (b:(x==("__classdict__":Str))=false:=by decide):PE X (.Name x pos) (AS i):=Mi a hv hd b
end
variable {B:Prop}
def Bi{A:Prop}(h:B):if false=true then A else B:=by rw[Ah CA];exact h
def Ch{A:Prop}(h:A):if true=true then A else B:=by rw[Ag rfl];exact h
def As{c A:Prop} [Decidable c](a:c->A)(b:¬c->B):if c then A else B:=by by_cases h:c;rw[Ag h];exact a h;rw[Ah h];exact b h
def Ac (H H':Hp):Prop:=∀b o,H b=some o->H' b=some o
def Ac.refl(H:Hp):Ac H H:=λ_ _ h=>h
variable {H Y:Hp}
def Ac.trans{d:Hp}(a:Ac H Y)(b:Ac Y d):Ac H d:=λc o h=>b c o (a c o h)
variable {H':Hp}
def Ac.free(e:Ac H H'){l:Addr}(h:H' l=Option.none):H l=Option.none:=by
 cases q:H l with|none=>rfl|some o=>rw[e l o q] at h;cases h
variable {xs:U'}
def Ac.seq{K:Aj}(e:Ac H H')(h:Ae K H a xs):Ae K H' a xs:=by rcases h with(h|⟨o,h⟩)|h;exact .inl (.inl (e _ _ h));exact .inl (.inr ⟨o,e _ _ h⟩);exact .inr h
section
variable {κ:Type} [DecidableEq κ]
end
inductive Ty where
 |int|bool|str|non|lst|tup|dct
 deriving DecidableEq
def Ty.name:Ty->String
 |.int => "int"|.bool => "bool"|.str => "str"|.non => "NoneType"|.lst => "list"|.tup => "tuple"|.dct => "dict"
inductive J1 (K:Aj) (H:Hp):V->Ty->Prop where
 |int (i:Int):J1 K H (.int i) .int
 |bl (b:Bool):J1 K H (.bl b) .bool
 |str (x:Str):J1 K H (.str x) .str
 |non:J1 K H .non .non
 |lst {a:Addr} {xs:U'} (h:Ae K H a xs):J1 K H (.ref a) .lst
 |tup {a:Addr} {xs:U'} (h:Ar K H a xs):J1 K H (.ref a) .tup
 |dk {a:Addr} {kvs:Θ} (h:H a=some (.dK kvs)):J1 K H (.ref a) .dct
def Uh:Ty->Ty->Bool
 |.int,.int=>true|.bool,.bool=>true|.bool,.int=>true|.str,.str=>true|.non,.non=>true|.lst,.lst=>true|.tup,.tup=>true|.dct,.dct=>true|_,_=>false
def Ui (K:Aj):U'->Hp->VK->Prop:=λvs H Q=>∃x T T',vs=[x,.ty (Ty.name T)]/\J1 K H x T'/\Q (.bl (Uh T' T)) H
def J2:Bc X (.builtin "isinstance") (Ui X.K):=by
 intro F s σ H g w Q I r h;obtain⟨x,T,z,rfl,ty,q⟩:=h;obtain⟨u,j,rfl,c,p⟩:=Lq r;have k:j=Value.type (Ty.name T):=p;subst k
 cases ty with
 |int i=>
  obtain⟨t,rfl⟩:=c;cases T with|int=>exact IsiPair.int_int ⟨.bl true,H,I,rfl,q⟩|bool=>exact IsiPair.int_bool ⟨.bl false,H,I.tok _,rfl,q⟩|str=>exact IsiPair.int_str ⟨.bl false,H,I.tok _,rfl,q⟩|non=>exact IsiPair.int_NoneType ⟨.bl false,H,I.tok _,rfl,q⟩|lst=>exact IsiPair.int_list ⟨.bl false,H,I.tok _,rfl,q⟩|tup=>exact IsiPair.int_tuple ⟨.bl false,H,I.tok _,rfl,q⟩|dct=>exact IsiPair.int_dict ⟨.bl false,H,I.tok _,rfl,q⟩
 |bl b=>
  obtain rfl:u=Value.bool b:=c;cases T with|int=>exact IsiPair.bool_int ⟨.bl true,H,I,rfl,q⟩|bool=>exact IsiPair.bool_bool ⟨.bl true,H,I,rfl,q⟩|str=>exact IsiPair.bool_str ⟨.bl false,H,I.tok _,rfl,q⟩|non=>exact IsiPair.bool_NoneType ⟨.bl false,H,I.tok _,rfl,q⟩|lst=>exact IsiPair.bool_list ⟨.bl false,H,I.tok _,rfl,q⟩|tup=>exact IsiPair.bool_tuple ⟨.bl false,H,I.tok _,rfl,q⟩|dct=>exact IsiPair.bool_dict ⟨.bl false,H,I.tok _,rfl,q⟩
 |str y=>
  obtain⟨t,rfl⟩:=c;cases T with|int=>exact IsiPair.str_int ⟨.bl false,H,I.tok _,rfl,q⟩|bool=>exact IsiPair.str_bool ⟨.bl false,H,I.tok _,rfl,q⟩|str=>exact IsiPair.str_str ⟨.bl true,H,I,rfl,q⟩|non=>exact IsiPair.str_NoneType ⟨.bl false,H,I.tok _,rfl,q⟩|lst=>exact IsiPair.str_list ⟨.bl false,H,I.tok _,rfl,q⟩|tup=>exact IsiPair.str_tuple ⟨.bl false,H,I.tok _,rfl,q⟩|dct=>exact IsiPair.str_dict ⟨.bl false,H,I.tok _,rfl,q⟩
 |non=>
  obtain rfl:u=Value.none:=c;cases T with|int=>exact IsiPair.NoneType_int ⟨.bl false,H,I.tok _,rfl,q⟩|bool=>exact IsiPair.NoneType_bool ⟨.bl false,H,I.tok _,rfl,q⟩|str=>exact IsiPair.NoneType_str ⟨.bl false,H,I.tok _,rfl,q⟩|non=>exact IsiPair.NoneType_NoneType ⟨.bl true,H,I,rfl,q⟩|lst=>exact IsiPair.NoneType_list ⟨.bl false,H,I.tok _,rfl,q⟩|tup=>exact IsiPair.NoneType_tuple ⟨.bl false,H,I.tok _,rfl,q⟩|dct=>exact IsiPair.NoneType_dict ⟨.bl false,H,I.tok _,rfl,q⟩
 |lst d=>
  obtain rfl:u=Value.ref _:=c;obtain⟨v,l,⟨o,n,e,a,hd,m⟩,f⟩:=I.list d;cases T with|int=>exact IsiPair.list_int e a ⟨.bl false,H,I.tok _,rfl,q⟩|bool=>exact IsiPair.list_bool e a ⟨.bl false,H,I.tok _,rfl,q⟩|str=>exact IsiPair.list_str e a ⟨.bl false,H,I.tok _,rfl,q⟩|non=>exact IsiPair.list_NoneType e a ⟨.bl false,H,I.tok _,rfl,q⟩|lst=>exact IsiPair.list_list e a ⟨.bl true,H,I,rfl,q⟩|tup=>exact IsiPair.list_tuple e a ⟨.bl false,H,I.tok _,rfl,q⟩|dct=>exact IsiPair.list_dict e a ⟨.bl false,H,I.tok _,rfl,q⟩
 |tup d=>
  obtain rfl:u=Value.ref _:=c;obtain⟨v,l,⟨o,e,a,n,m⟩,f⟩:=I.tuple d;cases T with|int=>exact IsiPair.tuple_int e a ⟨.bl false,H,I.tok _,rfl,q⟩|bool=>exact IsiPair.tuple_bool e a ⟨.bl false,H,I.tok _,rfl,q⟩|str=>exact IsiPair.tuple_str e a ⟨.bl false,H,I.tok _,rfl,q⟩|non=>exact IsiPair.tuple_NoneType e a ⟨.bl false,H,I.tok _,rfl,q⟩|lst=>exact IsiPair.tuple_list e a ⟨.bl false,H,I.tok _,rfl,q⟩|tup=>exact IsiPair.tuple_tuple e a ⟨.bl true,H,I,rfl,q⟩|dct=>exact IsiPair.tuple_dict e a ⟨.bl false,H,I.tok _,rfl,q⟩
 |dk d=>
  obtain rfl:u=Value.ref _:=c;obtain⟨f,A,g,E,o,B,C,e,ex,D⟩:=I.hok _ _ d;have a:=ex.1;cases T with|int=>exact IsiPair.dict_int e a ⟨.bl false,H,I.tok _,rfl,q⟩|bool=>exact IsiPair.dict_bool e a ⟨.bl false,H,I.tok _,rfl,q⟩|str=>exact IsiPair.dict_str e a ⟨.bl false,H,I.tok _,rfl,q⟩|non=>exact IsiPair.dict_NoneType e a ⟨.bl false,H,I.tok _,rfl,q⟩|lst=>exact IsiPair.dict_list e a ⟨.bl false,H,I.tok _,rfl,q⟩|tup=>exact IsiPair.dict_tuple e a ⟨.bl false,H,I.tok _,rfl,q⟩|dct=>exact IsiPair.dict_dict e a ⟨.bl true,H,I,rfl,q⟩
def W1{bs:List Bool}{a:G'}(r:Av (bs.map V.bl) a):TruthOf P w A (λi v=>a.toArray[i]?=some v) (λi=>bs.getD i false):=by
 intro i v s Q E d f;have c:a[i]?=some v:=(by simpa using d);have g:=r.length;rw[Am] at g;have k:i<a.length:=(AV.mp c).1;have h:(bs.map V.bl)[i]?=some (V.bl (bs.getD i false)):=(by rw[AQ,CU];have:bs[i]?=some bs[i]:=AD (by lia);rw[this];rfl);obtain⟨u,b,j⟩:=r.get h;rw[c] at b;cases b;have e:v=Value.bool (bs.getD i false):=j;subst e;exact Gw f
def cK{bs:List Bool}:(List.range bs.length).all (λi=>bs.getD i false)=bs.all id:=by rw[Bool.eq_iff_iff,List.all_eq_true,List.all_eq_true];constructor;intro h b d;obtain⟨i,a,e⟩:=QW.mp d;have:=h i (List.mem_range.mpr a);rw[CU,AD a] at this;rw[<-e];exact this;intro h i a;have c:=List.mem_range.mp a;rw[CU,AD c];exact h _ (Ez c)
def Uj (K:Aj):U'->Hp->VK->Prop:=λvs H Q=>∃(a:Addr)(bs:List Bool),vs=[.ref a]/\Ae K H a (bs.map V.bl)/\Q (.bl (bs.all id)) H
def cL(g:X.calm=true):Bc X (.builtin "all") (Uj X.K):=by
 intro B s σ H t w Q I r h;obtain⟨a,bs,rfl,j,q⟩:=h;obtain⟨u,rfl,k⟩:=FG r;obtain rfl:u=Value.ref a:=k;obtain⟨c,d,p,x⟩:=I.list j;have f:=d.length;rw[Am] at f;have n:a<s.heap.objs.size:=by obtain⟨_,e,_⟩:=p.isList;exact Bq e
 refine call_all_walk (wpAny_pyIter_list p.isList ?_);refine⟨s.heap.objs.size,[s.heap.objs.size,a],[s.heap.objs.size],c.toArray.size,(λi v=>c.toArray[i]?=some v),(λi h=>h.IsListIter s.heap.objs.size a i/\h.IsList a c.toArray),(λi=>bs.getD i false),rfl,Walks.list (A:=X.A.in1) (I.ok.hd g) s.heap.objs.size a (Cz n) c.toArray,⟨⟨_,B9 _ rfl,rfl,rfl⟩,p.isList.push _⟩,W1 d,λy tk l=>?_⟩;refine⟨.bl (bs.all id),H,I.kept λb o e=>l b o (λz=>?_) (Bb _ e),?_,q⟩;have m:b=s.heap.objs.size:=(by simpa using z);exact absurd (Bq e) (by rw[m];exact HF _);have e:c.toArray.size=bs.length:=(by rw[Co,f]);show Value.bool _=Value.bool _;rw[e,cK]
variable {pins:B'}{σ:St}{s:Shared}
def Inv.track{T:Addr}{o:HO}(I:Inv X pins σ H s)(f:Dc X pins H T)(p:∃ob,s.heap.get? T=some ob)(l:AB X.prog X.w (upd H T o) s.heap T o):Inv X pins σ (upd H T o) s:=by obtain⟨d,g,r,h,i,j⟩:=f;refine I.step (g':=s.gens) (t':=s.toks) (d':=s.drawn) (h':=s.heap) (ch:=[T]) (λb a=>?_) (λb ob _ _ _ e _=>e) (λb ob _ _ _ e _=>⟨ob.slots,e⟩) (λb ob a e n=>?_) (λb ob _ e=>⟨ob,e⟩) (λb xs e=>?_) (λb ob u e=>?_) (λb t e=>?_) (λm k=>k) (λb u e=>?_) I.bare;have e:b=T:=(by simpa using a);subst e;exact⟨h,g,i,j⟩;rw[AC (by simpa using a)];exact n;rw[AC (A3 e d)];exact e;rw[AC (A3 e d)];exact e;exact⟨#[],by rw[AC (A3 e d),e];simp⟩;by_cases a:b=T;subst a;rw[Aa] at e;cases e;exact l;rw[AC a] at e;exact(I.hok b u e).stay (λc v _ q=>q) (λc q=>by rw[AC (A3 q d)];exact q) λc xs q=>by rw[AC (A3 q d)];exact q
def Gm (env:Env):List (Str×NameKind)->List (Str×Addr)->List (Str×Addr)
 |[],acc=>acc
 |(n,k)::r,acc=>if k==.free then Gm env r ((n,(env.cells.lookup n).getD 0)::acc) else Gm env r acc
theorem Uk{env:Env}(f:Str×NameKind->List (Str×Addr)->Sem (ForInStep (List (Str×Addr))))
 (d:∀n k g,f (n,k) g=if(k==NameKind.free)=true then(cellOf env n >>= λa=>pure (.yield ((n,a)::g))) else pure (.yield g)) :
 ∀(names:List (Str×NameKind))(acc:List (Str×Addr)),(∀x∈names,x.2=.free->∃c,env.cells.lookup x.1=some c)->forIn names acc f=pure (Gm env names acc)
 |[],acc,_=>by rw[List.forIn_nil];rfl
 |(n,k)::r,acc,h=>by
   rw[List.forIn_cons,d];unfold Gm;by_cases b:(k==NameKind.free)=true;rw[Ag b,Ag b];obtain⟨c,j⟩:=h (n,k) Bg (beq_iff_eq.mp b);have e:cellOf env n=pure c:=by unfold cellOf;rw[j]
   rw[e,j];exact Uk f d r _ λx i=>h x (BQ _ i);rw[Ah b,Ah b];exact Uk f d r _ λx i=>h x (BQ _ i)
variable {scope:Scope}{env:Env}
def W2(h:∀x∈scope.names,x.2=.free->∃c,env.cells.lookup x.1=some c):closureFor scope env=pure (Gm env scope.names []):=by simp only[closureFor];rw[Uk (env:=env) _ (λn k b=>by cases a:k==NameKind.free<;>simp[a]) scope.names [] h];rfl
theorem Rm{env:Env}:∀{names:List (Str×NameKind)}{acc:List (Str×Addr)}{x:Str}{c:Addr},(x,c)∈Gm env names acc->(x,c)∈acc\/((x,NameKind.free)∈names/\c=(env.cells.lookup x).getD 0)
 |[],_,_,_,h=>.inl h
 |(n,k)::r,acc,x,c,h=>by unfold Gm at h;by_cases a:(k==NameKind.free)=true;rw[Ag a] at h;rcases Rm h with h|⟨h,e⟩;rcases B1.mp h with h|h;cases h;rw[beq_iff_eq.mp a];exact .inr ⟨Bg,rfl⟩;exact .inl h;exact .inr ⟨BQ _ h,e⟩;rw[Ah a] at h;rcases Rm h with h|⟨h,e⟩;exact .inl h;exact .inr ⟨BQ _ h,e⟩
theorem Ul{env:Env}:∀{names:List (Str×NameKind)}{acc:List (Str×Addr)}{p:Str×Addr},p∈acc->p∈Gm env names acc
 |[],_,_,h=>h
 |(n,k)::r,acc,p,h=>by unfold Gm;by_cases a:(k==NameKind.free)=true;rw[Ag a];exact Ul (BQ _ h);rw[Ah a];exact Ul h
theorem Pt{env:Env}:∀{names:List (Str×NameKind)}{acc:List (Str×Addr)}{x:Str},(x,NameKind.free)∈names->∃c,(x,c)∈Gm env names acc
 |(n,k)::r,acc,x,h=>by unfold Gm;rcases B1.mp h with h|h;cases h;rw[Ag (show(NameKind.free==NameKind.free)=true by rfl)];exact⟨_,Ul Bg⟩;by_cases a:(k==NameKind.free)=true;rw[Ag a];exact Pt h;rw[Ah a];exact Pt h
theorem Oq{α:Type}:∀{l:List (Str×α)}{x:Str}{c:α},(x,c)∈l->∃a,l.lookup x=some a
 |(n,d)::r,x,c,h=>by
   rw[NU]
   cases b:x==n with
   |true=>exact⟨d,rfl⟩
   |false=>rcases B1.mp h with h|h;cases h;simp at b;exact Oq h
theorem Lu:∀(names:List (Str×NameKind))(n:Nat)(acc:List (Str×Addr)),cellsFrom n names acc=cellsFrom n names []++acc
 |[],_,_=>rfl
 |(x,k)::r,n,acc=>by unfold cellsFrom;by_cases a:(k==NameKind.cell)=true;rw[Ag a,Ag a,Lu r (n+1) ((x,n)::acc),Lu r (n+1) [(x,n)],Gu];rfl;rw[Ah a,Ah a];exact Lu r n acc
theorem Rn:∀{names:List (Str×NameKind)}{n:Nat}{acc:List (Str×Addr)}{x:Str}{c:Addr},(x,c)∈cellsFrom n names acc->(x,c)∈acc\/(x,NameKind.cell)∈names
 |[],_,_,_,_,h=>.inl h
 |(y,k)::r,n,acc,x,c,h=>by unfold cellsFrom at h;by_cases a:(k==NameKind.cell)=true;rw[Ag a] at h;rcases Rn h with h|h;rcases B1.mp h with h|h;cases h;rw[beq_iff_eq.mp a];exact .inr Bg;exact .inl h;exact .inr (BQ _ h);rw[Ah a] at h;rcases Rn h with h|h;exact .inl h;exact .inr (BQ _ h)
section
variable {M:Model} {A:Around} {E:D'} {s:Shared}
def cM{a:List (Str×Addr)}{Q:Env->Shared->Prop}
 (b:Q (newEnv scope s.heap.objs.size env.globals (cellsFrom (s.heap.objs.size+1) scope.names a) env.qual none .none (some env) builtinsNs) {s with heap:=pushCells (s.heap.push {cls:=.type "dict",data:=.dict #[]}) scope.names}) :
 wpAny M A (newFunctionEnv scope env.globals a [] env.qual none .none (some env)) Q E s:=by
 simp only[newFunctionEnv,Option.isSome_some,if_true];refine Ad (wpAny_alloc ?_);refine Ad (wpAny_layCells _ (λname d e=>by cases c:d==NameKind.cell<;>simp[c]) _ _ _ _ ?_);rw[show({s with heap:=s.heap.push {cls:=.type "dict",data:=.dict #[]}}:Shared).heap.objs.size=s.heap.objs.size+1 from r9 ..];exact Ad (Ax (Ax b))
end
abbrev E5 (X:Cx) (N:J') (scope:Scope) (cs:List (Str×Addr)) (C:Addr) (s:Shared) (H:Hp) (ex:I'):Cx where
 prog:=X.prog
 w:=X.w
 K:=X.K
 mg:=X.mg
 base:=X.base
 A:=X.A
 N:=N
 s₀:=s
 H₀:=H
 env:=compEnvC scope cs C X.env
 outer:=X.stack
 stack:=X.stack
 ex:=ex
 fn:=λx=>decide (scope.names.lookup x≠some .free)
 calm:=X.calm
 pn:=[]
 xe:=λ_ _=>False
structure Al (psc:Scope) (PN:J') (scope:Scope) (N:J') (k:Nat) (caps:R'):Prop where
 kind:scope.kind=.function
 loc:∀x∈scope.names,x.2=.local->scope.names.lookup x.1=some .local
 ndn:(scope.names.map (·.1)).Nodup
 nd:N.Nodup
 len:N.length=k+caps.length
 free:∀x∈scope.names,x.2=.free->psc.names.lookup x.1=some .cell\/psc.names.lookup x.1=some .free
 cap:∀p∈(N.drop k).zip caps,PN[p.2]?=some p.1/\scope.names.lookup p.1=some .free
def FI (k:Nat) (caps:R') (σ:St):St:=List.replicate k none++caps.map λj=>(σ[j]?).getD none
variable {caps:R'}{i:Nat}{v:V}
def W3{k:Nat}(h:(FI k caps σ)[i]?=some (some v)):∃j,k<=i/\caps[i-k]?=some j/\σ[j]?=some (some v):=by
 unfold FI at h;by_cases b:i<k;rw[D7 (by simpa using b),List.getElem?_replicate,Ag b] at h;cases h;rw[EA (by simpa using b),p7,AQ] at h
 cases e:caps[i-k]? with
 |none=>rw[e] at h;cases h
 |some j=>
  rw[e] at h;have a:(σ[j]?).getD none=some v:=Bt h;refine⟨j,by lia,rfl,?_⟩;cases q:σ[j]? with|none=>rw[q] at a;cases a|some o=>rw[q] at a;exact Bw some a
def W4{a:NameKind}(h:(relabel scope env).names.lookup x=some a):∃k,(x,k)∈scope.names/\(a=k\/(k=.free/\a=.cell)):=by
 have e:=Gx h;have f:(x,a)∈scope.names.map (λ(n,k)=>if(k==NameKind.free && env.scope.kind==.function && env.kindOf n==some .cell) then(n,NameKind.cell) else(n,k)):=e;obtain⟨⟨n,k⟩,d,b⟩:=AW.mp f;dsimp only at b;by_cases c:(k==NameKind.free && env.scope.kind==.function && env.kindOf n==some .cell)=true;rw[Ag c] at b;cases b;simp only[Bool.and_eq_true,beq_iff_eq] at c;exact⟨k,d,.inr ⟨c.1.1,rfl⟩⟩;rw[Ah c] at b;cases b;exact⟨a,d,.inl rfl⟩
theorem W5{f:Str×NameKind->Str×NameKind}(b:∀n k,f (n,k)=(n,k)\/(k=.free/\f (n,k)=(n,NameKind.cell))):∀{names:List (Str×NameKind)}{x:Str},names.lookup x=some .free->(names.map f).lookup x=some .cell\/(names.map f).lookup x=some .free
 |[],_,h=>by simp at h
 |(n,k)::r,x,h=>by
   have d:=@W5 f b r x;rw[NU] at h;rw[D6]
   cases a:x==n with
   |true=>rw[a] at h;cases h;rcases b n .free with e|⟨_,e⟩;right;rw[e,NU,a];left;rw[e,NU,a]
   |false=>rw[a] at h;have c:=d h;rcases b n k with e|⟨_,e⟩;rw[e,NU,a];exact c;rw[e,NU,a];exact c
def W6(h:scope.names.lookup x=some .free):(relabel scope env).names.lookup x=some .cell\/(relabel scope env).names.lookup x=some .free:=by refine W5 (λn k=>?_) h;by_cases a:(k==NameKind.free && env.scope.kind==.function && env.kindOf n==some .cell)=true;right;refine⟨?_,Ag a⟩;simp only[Bool.and_eq_true,beq_iff_eq] at a;exact a.1.1;left;exact Ah a
def Ro{names:List (Str×NameKind)}(h:(names.map (·.1)).Nodup){k d:NameKind}(a:(x,k)∈names)(b:(x,d)∈names):k=d:=by
 induction names with
 |nil=>simp at a
 |cons p r g=>rw[D6] at h;obtain⟨e,i⟩:=F0.mp h;rcases B1.mp a with f|a<;>rcases B1.mp b with c|b;rw[<-f] at c;exact(Prod.mk.inj c).2.symm;exact absurd (AW.mpr ⟨_,b,by rw[<-f]⟩) e;exact absurd (AW.mpr ⟨_,a,by rw[<-c]⟩) e;exact g i a b
variable {h1:Heap}{C:Addr}
def Un.but{fs ex:I'}{h f:Heap}(u:Un fs ex H H' h h1)(c:Heap.SameBut C h1 f)(g:h.objs.size<=C):Un fs ex H H' h f:=by have ne:∀b o,h.get? b=some o->b≠C:=λb o e=>Cz (F1 (Bq e) g);refine⟨λb o e n d a=>(c.2 b (ne b o e)).trans (u.keep b o e n d a),λb o e n d a=>?_,u.free,λb o e a=>?_,u.tups,u.frzs,u.tbls⟩;obtain⟨i,q⟩:=u.slot b o e n d a;exact⟨i,(c.2 b (ne b o e)).trans q⟩;obtain⟨j,q⟩:=u.there b o e a;exact⟨j,(c.2 b (ne b o e)).trans q⟩
def CY.but{d:Heap}(x:CY P w H h1)(g:Heap.SameBut C h1 d)(f:H C=none):CY P w H d:=λb u e=>by refine(x b u e).stay (λc v a q=>(g.2 c ?_).trans q) (λ_ q=>q) λ_ _ q=>q;rintro rfl;rcases a with rfl|a;rw[f] at e;cases e;rw[f] at a;cases a
section
variable {X:Cx} {scope:Scope} {N:J'} {k:Nat} {caps:R'} {psc:Scope} {PN:J'} {pins:B'} {σ:St} {H:Hp} {s:Shared}
abbrev Eb (X:Cx) (scope:Scope) (C:Addr):List (Str×Addr):=cellsFrom (C+1) scope.names (Gm X.env scope.names [])
def W7(I:Inv X pins σ H s)(S:Al X.env.scope X.N scope N k caps){c:Addr}(h:(x,c)∈Eb X scope C) :
 (x,c)∈cellsFrom (C+1) scope.names []\/X.env.cells.lookup x=some c:=by
 unfold Eb at h;rw[Lu] at h;rcases B0.mp h with h|h;exact .inl h;rcases Rm h with h|⟨h,e⟩;simp at h;obtain⟨b,a⟩:=I.ok.has x (S.free _ h rfl);rw[a] at e;exact .inr (by rw[a];exact Bw some e.symm)
def cN{t:I'}(I:Inv X pins σ H s)(S:Al X.env.scope X.N scope N k caps)(B:∀b∈t,Dc X pins H b)(ae:∀b∈t,∃o,s.heap.get? b=some o){D C:Nat}{t':Nat}(g:D=s.heap.objs.size)(J:C=D+1)
 (E:h1=pushCells ((s.heap.push {cls:=.type "list",data:=.seq #[]}).push {cls:=.type "dict",data:=.dict #[]}) scope.names) :
 Inv (E5 X N scope (Eb X scope C) C s H t) [] (FI k caps σ) (upd H D (.lst [])) {s with heap:=h1,toks:=t'}:=by
 have Z:(s.heap.push {cls:=.type "list",data:=.seq #[]}).objs.size=C:=(by rw[r9,J,g]);have aa:((s.heap.push {cls:=.type "list",data:=.seq #[]}).push {cls:=.type "dict",data:=.dict #[]}).objs.size=C+1:=(by rw[r9,Z])
 have G:∀b o,s.heap.get? b=some o->h1.get? b=some o:=λb o e=>by
  rw[E];exact pushCells_keeps _ _ b o (Bb _ (Bb _ e))
 have ak:h1.get? D=some {cls:=.type "list",data:=.seq #[]}:=(by rw[E,g];exact pushCells_keeps _ _ _ _ (Bb _ (B9 _ rfl)));have af:h1.Ns C (λ_=>none):=(by rw[E,<-Z];exact(Heap.Ns.new _ (.type "dict")).keeps (pushCells_keeps _ _));have ok:=cellsFrom_ok scope.names ((s.heap.push {cls:=.type "list",data:=.seq #[]}).push {cls:=.type "dict",data:=.dict #[]}) (C+1) [] ⟨λ_ _ d=>(nomatch d),List.Pairwise.nil⟩ (by rw[aa];exact AF _);rw[aa] at ok;have own:∀x c,(x,c)∈cellsFrom (C+1) scope.names []->h1.IsCell c none/\C+1<=c:=λx c h=>by rw[E];exact ok.empty x c h
 have P:∀x c,X.env.cells.lookup x=some c->c<D:=λx c e=>by
  obtain⟨v,q⟩:=I.cell x c e;rw[g];exact q.lt
 have Y:∀b∈t,b<D:=λb f=>by
  obtain⟨o,e⟩:=ae b f;rw[g];exact Bq e
 have ao:H C=none:=I.hok.fresh (by rw[J,g];exact Nat.le_succ _);have split:=λx c(h:(Eb X scope C).lookup x=some c)=>W7 (C:=C) I S (Gx h);have T:∀b,b≠D->H b=none->(upd H D (.lst [])) b=none:=λb f e=>by rw[AC f];exact e
 have al:∀x,scope.names.lookup x=some .free->∃c,X.env.cells.lookup x=some c/\(Eb X scope C).lookup x=some c:=λx w=>by
  have d:=Gx w;obtain⟨F,K⟩:=Pt (env:=X.env) (acc:=[]) d;obtain⟨c,U⟩:=Oq (l:=Eb X scope C) (x:=x) (c:=F) (by unfold Eb;rw[Lu];exact Db _ K);refine⟨c,?_,U⟩;rcases split x c U with q|q;rcases Rn q with z|z;simp at z;have:=Ro S.ndn d z;cases this;exact q
 have ag:(E5 X N scope (Eb X scope C) C s H t).Ok:=by
  refine⟨I.ok.mod,S.kind,I.ok.glob,I.ok.blt,?above,?inj,?has,?cab,I.ok.hd,I.ok.frames,.inl rfl,?exf,λb o e=>I.bs b o e,FS I.ok.bsz I.sz,?noex,?exfs,I.stack,I.stkFree⟩
  case above =>
   show s.heap.objs.size<=C;rw[J,g];exact Nat.le_succ _
  case inj =>
   intro x y c L M;rcases split x c L with n|n<;>rcases split y c M with r|r;exact name_of_addr ok.apart n r;have h1:@LE.le Nat _ (C+1) c:=(own x c n).2;have a:@LT.lt Nat _ c D:=P y c r;exfalso;lia;have h1:@LE.le Nat _ (C+1) c:=(own y c r).2;have a:@LT.lt Nat _ c D:=P x c n;exfalso;lia;exact I.ok.inj x y c n r
  case has =>
   intro x w;have Q:(relabel scope X.env).names.lookup x=some .cell\/(relabel scope X.env).names.lookup x=some .free:=w;have p:∃m,(x,m)∈scope.names/\(m=.cell\/m=.free):=(by rcases Q with q|q;obtain⟨m,h1,a⟩:=W4 q;rcases a with a|⟨a,_⟩;exact⟨m,h1,.inl a.symm⟩;exact⟨m,h1,.inr a⟩;obtain⟨m,h1,a⟩:=W4 q;rcases a with a|⟨_,a⟩;exact⟨m,h1,.inr a.symm⟩;cases a);obtain⟨m,d,p|p⟩:=p;subst p
   have q:=PySem.W.cellsFrom_some scope.names (C+1) (Gm X.env scope.names []) (x:=x) (.inl (by
    obtain⟨k2,A⟩:=Oq d;rw[A,Ro S.ndn (Gx A) d]))
   exact Option.isSome_iff_exists.mp q;subst p;obtain⟨F,K⟩:=Pt (env:=X.env) (acc:=[]) d;exact Oq (c:=F) (by show(x,F)∈Eb X scope C;unfold Eb;rw[Lu];exact Db _ K)
  case cab =>
   intro x c w e;have Q:decide (scope.names.lookup x≠some .free)=true:=w;have ah:=BG Q;show s.heap.objs.size<=c;have e':(Eb X scope C).lookup x=some c:=e;have d:=Gx e';unfold Eb at d;rw[Lu] at d;rcases B0.mp d with z|z;have h1:@LE.le Nat _ (C+1) c:=(own x c z).2;have a:@LE.le Nat _ s.heap.objs.size c:=(by lia);exact a;rcases Rm z with z|⟨z,_⟩;simp at z;obtain⟨k2,A⟩:=Oq z;exact absurd (by rw[A,Ro S.ndn (Gx A) z]) ah
  case exf =>
   intro b f;refine⟨?_,λx c e z=>?_⟩;have h1:@LT.lt Nat _ b D:=Y b f;exact Cz (show @LT.lt Nat _ b C by lia);rcases split x c e with q|q;have h1:@LE.le Nat _ (C+1) c:=(own x c q).2;have a:@LT.lt Nat _ b D:=Y b f;have V:@Eq Nat c b:=z;lia;exact(B b f).2.2.2.2.1 x c q z
  case noex =>
   intro b o e f;rcases(B b f).2.2.2.1 with q|q;exact I.ok.noex b o e q;exact absurd (F1 (Bq e) (FS I.ok.bsz q)) (HF _)
  case exfs =>
   intro b f z;have V:b∈Fb X.stack:=z;rcases B1.mp (I.stkSub b V) with q|q;exact(B b f).2.1 q;exact(B b f).2.2.1 q
 refine⟨ag,rfl,I.bare,Un.laid G (by rw[g];exact AF _) (I.hok.fresh (by rw[g];exact AF _)),⟨_,af,?loc⟩,?cell,T _ (show @Ne Nat C D by lia) ao,?freeC,λaq O=>absurd O (by simp),?hok,?len⟩
 case loc =>
  intro i x v L M e3;obtain⟨j,hi,hj,hv⟩:=W3 M;have hz:(x,j)∈(N.drop k).zip caps:=(by refine List.mem_iff_getElem?.mpr ⟨i-k,?_⟩;rw[List.getElem?_zip_eq_some];refine⟨?_,hj⟩;rw[List.getElem?_drop,show k+(i-k)=i by lia];exact L);obtain⟨O,R⟩:=S.cap (x,j) hz;have p:=S.free (x,.free) (Gx R) rfl;obtain⟨ar,hn,hl⟩:=I.loc;obtain⟨u,ab,l⟩:=hl j x v O hv (by rcases p with q|q;exact .inr (.inl q);exact .inr (.inr q));refine⟨u,ab,?_⟩;obtain⟨c,ai,aj⟩:=al x R;have an:s.heap.IsCell c (some u):=(by rcases l with⟨q,_⟩|⟨_,c',n,r⟩;have W:X.env.scope.names.lookup x=some .local:=q;rcases p with z|z;rw[W] at z;cases z;rw[W] at z;cases z;rw[ai] at n;cases n;exact r);exact .inr ⟨W6 R,c,aj,an.keeps G⟩
 case cell =>
  intro x c e;rcases split x c e with q|q;exact⟨_,(own x c q).1⟩;obtain⟨v,z⟩:=I.cell x c q;exact⟨v,z.keeps G⟩
 case freeC =>
  intro x c e;rcases split x c e with q|q;have h1:@LE.le Nat _ (C+1) c:=(own x c q).2;have a:@LE.le Nat _ s.heap.objs.size c:=(by lia);exact T c (show @Ne Nat c D by lia) (I.hok.fresh a);exact T c (Cz (P x c q)) (I.freeC x c q)
 case hok =>
  exact I.hok.laid G (by rw[g];exact AF _) ⟨Dp _,[],0,.nil,ak⟩
 case len =>
  show(FI k caps σ).length=N.length;unfold FI;rw[A1,p7,Am,S.len]
def cO{a:I'}(I:Inv X pins σ H s)(S:Al X.env.scope X.N scope N k caps){p:B'}{σ':St}{L:Shared}(Q:∀x c,X.env.cells.lookup x=some c->c∉a)(U:s.heap.objs.size<=C)
 (J:Inv (E5 X N scope (Eb X scope C) C s H a) p σ' H' L):Inv (E5 X N scope (Eb X scope C) C s H a) p (FI k caps σ) H' L:=by
 obtain⟨m,t,_⟩:=id J.loc;refine⟨J.ok,J.os,J.bare,J.base,⟨m,t,λi x v w y V=>?_⟩,J.cell,J.free,J.freeC,J.pin,J.hok,?_⟩;obtain⟨j,W,A,B⟩:=W3 y;have D:(x,j)∈(N.drop k).zip caps:=(by refine List.mem_iff_getElem?.mpr ⟨i-k,?_⟩;rw[List.getElem?_zip_eq_some];refine⟨?_,A⟩;rw[List.getElem?_drop,show k+(i-k)=i by lia];exact w);obtain⟨E,b⟩:=S.cap (x,j) D;have e:=S.free (x,.free) (Gx b) rfl;obtain⟨Y,aa,F⟩:=I.loc;obtain⟨u,r,l⟩:=F j x v E B (by rcases e with q|q;exact .inr (.inl q);exact .inr (.inr q));refine⟨u,r,?_⟩;have T:∃c,X.env.cells.lookup x=some c/\s.heap.IsCell c (some u):=(by rcases l with⟨q,_⟩|⟨_,f,G,K⟩;have g:X.env.scope.names.lookup x=some .local:=q;rcases e with z|z;rw[g] at z;cases z;rw[g] at z;cases z;exact⟨f,G,K⟩);obtain⟨c,d,o,M,hd⟩:=T;have R:(Eb X scope C).lookup x=some c:=(by have h:=Gx b;obtain⟨O,P⟩:=Pt (env:=X.env) (acc:=[]) h;obtain⟨f,n⟩:=Oq (l:=Eb X scope C) (x:=x) (c:=O) (by unfold Eb;rw[Lu];exact Db _ P);rcases W7 (C:=C) I S (Gx n) with q|q;rcases Rn q with z|z;simp at z;have:=Ro S.ndn h z;cases this;rw[d] at q;cases q;exact n);obtain⟨Z,q⟩:=J.base.any M (I.freeC x c d) (Q x c d);exact .inr ⟨W6 b,c,R,_,q,hd⟩;show(FI k caps σ).length=N.length;unfold FI;rw[A1,p7,Am,S.len]
end
def PF (X:Cx) (f:P') (t:TT):Prop:=
 ∀(pins:B')(s:Shared)(σ:St)(H:Hp)(Q:Bool->Hp->Prop),Inv X pins σ H s->t σ H Q ->
  wpAny (model X.prog X.w) X.A (forIn f true λc r=>if r=true then do let ok <-isTrue c X.env (eval c X.env);pure (ForInStep.yield ok) else pure (ForInStep.yield r)) (TP X pins σ Q) X.xe s
def Ia:TT:=λ_ H Q=>Q true H
def FV:PF X [] Ia:=λ_ _ _ H _ I h=>wpAny_tests_nil ⟨H,I,h⟩
def Pu{c:Expr}{t:TT}(h:PT X c t):PF X [c] t:=λpins s σ H Q I a=>wpAny_tests_one (h pins s σ H Q I a)
variable {l j:Expr}{f:P'}
def cP{prog:Program}{R:Result->Shared->Prop}{target:Expr}{pos:Pos}{it acc:Value}(I:Nat->Shared->Prop)
 (turn:∀n s,I n s->wpAny (model prog w) A (pyNext it) (λr b=>match r with
  |none=>R (.ok .next) b
  |some v=>wpAny (model prog w) A (letOwnedTupleGo target it v) (λ_ b=>wpAny (model prog w) A (assign target env v) (λ_ g=>
   wpAny (model prog w) A (forIn f true λc r=>if r=true then do let ok <-isTrue c env (eval c env);pure (ForInStep.yield ok) else pure (ForInStep.yield r)) (λok e =>
    if ok=true then wpAny (model prog w) A (eval l env) (λx i =>
     wpAny (model prog w) A (call (.builtin "list.append") [acc,x]) (λ_ k=>∃m,m<n/\I m k) (λ_ _=>False) i) (λ_ _=>False) e
    else ∃m,m<n/\I m e) (λ_ _=>False) g) (λ_ _=>False) b) (λ_ _=>False) b) (λ_ _=>False) s)
 (n:Nat) (h:I n s) :
 codeAny (model prog w) A (.compLoop (.ListComp l [⟨target,j,f,0⟩] scope pos) 0 it acc env) R s:=by
 refine codeAny_loop rfl I (λn s p=>?_) n h;show wpAny _ A ((compTurn (.ListComp l [⟨target,j,f,0⟩] scope pos) 0 it acc env).onRaise (λx=>do noteFrame x env;theTreesLotGoes x)) _ _ s;refine wpAny_noted ?_;rw[compTurn_list];refine Ad (wpAny_standAt (Ad (F3 (turn n s p) (λr b d=>?_) λ_ _ a=>a.elim)))
 cases r with
 |none=>exact Ax d
 |some v=>
  refine Ad (F3 d (λ_ b d=>?_) λ_ _ a=>a.elim);refine Ad (F3 d (λ_ g q=>Ad (F3 q (λok e o=>?_) λ_ _ a=>a.elim)) λ_ _ a=>a.elim);cases ok with|false=>exact Ax ⟨rfl,o⟩|true=>exact Ad (Ad (F3 o (λx i t=>Ad (F3 t (λ_ k u=>Ax (Ax ⟨rfl,u⟩)) λ_ _ a=>a.elim)) λ_ _ a=>a.elim))
def Jo (J:It) (k:Nat) (caps:R') (g:TG) (tc:TT) (te:TE) (σ:St) (Y:Hp) (Q:Addr->Hp->Prop):Prop:=∀D,Y D=none->∃W:Nat->Nat->U'->Hp->Prop,(∃m,W 0 m [] (upd Y D (.lst [])))/\∀i m ys H2,W i m ys H2 ->
 (J.stop i H2/\Q D H2)\/(J.go i H2/\∀x H3,J.yld i H2 x H3->g x (FI k caps σ) H3 λσ4 H4=>tc σ4 H4 λb H5 =>
  if b=true then te σ4 H5 λy H6=>H6 D=some (.lst ys)/\ys.length<sizeLine/\∃m',m'<m/\W (i+1) m' (ys++[y]) (upd H6 D (.lst (ys++[y]))) else ∃m',m'<m/\W (i+1) m' ys H5)
def Lv (k:Nat) (caps:R') (wi:TI) (g:TG) (tc:TT) (te:TE):TE:=λσ H Q=>wi σ H λJ Y=>Jo J k caps g tc te σ Y λD H2=>Q (.ref D) H2
variable {g:TG}{tc:TT}{te:TE}
def ML{J:It}{k:Nat}{Q:Addr->Hp->Prop}(n:Nat)(Pv:Addr->Nat->U'->Hp->Prop)(l:∀D,Y D=none->Pv D 0 [] (upd Y D (.lst [])))
 (go:∀D i ys a,Pv D i ys a->i<n->J.go i a) (stop:∀D ys a,Pv D n ys a->J.stop n a)
 (o:∀D i ys a x d(R:VK)(j:Hp->Prop),Y D=none->i<n->Pv D i ys a->J.yld i a x d->(∀y e,e D=some (.lst ys)->ys.length<sizeLine->Pv D (i+1) (ys++[y]) (upd e D (.lst (ys++[y])))->R y e)->(∀c,Pv D (i+1) ys c->j c)->g x (FI k caps σ) d λσ4 q=>tc σ4 q λb c=>if b=true then te σ4 c R else j c)
 (hd:∀D ys a,Y D=none->Pv D n ys a->Q D a):Jo J k caps g tc te σ Y Q:=by
 intro D h;refine⟨λi m ys a=>m=n-i/\i<=n/\Pv D i ys a,⟨n,rfl,Dp _,l D h⟩,?_⟩;rintro i m ys a ⟨rfl,w,p⟩;by_cases f:i<n;exact .inr ⟨go D i ys a p f,λx d y=>o D i ys a x d _ _ h f p y (λv e r s t=>⟨r,s,n-(i+1),by lia,rfl,f,t⟩) λc u=>⟨n-(i+1),by lia,rfl,f,u⟩⟩
 . obtain rfl:i=n:=by lia
   exact .inl ⟨stop D ys a p,hd D ys a h p⟩
variable {tg:Expr}{N:J'}
def W8{pos:Pos}{k:Nat}{E:D'}{Q:VK}
 {it:Addr} {d:I'} {G:Nat->Heap->Prop} {J:It} {O:Value->Addr->Result->Shared->Prop} (hc:X.calm=true) (S:Al X.env.scope X.N scope N k caps) (I:Inv X pins σ H s)
 (T:F4 X.prog X.w X.K tg J d it G) (st:G 0 s.heap) (p:∀b∈d,Dc X pins H b)
 (hg:∀K C s H ex,PG (E5 X N scope K C s H ex) tg g) (ht:∀K C s H ex,PF (E5 X N scope K C s H ex) f tc) (he:∀K C s H ex,PE (E5 X N scope K C s H ex) l te)
 (q:Jo J k caps g tc te σ H λD H2=>Q (.ref D) H2)
 (an:∀D C H' L m,C≠X.env.locals->(∀x c,X.env.cells.lookup x=some c->c≠C)->L.heap.Ns C m->(∀h',Heap.SameBut C L.heap h'->Inv X pins σ H' {L with heap:=h'})->H' C=none->s.heap.objs.size<=C->Q (.ref D) H'->O (.ref D) C (.ok .next) L) :
 wpAny (model X.prog X.w) X.A (newList []) (λacc s₃=>wpAny (model X.prog X.w) X.A (newFunctionEnv scope X.env.globals (Gm X.env scope.names []) [] X.env.qual none .none (some X.env)) (λai s₄ =>
  codeAny (model X.prog X.w) X.A (.compStart (.ListComp l [⟨tg,j,f,0⟩] scope pos) 0 (.ref it) acc {ai with scope:=relabel scope X.env}) (O acc ai.locals) s₄) E s₃) E s:=by
 refine wpAny_newObj_type (cM ?_);generalize h:s.heap.objs.size=D;have a0:(s.heap.push {cls:=.type "list",dict:=none,data:=.seq ([]:G').toArray}).objs.size=D+1:=(by rw[r9,h]);dsimp only;rw[a0];have aa:∀b∈d,∃o,s.heap.get? b=some o:=λb a=>let ⟨o,e,_⟩:=T.obj 0 _ st b a;⟨o,e⟩;have ao:H D=none:=I.hok.fresh (by rw[h];exact AF _);have J0:=cN (t':=s.toks) I S p aa (D:=D) (C:=D+1) h.symm rfl rfl;have aq:∀x c,X.env.cells.lookup x=some c->c∉d:=λx c e a=>(p c a).2.2.2.2.1 x c e rfl
 have ab:∀{F:B'}{H':Hp},(∀b∈d,H' b=none)->F=[]->∀b∈d,Dc (E5 X N scope (Eb X scope (D+1)) (D+1) s H d) F H' b:=λ{F H'}R U b a=>by
  obtain⟨o,e⟩:=aa b a;have ar:@LT.lt Nat _ b D:=by rw[<-h];exact Bq e
  subst U;refine⟨R b a,?_,λz=>?_,.inl a,λx c e=>(J0.ok.exf b a).2 x c e,λa1 U=>absurd U (by simp)⟩;show @Ne Nat b (D+1);lia;have Y:b∈Fb X.stack:=z;rcases B1.mp (I.stkSub b Y) with w|w;exact(p b a).2.1 w;exact(p b a).2.2.1 w
 obtain⟨W,⟨m0,w0⟩,turn⟩:=q D ao;have af:G 0 (pushCells ((s.heap.push {cls:=.type "list",data:=.seq #[]}).push {cls:=.type "dict",data:=.dict #[]}) scope.names):=T.keep 0 _ _ st λb a o e=>pushCells_keeps _ _ b o (Bb _ (Bb _ e))
 have au:∀b∈d,(upd H D (.lst [])) b=none:=λb a=>by
  obtain⟨o,e⟩:=aa b a;have ar:@LT.lt Nat _ b D:=by rw[<-h];exact Bq e
  rw[AC (show @Ne Nat b D by lia)];exact(p b a).1
 have av:∀{H':Hp}{L:Shared}{σ':St}{F:B'},Inv (E5 X N scope (Eb X scope (D+1)) (D+1) s H d) F σ' H' L->Q (.ref D) H'->O (.ref D) (D+1) (.ok .next) L:=λ{H' L σ' F}J q=>by
  obtain⟨m,R,_⟩:=id J.loc;refine an D (D+1) H' L m (λz=>?_) (λx c e z=>?_) R (λh' hs=>?_) J.free (by rw[h];exact Nat.le_succ _) q;have h1:@LT.lt Nat _ X.env.locals D:=by rw[<-h];exact I.lt
  have Y:@Eq Nat (D+1) X.env.locals:=z;lia;obtain⟨v,y⟩:=I.cell x c e;have h1:@LT.lt Nat _ c D:=by rw[<-h];exact y.lt
  have Y:@Eq Nat c (D+1):=z;lia;refine I.call' (ch:=d) J.os (J.base.but hs (by rw[h];exact Nat.le_succ _)) (J.hok.but hs J.free) J.bare λb a=>?_;exact⟨(p b a).2.2.2.1,(p b a).2.1,(p b a).2.2.2.2.1,(p b a).2.2.2.2.2⟩
 have aj:codeAny (model X.prog X.w) X.A (.compLoop (.ListComp l [⟨tg,j,f,0⟩] scope pos) 0 (.ref it) (.ref D) (compEnvC scope (Eb X scope (D+1)) (D+1) X.env)) (O (.ref D) (D+1))
  {s with heap:=pushCells ((s.heap.push {cls:=.type "list",data:=.seq #[]}).push {cls:=.type "dict",data:=.dict #[]}) scope.names}:=by
  refine cP (λn L=>∃i r H',Inv (E5 X N scope (Eb X scope (D+1)) (D+1) s H d) [] (FI k caps σ) H' L/\G i L.heap/\(∀b∈d,H' b=none)/\W i n r H') ?_ m0 ⟨0,[],_,J0,af,au,w0⟩;rintro n s3 ⟨i,r,Z,I3,ag,ah,w3⟩;rcases turn i n r Z w3 with⟨stop,qn⟩|⟨go,step⟩
  . refine AX (T.done (E5 X N scope (Eb X scope (D+1)) (D+1) s H d) rfl rfl rfl hc i [] s3 _ Z _ I3 (ab ah rfl) ag stop) λak s4⟨hr,I4⟩=>?_
    subst hr;exact av I4 qn
  refine AX (T.item (E5 X N scope (Eb X scope (D+1)) (D+1) s H d) rfl rfl rfl hc i [] s3 _ Z _ I3 (ab ah rfl) ag go) λak s4⟨al,hr,h4⟩=>?_;subst hr;refine AX h4 λ_ s5⟨x,H5,I5,r5,y5,ae,aw⟩=>?_;have ax:=I5.pinned (ab aw rfl) (T.obj _ _ ae)
  have again:∀{σ7:St}{u:Hp}{A:Shared}{t:Nat}{zs:U'},Inv (E5 X N scope (Eb X scope (D+1)) (D+1) s H d) ([]++Pb d s5.heap) σ7 u A->t<n->W (i+1) t zs u ->
   ∃m,m<n/\∃i r H',Inv (E5 X N scope (Eb X scope (D+1)) (D+1) s H d) [] (FI k caps σ) H' A/\G i A.heap/\(∀b∈d,H' b=none)/\W i m r H':=λ{σ7 u A t zs}B M w7=>by
   refine⟨t,M,i+1,zs,u,cO I S aq (by rw[h];exact Nat.le_succ _) B.unpinned,T.keep _ _ _ ae λb a o e=>(B.pin (b,o) (Db _ (Db _ (Rf a e)))).1,λb a=>?_,w7⟩;obtain⟨o,e,a2⟩:=T.obj _ _ ae b a;exact(B.pin (b,o) (Db _ (Db _ (Rf a e)))).2.1
  refine AX (hg _ _ _ _ _ _ s5 _ H5 x al _ ax r5 (step x H5 y5)) λ_ s6⟨σ6,H6,I6,q6⟩=>?_;refine AX (ht _ _ _ _ _ _ s6 σ6 H6 _ I6 q6) λb A⟨u,B,P⟩=>?_;cases b with|false=>rw[Ah CA] at P ⊢;obtain⟨t,M,w7⟩:=P;exact again B M w7|true=>rw[Ag rfl] at P ⊢;refine AX (he _ _ _ _ _ _ A σ6 u _ B P) λy s8⟨yv,H8,I8,r8,ay,az,t,M,w8⟩=>?_;refine AX (WS (X:=E5 X N scope (Eb X scope (D+1)) (D+1) s H d) _ s8 σ6 H8 (.ref D) [yv] (.ref D) [y] (λ_ H9=>W (i+1) t (r++[yv]) H9) I8 rfl (.cons r8 .nil) ⟨r,ay,az,w8⟩) λ_ s9⟨_,H9,I9,_,w9⟩=>?_;exact again I9 M w9
 exact codeAny_compStart_list aj (T.self _ 0 _ _ _ af aj)
def GJ{pos:Pos}{k:Nat}{b:TI}(c:X.calm=true)(S:Al X.env.scope X.N scope N k caps)(d:PI X tg j b)
 (i:∀a C s H ex,PG (E5 X N scope a C s H ex) tg g) (n:∀a C s H ex,PF (E5 X N scope a C s H ex) f tc) (o:∀a C s H ex,PE (E5 X N scope a C s H ex) l te)
 (p:∀x,foldedSetIterable j X.env x=pure x:=by intro _;rfl):PE X (.ListComp l [⟨tg,j,f,0⟩] scope pos) (Lv k caps b g tc te):=by
 intro pins s σ H Q I h;have E:closureFor scope X.env=pure (Gm X.env scope.names []):=W2 λx r F=>I.ok.has x.1 (S.free x r F);rw[eval_ListComp];refine wpAny_comprehension_free (use:=none) rfl p E S.kind S.loc (AX (d pins s σ H _ I h) λv M h1=>AX h1 λV O t=>?_);obtain⟨it,P,R,J,U,e,u,T,G,w,q⟩:=t;subst e;refine W8 (Q:=Q) c S u T G w i n o q ?_;intro D C H' L m _ _ y z _ _ A;exact⟨m,y,λB K=>⟨.ref D,H',z B K,rfl,A⟩⟩
def Lw{pos E:Pos}{k:Nat}{t:Pos}{u:TI}(F:X.N.Nodup)(aa:X.N[i]?=some x)(n:Loc X.env.scope x)
 (G:X.calm=true) (S:Al X.env.scope X.N scope N k caps) (J:PI X tg j u)
 (K:∀c C s H ex,PG (E5 X N scope c C s H ex) tg g) (M:∀c C s H ex,PF (E5 X N scope c C s H ex) f tc) (O:∀c C s H ex,PE (E5 X N scope c C s H ex) l te)
 (ab:swapsWith (.ListComp l [⟨tg,j,f,0⟩] scope pos) (some (.Name x t)) E.line X.env=pure true:=by rfl)
 (P:∀x,foldedSetIterable j X.env x=pure x:=by intro _;rfl) (ae:X.fn x=true\/X.env.scope.names.lookup x=some .local:=by first|exact .inl rfl|exact .inr rfl|assumption) :
 PS X (.Assign [.Name x t] (.ListComp l [⟨tg,j,f,0⟩] scope pos) E) (HM (Lv k caps u g tc te) (Hr i)):=by
 intro pins s σ H D I h;have af:closureFor scope X.env=pure (Gm X.env scope.names []):=W2 λx n ag=>I.ok.has x.1 (S.free x n ag);rw[exec_Assign_Name_used _ _ _ _ ab];refine Ad (wpAny_standAt (Ad ?_));show wpAny _ _ (do let _ <-comprehension (.ListComp l [⟨tg,j,f,0⟩] scope pos) scope X.env _ (newList []) false (eval j X.env) (some (assign (.Name x t) X.env))) _ _ s
 refine Ad (F3 (wpAny_comprehension_free (use:=some (assign (.Name x t) X.env)) (Q:=λ_ L=>SP X pins D .next L) rfl P af S.kind S.loc
  (AX (J pins s σ H _ I h) λv s1 h1=>AX h1 λau s2 R=>?_)) (λ_ L o=>Ax (Ax o)) λ_ _ e=>e)
 obtain⟨it,fp,tn,aq,H2,e,r,T,ah,U,q⟩:=R;subst e;refine W8 (Q:=λx Y=>Hr i x σ Y D.nx) G S r T ah U K M O q ?_;intro w C H' L m y A W Z ai B o;have I3:=Z L.heap (.refl ..);have aj:Inv X pins σ H' L:=I3;refine wpAny_assign_Name (Wx aj F aa n (show RelV (V.ref w) (.ref w) from rfl) (λak I4⟨a,al,d⟩=>?_) ae);have an:C≠a:=(by rcases d with d|d;rw[d];exact y;exact Ne.symm (A x a d));refine⟨m,W.sameBut al an,λh' ao=>?_⟩;refine⟨_,H',?_,o⟩
 exact I4.turned (t':=ak.toks) (λb ar hb e=>(ao.2 b hb).trans e) ai y (.inr (FS r.sz B)) A λp hp z=>by
  have:=Bq (r.pin p hp).1;rw[z] at this;exact absurd (F1 this B) (HF _)
def BL (P:Program) (w:World) (K:Aj) (mg:Str->L') (base:Heap) (x:Str) (k:Nat) (ps:J') (sp:Sp):Prop:=
 ∃f fd,ED P w K mg base Jn k f fd ps sp/\mg x=some (.ref f)/\PySem.W.keepIn K (.ref f)=true/\Binds K fd ps []
section
variable {X:Cx} {x:Str} {k:Nat} {ps:J'} {sp:Sp} {e:Expr} {es:P'} {t:TA} {p pos:Pos}
def A7(C:BL X.prog X.w X.K X.mg X.base x k ps sp)(a:PA X (e::es) t)(b:B2 k X.A:=by exact B2.mono (by assumption) (by decide))(c:Gl X x:=by rfl)(j:(x==o9)=false:=by decide)
 (d:starEach (e::es) X.env=(false,eval e X.env)::starEach es X.env:=by rfl) (l:(backTo pos (starEach es X.env)).any (·.1)=false:=by rfl):PE X (.Call (.Name x p) (e::es) [] pos) (HS sp [] E0 t):=by
 obtain⟨f,fd,F,g,h,i⟩:=C;exact JP F b c g h i .nil Ps a j d l
end
def J3{pos:Pos}(n:String)(a:Gl X x)(b:X.mg x=none)(hv:bootBuiltins x=some (.type n))(c:x ≠ "__name__" :=by decide)(hd:(x==o9)=false:=by decide):PE X (.Name x pos) (tC (.ty n)):=JJ (v:=.ty n) a b hv rfl c hd
def Jp{t u:TS}{D:Ends}{σ:L2.St}(P:L2.St->Hp->Prop)(a:∀σ' H',P σ' H'->u D σ' H')(b:∀N:L2.St->Hp->Prop,(∀σ' H',P σ' H'->N σ' H')->t {D with nx:=N} σ H):HK t u D σ H:=b (u D) a
def Ac.upd{H H':Hp}{D:Addr}{o:HO}(h:Ac H H')(a:H D=none):Ac H (upd H' D o):=λb u e=>by rw[AC (A3 e a)];exact h b u e
def Ac.seqT{K:Aj}(e:Ac H H')(h:Ar K H a xs):Ar K H' a xs:=by rcases h with(h|⟨o,h⟩)|h;exact .inl (.inl (e _ _ h));exact .inl (.inr ⟨o,e _ _ h⟩);exact .inr h
def Um{K:Aj}{k:Nat}{Q:Addr->Hp->Prop}(f:V->V)(s:xs.length<=sizeLine)(l:Ae K Y a xs)
 (r:∀(i:Nat)(x:V)(b:Hp)(D:Addr)(R:VK),xs[i]?=some x->Ac Y b->Y D=none->(∀h,Ac b h->R (f x) h)->g x (FI k caps σ) b λσ4 m=>te σ4 m R)
 (hd:∀(b:Hp)(D:Addr),Ac Y b->Y D=none->b D=some (.lst (xs.map f))->Q D b):Jo (Oa K a) k caps g Ia te σ Y Q:=by
 refine ML xs.length (λD i c b=>c=(xs.take i).map f/\Ac Y b/\b D=some (.lst c)) (λD d=>⟨rfl,(Ac.refl _).upd d,Aa⟩) (λD i c b p n=>⟨xs,xs[i],p.2.1.seq l,by simp[n]⟩) (λD c b p=>⟨xs,p.2.1.seq l,AF _⟩) (λD i c b x h R t d n p y k u=>?_) λD c b d p=>?_;obtain⟨rfl,y⟩:=y;obtain⟨rfl,e,j⟩:=p;have o:=y xs (e.seq l);refine r i x h D _ o e d λm q=>k _ _ (q _ _ j) (by rw[Am,FQ];lia) ⟨?_,(e.trans q).upd d,Aa⟩;rw[E8,o,Ba];rfl;obtain⟨rfl,e,j⟩:=p;rw[EU] at j;exact hd b D e d j
def DU (ns:F') (k:Int):Int:=(ns[k.toNat]?).getD 0
def Uo{u:TS}{D:Ends}(h:u D (σ.set i (some v)) H):HK (HM (tC v) (Hr i)) u D σ H:=h
def Up{k:Int}(a:0<=k)(h1:k<n):Hs n k=some k.toNat:=by unfold Hs;rw[Ag a,Ag h1]
def W9(xs:U')(n:Nat):EE xs none (some (n:Int))=xs.take n:=by unfold EE;rw[HT.sIx_none,HT.sIx_nat,List.drop_zero,Nat.sub_zero];by_cases h:n<=xs.length;rw[Nat.min_eq_left h];rw[Nat.min_eq_right (by lia),List.take_of_length_le (AF _),List.take_of_length_le (by lia)]
def Uq(xs:U')(n:Nat):EE xs (some (n:Int)) none=xs.drop n:=by
 unfold EE;rw[HT.sIx_none,HT.sIx_nat];by_cases h:n<=xs.length;rw[Nat.min_eq_left h,List.take_of_length_le (by rw[HE];exact AF _)];rw[Nat.min_eq_right (by lia),List.drop_of_length_le (AF _),List.drop_of_length_le (by lia)];simp
def cQ(xs:U'):EE xs none (some (-1))=xs.dropLast:=by unfold EE;rw[HT.sIx_none,List.drop_zero,Nat.sub_zero,List.dropLast_eq_take];congr 1;simp[HT.sIx];lia
def A0{p:Addr}{o:HO}(h:H p=none):Ac H (upd H p o):=(Ac.refl H).upd h
def Em{σ:L2.St}{N:L2.St->Hp->Prop}(h:N (σ.set i (some v)) H):Hr i v σ H N:=h
section
variable {X:Cx}
def Fc:Og X "list.append" WR:=WS
def Pw:Og X "list.extend" WT:=cA
end
section
variable {X:Cx}
def J4 (neg:Bool):R2:=λx y H Q=>∃a o,y=.ref a/\De H a x o/\Q (.bl (o.isSome != neg)) H
def Xa(b:X.A.units+1<cLine):DS X (compareOp .In) (J4 false):=by intro pins s σ H x y v u Q I c d h;obtain⟨a,o,rfl,g,q⟩:=h;cases d;refine Ua b I g c λL e=>⟨.bl _,H,e,?_,q⟩;cases o<;>rfl
def cR:V->V->V->Hp->(Hp->Prop)->Prop:=λo i v H Q=>∃a H',o=.ref a/\HZ H a i v H'/\Q H'
def cS(b:X.A.units+1<cLine):JL X cR:=by intro pins s σ H o i v j k u Q I c d e h;obtain⟨a,H',rfl,g,q⟩:=h;cases c;exact cC b I g d e λL f=>⟨H',f,q⟩
def Xb{a:Expr}{b:TE}(c:PE X a b)(d:∀whole,isTrue a X.env whole=(do let v <-whole;standAt a.pos;holding [v] (truthy v)):=by intro _;rfl) :
 PT X a (λσ H Q=>b σ H λx Y=>∃p xs,x=.ref p/\Ae X.K Y p xs/\Q (!xs.isEmpty) Y):=by
 intro pins s σ H Q I e;refine isTrue_plain (AX (c pins s σ H _ I e) λv f⟨x,Y,g,h,i⟩=>?_) (d _);obtain⟨p,xs,rfl,j,q⟩:=i;exact Mw pins f σ Y _ v Q g h ⟨_,p4 ⟨xs,j,rfl⟩,q⟩
end
section
variable {prog:Program} {w:World} {A:Around} {R:Result->Shared->Prop} {It:Addr} {fp u:I'} {G:Array GenState->Array GenState->Prop} {n:Nat} {Pn:Nat->Value->Prop} {Sn:Nat->Shared->Prop}
end
section
variable {prog:Program} {w:World} {A:Around} {E:D'} {s:Shared}
end
section
variable {X:Cx}
end
open PySem.SeqAt
inductive Dt where
 |non|bl (b:Bool)|int (i:Int)|str (x:Str)|tup (l:List Dt)|lst (l:List Dt)
mutual
inductive Aq (K:Aj) (H:Hp):V->Dt->Prop where
 | non:Aq K H .non .non
 | bl (b:Bool):Aq K H (.bl b) (.bl b)
 | int (i:Int):Aq K H (.int i) (.int i)
 | str (x:Str):Aq K H (.str x) (.str x)
 | tup {a:Addr} {vs:U'} {ds:List Dt} (h:Ar K H a vs) (t:Ak K H vs ds):Aq K H (.ref a) (.tup ds)
 | lst {a:Addr} {vs:U'} {ds:List Dt} (h:Ae K H a vs) (t:Ak K H vs ds):Aq K H (.ref a) (.lst ds)
inductive Ak (K:Aj) (H:Hp):U'->List Dt->Prop where
 | nil:Ak K H [] []
 | cons {v:V} {d:Dt} {vs:U'} {ds:List Dt} (h:Aq K H v d) (t:Ak K H vs ds):Ak K H (v :: vs) (d :: ds)
end
mutual
theorem Aq.same {K:Aj}{H H':Hp} (e:Ac H H') {v:V} {d:Dt} (h:Aq K H v d):Aq K H' v d:=by
 cases h with| non=>exact .non| bl b=>exact .bl b| int i=>exact .int i| str x=>exact .str x| tup h t=>exact .tup (e.seqT h) (Ak.same e t)| lst h t=>exact .lst (e.seq h) (Ak.same e t)
theorem Ak.same {K:Aj}{H H':Hp} (e:Ac H H') {vs:U'} {a:List Dt} (h:Ak K H vs a):Ak K H' vs a:=by
 cases h with| nil=>exact .nil| cons h t=>exact .cons (Aq.same e h) (Ak.same e t)
end
theorem Ak.length{K:Aj}{H:Hp}:∀{vs:U'}{a:List Dt},Ak K H vs a->vs.length=a.length
 |_,_,.nil=>rfl
 |_,_,.cons _ t=>Bw (·+1) t.length
theorem Ak.get{K:Aj}{H:Hp}:∀{vs:U'}{a:List Dt}{i:Nat}{v:V},Ak K H vs a->vs[i]?=some v->∃d,a[i]?=some d/\Aq K H v d
 |_,_,_,_,.nil,e=>by simp at e
 |_,_,0,_,.cons h _,e=>by simp at e;subst e;exact⟨_,rfl,h⟩
 |_,_,i+1,v,.cons _ t,e=>by obtain⟨d,h1,b⟩:=Ak.get (i:=i) (v:=v) t (by simpa using e);exact⟨d,by simpa using h1,b⟩
theorem Ak.get'{K:Aj}{H:Hp}:∀{vs:U'}{a:List Dt}{i:Nat}{d:Dt},Ak K H vs a->a[i]?=some d->∃v,vs[i]?=some v/\Aq K H v d
 |_,_,_,_,.nil,e=>by simp at e
 |_,_,0,_,.cons h _,e=>by simp at e;subst e;exact⟨_,rfl,h⟩
 |_,_,i+1,v,.cons _ t,e=>by obtain⟨d,h1,b⟩:=Ak.get' (i:=i) (d:=v) t (by simpa using e);exact⟨d,by simpa using h1,b⟩
theorem Ak.strs{K:Aj}{H:Hp}:∀(xs:J'),Ak K H (xs.map V.str) (xs.map Dt.str)
 |[]=>.nil
 |x::xs=>.cons (.str x) (Ak.strs xs)
section
variable {X:Cx} {pins:B'} {σ:St} {H:Hp} {s:Shared}
def Inv.not_both(I:Inv X pins σ H s){ys:U'}(h:Ae X.K H a xs)(h':Ar X.K H a ys):False:=by obtain⟨_,_,⟨o,n,e,c,_⟩,_⟩:=I.list h;obtain⟨_,_,⟨f,b,d,_⟩,_⟩:=I.tuple h';rw[e] at b;cases b;rw[c] at d;exact absurd d (by decide)
mutual
theorem Aq.inj (I:Inv X pins σ H s) {v:V} {d e:Dt} (h:Aq X.K H v d) (h':Aq X.K H v e):d=e:=by
 cases h with
 | non=>cases h';rfl
 | bl _=>cases h';rfl
 | int _=>cases h';rfl
 | str _=>cases h';rfl
 | tup h t=>cases h' with
   | tup h' a=>have e:=I.tuple_inj h h';subst e;rw[Ak.inj I t a]
   | lst h' _=>exact(I.not_both h' h).elim
 | lst h t=>cases h' with
   | lst h' a=>have e:=I.list_inj h h';subst e;rw[Ak.inj I t a]
   | tup h' _=>exact(I.not_both h h').elim
theorem Ak.inj (I:Inv X pins σ H s) {vs:U'} {a es:List Dt} (h:Ak X.K H vs a) (h':Ak X.K H vs es):a=es:=by
 cases h with
 | nil=>cases h';rfl
 | cons h t=>cases h' with
   | cons h' b=>rw[Aq.inj I h h',Ak.inj I t b]
end
end
def Dt.kd:Dt->Nat
 |.non=>0|.bl _=>1|.int _=>2|.str _=>3|.tup _=>4|.lst _=>5
def Hv (a b:Nat):Bool:=a != b && !(a==1 && b==2) && !(a==2 && b==1)
mutual
inductive DV:Nat->Dt->Dt->Prop where
 | non {n:Nat}:DV n .non .non
 | bl {n:Nat} (a b:Bool):DV n (.bl a) (.bl b)
 | int {n:Nat} (a b:Int):DV n (.int a) (.int b)
 | str {n:Nat} (a b:Str):DV n (.str a) (.str b)
 | tup {n:Nat} {ds es:List Dt} (t:BB n ds es):DV (n+1) (.tup ds) (.tup es)
 | lst {n:Nat} {ds es:List Dt} (t:BB n ds es):DV (n+1) (.lst ds) (.lst es)
 | apart {n:Nat} {d e:Dt} (h:Hv d.kd e.kd=true):DV (n+1) d e
inductive BB:Nat->List Dt->List Dt->Prop where
 | nil {n:Nat} (es:List Dt):BB n [] es
 | nil' {n:Nat} (ds:List Dt):BB n ds []
 | cons {n:Nat} {d e:Dt} {ds es:List Dt} (h:DV n d e) (t:BB n ds es):BB n (d :: ds) (e :: es)
end
theorem BB.of{n:Nat}:∀{a es:List Dt},(∀d∈a,∀e∈es,DV n d e)->BB n a es
 |[],es,_=>.nil es
 |d::a,[],_=>.nil' _
 |d::a,e::es,h=>.cons (h d (by simp) e (by simp)) (BB.of λx b y c=>h x (by simp[b]) y (by simp[c]))
open Classical in
noncomputable def dec (p:Prop):Bool:=decide p
variable {p:Prop}
def Eu(h:p):dec p=true:=@Bs p (Classical.propDecidable p) h
def EV(h:¬p):dec p=false:=@DL p (Classical.propDecidable p) h
def Ev:dec p=true↔p:=⟨λh=>@BG p (Classical.propDecidable p) h,Eu⟩
def Ot{q:Prop}(h:p↔q):dec p=dec q:=by rw[propext h]
def Ur{α:Type} [BEq α] [LawfulBEq α]{a b:α}(h:p↔a=b):(a==b)=dec p:=by by_cases e:a=b;subst e;rw[Eu (h.mpr rfl)];exact beq_self_eq_true _;rw[EV λq=>e (h.mp q)];exact beq_false_of_ne e
variable {ds es:List Dt}
def cT(b:ds.length=es.length)(h:∀i,i<ds.length->ds[i]?=es[i]?):ds=es:=t4 λi=>by by_cases a:i<ds.length;exact h i a;rw[Ek (by lia),Ek (by lia)]
section
variable {X:Cx} {pins:B'} {σ:St} {H:Hp} {s:Shared}
def Hw(A:Around):A.in1.units=A.units+1:=rfl
def Xc(I:Inv X pins σ H s){vs us:U'}{a b:G'}(c:Av vs a)(f:Av us b)(J:Ak X.K H vs ds)(m:Ak X.K H us es)
 (n:∀(i:Nat)(d e:Dt)(v u:V)(x y:Value),ds[i]?=some d->es[i]?=some e->RelV v x->RelV u y->Aq X.K H v d->Aq X.K H u e->EqAt A s x y (dec (d=e))) :
 ∀j(h1:j<a.toArray.size)(g:j<b.toArray.size),EqAt A s a.toArray[j] b.toArray[j] (dec (ds[j]?=es[j]?)):=by
 intro j h1 g;have B:=c.length;have C:=f.length;have w:j<a.length:=(by simpa using h1);have z:j<b.length:=(by simpa using g);obtain⟨x,h,o⟩:=c.get (i:=j) (x:=vs[j]'(by lia)) (AD (by lia));obtain⟨y,k,r⟩:=f.get (i:=j) (x:=us[j]'(by lia)) (AD (by lia));obtain⟨d,hd,M⟩:=J.get (i:=j) (v:=vs[j]'(by lia)) (AD (by lia));obtain⟨e,l,te⟩:=m.get (i:=j) (v:=us[j]'(by lia)) (AD (by lia));have ex:a.toArray[j]=x:=(by rw[AD w] at h;simpa using h);have t:b.toArray[j]=y:=(by rw[AD z] at k;simpa using k);rw[ex,t,hd,l];have:=n j d e _ _ x y hd l o r M te;rw[Ot (p:=some d=some e) (q:=d=e) (by simp)];exact this
def Xd(a:n=ds.length)(b:ds.length=es.length):(List.range n).all (λj=>dec (ds[j]?=es[j]?))=dec (ds=es):=by subst a;by_cases h:ds=es;subst h;rw[Eu rfl,List.all_eq_true];exact λi _=>Eu rfl;rw[EV h,Bool.eq_false_iff];intro q;rw[List.all_eq_true] at q;exact h (cT b λi c=>Ev.mp (q i (List.mem_range.mpr c)))
variable {d e:Dt}{u:V}{y:Value}
def cU(I:Inv X pins σ H s){x:Value}(h:Hv d.kd e.kd=true)(M:Aq X.K H v d)(te:Aq X.K H u e)(j:RelV v x)(f:RelV u y)(c:A.units<cLine):EqAt A s x y false/\RcAt A s x y false/\RcNeAt A s x y true:=by
 cases M with
 |non=>
  cases j;cases te with|non=>exact absurd h (by simp[Hv,Dt.kd])|bl b=>cases f;exact⟨EqAt.none_bool _,RcAt.none_bool _,RcNeAt.none_bool _⟩|int b=>obtain⟨i,rfl⟩:=f;exact⟨EqAt.none_int _ _,RcAt.none_int _ _,RcNeAt.none_int _ _⟩|str b=>obtain⟨i,rfl⟩:=f;exact⟨EqAt.none_str _ _,RcAt.none_str _ _,RcNeAt.none_str _ _⟩|tup g i=>cases f;obtain⟨_,_,J,_⟩:=I.tuple g;exact⟨EqAt.none_tuple J c,RcAt.none_tuple J c,RcNeAt.none_tuple J c⟩|lst g i=>cases f;obtain⟨_,_,J,_⟩:=I.list g;have J:=J.isList;exact⟨EqAt.none_list J c,RcAt.none_list J c,RcNeAt.none_list J c⟩
 |bl a=>
  cases j;cases te with|non=>cases f;exact⟨EqAt.bool_none _,RcAt.bool_none _,RcNeAt.bool_none _⟩|bl b=>exact absurd h (by simp[Hv,Dt.kd])|int b=>exact absurd h (by simp[Hv,Dt.kd])|str b=>obtain⟨i,rfl⟩:=f;exact⟨EqAt.bool_str _ _ _,RcAt.bool_str _ _ _,RcNeAt.bool_str _ _ _⟩|tup g i=>cases f;obtain⟨_,_,J,_⟩:=I.tuple g;exact⟨EqAt.bool_tuple _ J c,RcAt.bool_tuple _ J c,RcNeAt.bool_tuple _ J c⟩|lst g i=>cases f;obtain⟨_,_,J,_⟩:=I.list g;have J:=J.isList;exact⟨EqAt.bool_list _ J c,RcAt.bool_list _ J c,RcNeAt.bool_list _ J c⟩
 |int a=>
  obtain⟨t,rfl⟩:=j;cases te with|non=>cases f;exact⟨EqAt.int_none _ _,RcAt.int_none _ _,RcNeAt.int_none _ _⟩|bl b=>exact absurd h (by simp[Hv,Dt.kd])|int b=>exact absurd h (by simp[Hv,Dt.kd])|str b=>obtain⟨i,rfl⟩:=f;exact⟨EqAt.int_str _ _ _ _,RcAt.int_str _ _ _ _,RcNeAt.int_str _ _ _ _⟩|tup g i=>cases f;obtain⟨_,_,J,_⟩:=I.tuple g;exact⟨EqAt.int_tuple _ _ J c,RcAt.int_tuple _ _ J c,RcNeAt.int_tuple _ _ J c⟩|lst g i=>cases f;obtain⟨_,_,J,_⟩:=I.list g;have J:=J.isList;exact⟨EqAt.int_list _ _ J c,RcAt.int_list _ _ J c,RcNeAt.int_list _ _ J c⟩
 |str a=>
  obtain⟨t,rfl⟩:=j;cases te with|non=>cases f;exact⟨EqAt.str_none _ _,RcAt.str_none _ _,RcNeAt.str_none _ _⟩|bl b=>cases f;exact⟨EqAt.str_bool _ _ _,RcAt.str_bool _ _ _,RcNeAt.str_bool _ _ _⟩|int b=>obtain⟨i,rfl⟩:=f;exact⟨EqAt.str_int _ _ _ _,RcAt.str_int _ _ _ _,RcNeAt.str_int _ _ _ _⟩|str b=>exact absurd h (by simp[Hv,Dt.kd])|tup g i=>cases f;obtain⟨_,_,J,_⟩:=I.tuple g;exact⟨EqAt.str_tuple _ _ J c,RcAt.str_tuple _ _ J c,RcNeAt.str_tuple _ _ J c⟩|lst g i=>cases f;obtain⟨_,_,J,_⟩:=I.list g;have J:=J.isList;exact⟨EqAt.str_list _ _ J c,RcAt.str_list _ _ J c,RcNeAt.str_list _ _ J c⟩
 |tup h1 k=>
  cases j;obtain⟨_,_,p,_⟩:=I.tuple h1;cases te with|non=>cases f;exact⟨EqAt.tuple_none p c,RcAt.tuple_none p c,RcNeAt.tuple_none p c⟩|bl b=>cases f;exact⟨EqAt.tuple_bool _ p c,RcAt.tuple_bool _ p c,RcNeAt.tuple_bool _ p c⟩|int b=>obtain⟨i,rfl⟩:=f;exact⟨EqAt.tuple_int _ _ p c,RcAt.tuple_int _ _ p c,RcNeAt.tuple_int _ _ p c⟩|str b=>obtain⟨i,rfl⟩:=f;exact⟨EqAt.tuple_str _ _ p c,RcAt.tuple_str _ _ p c,RcNeAt.tuple_str _ _ p c⟩|tup g i=>exact absurd h (by simp[Hv,Dt.kd])|lst g i=>cases f;obtain⟨_,_,J,_⟩:=I.list g;have J:=J.isList;exact⟨EqAt.tuple_list p J c,RcAt.tuple_list p J c,RcNeAt.tuple_list p J c⟩
 |lst h1 k=>
  cases j;obtain⟨_,_,p,_⟩:=I.list h1;have p:=p.isList;cases te with|non=>cases f;exact⟨EqAt.list_none p c,RcAt.list_none p c,RcNeAt.list_none p c⟩|bl b=>cases f;exact⟨EqAt.list_bool _ p c,RcAt.list_bool _ p c,RcNeAt.list_bool _ p c⟩|int b=>obtain⟨i,rfl⟩:=f;exact⟨EqAt.list_int _ _ p c,RcAt.list_int _ _ p c,RcNeAt.list_int _ _ p c⟩|str b=>obtain⟨i,rfl⟩:=f;exact⟨EqAt.list_str _ _ p c,RcAt.list_str _ _ p c,RcNeAt.list_str _ _ p c⟩|tup g i=>cases f;obtain⟨_,_,J,_⟩:=I.tuple g;exact⟨EqAt.list_tuple p J c,RcAt.list_tuple p J c,RcNeAt.list_tuple p J c⟩|lst g i=>exact absurd h (by simp[Hv,Dt.kd])
def Xe(I:Inv X pins σ H s){x:Value}(M:Aq X.K H v d)(te:Aq X.K H u e)(b:RelV v x)(i:RelV u y)(h:RcAt A s x y (dec (d=e))):EqAt A s x y (dec (d=e)):=by
 by_cases g:x=y;subst g;have j:=b.inj i;subst j;rw[Eu (Aq.inj I M te)];exact EqAt.same _;intro f w E Q c;unfold eqBool;refine FD ?_;refine wpAny_ite_split (λk=>absurd (eq_of_beq k) g) (λ_=>?_);cases M with|non=>cases b;exact Ad (h f w E _ (Gw c))|bl a=>cases b;exact Ad (h f w E _ (Gw c))|int a=>obtain⟨t,rfl⟩:=b;exact Ad (h f w E _ (Gw c))|str a=>obtain⟨t,rfl⟩:=b;exact Ad (h f w E _ (Gw c))|tup _ _=>cases b;exact Ad (h f w E _ (Gw c))|lst _ _=>cases b;exact Ad (h f w E _ (Gw c))
def Px(h:Hv d.kd e.kd=true):¬d=e:=λz=>by subst z;simp[Hv] at h
set_option tactic.hygienic true in
mutual
theorem Us (I:Inv X pins σ H s) {n:Nat} {d e:Dt} {v u:V} {x y:Value} {A:Around} (c:DV n d e) (M:Aq X.K H v d) (te:Aq X.K H u e) (g:RelV v x) (i:RelV u y) (N:A.units+n<cLine):RcAt A s x y (dec (d=e))/\RcNeAt A s x y (!dec (d=e)):=by
 cases c with
 | non=>cases M;cases te;cases g;cases i;rw[Eu rfl];exact⟨RcAt.none_none,RcNeAt.none_none⟩
 | bl a b=>cases M;cases te;cases g;cases i;rw[<-Ur (a:=a) (b:=b) (by simp)];exact⟨RcAt.bool_bool a b,RcNeAt.bool_bool a b⟩
 | int a b=>cases M;cases te;obtain⟨t,rfl⟩:=g;obtain⟨f,rfl⟩:=i;rw[<-Ur (a:=a) (b:=b) (by simp)];exact⟨RcAt.int_int a t b f,RcNeAt.int_int a t b f⟩
 | str a b=>cases M;cases te;obtain⟨t,rfl⟩:=g;obtain⟨f,rfl⟩:=i;rw[<-Ur (a:=a) (b:=b) (by simp)];exact⟨RcAt.str_str a t b f,RcNeAt.str_str a t b f⟩
 | @tup n ds es c=>
  cases M;cases te;rename_i a D h t b E B f;cases g;cases i;obtain⟨k,r,p,_⟩:=I.tuple h;obtain⟨l,m,R,_⟩:=I.tuple B;have F:=r.length;have G:=m.length;have J:=t.length;have K:=f.length;have o:=Xc (A:=A.in1) I r m t f (MM I c (by rw[Hw];lia))
  have e:dec (Dt.tup ds=Dt.tup es)=((List.range (min k.toArray.size l.toArray.size)).all (fun j=>dec (ds[j]?=es[j]?)) && k.toArray.size == l.toArray.size):=by
   rw[Ot (p:=Dt.tup ds=Dt.tup es) (q:=ds=es) (by simp)];simp only[Co];by_cases w:ds.length=es.length;rw[show(k.length == l.length)=true from beq_iff_eq.mpr (by lia),Bool.and_true,Xd (by lia) w];rw[show(k.length == l.length)=false from beq_false_of_ne (by lia),Bool.and_false,EV fun z=>w (by rw[z])]
  rw[e];exact⟨RcAt.tuples (A:=A) p R (by lia) o,RcNeAt.tuples (A:=A) p R (by lia) o⟩
 | @lst n ds es c=>
  cases M;cases te;rename_i a D h t b E B f;cases g;cases i;obtain⟨k,r,p,_⟩:=I.list h;obtain⟨l,m,R,_⟩:=I.list B;have F:=r.length;have G:=m.length;have J:=t.length;have K:=f.length;by_cases w:ds.length=es.length;have o:=Xc (A:=A.in1) I r m t f (MM I c (by rw[Hw];lia));rw[Ot (p:=Dt.lst ds=Dt.lst es) (q:=ds=es) (by simp),<-Xd (n:=k.toArray.size) (by simp only[Co];lia) w];exact⟨RcAt.lists (A:=A) p.isList R.isList (by simp only[Co];lia) (by lia) o,RcNeAt.lists (A:=A) p.isList R.isList (by simp only[Co];lia) (by lia) o⟩;rw[EV (show ¬Dt.lst ds=Dt.lst es from fun z=>w (by cases z;rfl))];have C:(k.toArray.size != l.toArray.size)=true:=by simp only[Co];rw[bne_iff_ne];lia
  exact⟨RcAt.lists_lengths p.isList R.isList C (by lia),RcNeAt.lists_lengths p.isList R.isList C (by lia)⟩
 | apart h=>obtain⟨_,h1,L⟩:=cU (A:=A) I h M te g i (by lia);rw[EV (Px h)];exact⟨h1,L⟩
theorem MM (I:Inv X pins σ H s) {n:Nat} {ds es:List Dt} {A:Around} (c:BB n ds es) (f:A.units+n<cLine)
 (i:Nat) (d e:Dt) (v u:V) (x y:Value) (h:ds[i]?=some d) (h':es[i]?=some e) (a:RelV v x) (b:RelV u y) (M:Aq X.K H v d) (te:Aq X.K H u e):EqAt A s x y (dec (d=e)):=by
 cases c with
 | nil=>simp at h
 | nil'=>simp at h'
 | cons c t=>cases i with
   | zero=>simp at h h';subst h;subst h';have g:=Us (A:=A) I c M te a b f;exact Xe I M te a b g.1
   | succ i=>exact MM I t f i d e v u x y (by simpa using h) (by simpa using h') a b M te
end
def Xf(I:Inv X pins σ H s){x:Value}(c:DV n d e)(M:Aq X.K H v d)(te:Aq X.K H u e)(a:RelV v x)(b:RelV u y)(f:A.units+n<cLine):EqAt A s x y (dec (d=e)):=
 Xe I M te a b (Us I c M te a b f).1
end
section
variable {X:Cx}
def Ut (K:Aj):R2:=λx y H Q=>∃n d e,DV n d e/\n<=60/\Aq K H x d/\Aq K H y e/\Q (.bl (dec (d=e))) H
def Ib(f:X.A.units+64<cLine):DS X (compareOp .Eq) (Ut X.K):=by intro pins s σ H x y v u Q I a b h;obtain⟨n,d,e,c,g,M,te,q⟩:=h;exact(Us (A:=X.A) I c M te a b (by lia)).1 _ _ _ _ ⟨.bl _,H,I,rfl,q⟩
def Uu (K:Aj):R2:=λx y H Q=>∃n d ds a vs,(∀e∈ds,DV n e d)/\n<=60/\Aq K H x d/\y=.ref a/\Ae K H a vs/\Ak K H vs ds/\Q (.bl (dec (d∈ds))) H
def J5 (K:Aj):R2:=λx y H Q=>∃n d ds a vs,(∀e∈ds,DV n e d)/\n<=60/\Aq K H x d/\y=.ref a/\Ae K H a vs/\Ak K H vs ds/\Q (.bl (!dec (d∈ds))) H
def Uv(I:Inv X pins σ H s){d:Dt}{vs:U'}{b:G'}{x:Value}(r:Av vs b)(t:Ak X.K H vs ds)(B:∀e∈ds,DV n e d)(M:Aq X.K H v d)(C:RelV v x)(D:A.units+n<cLine) :
 (∀y,y∈b.toArray->EqAt A s y x (dec (∃u,RelV u y/\Aq X.K H u d)))/\b.toArray.any (λy=>dec (∃u,RelV u y/\Aq X.K H u d))=dec (d∈ds):=by
 have K:=r.length;have lt:=t.length
 have one:∀y,y∈b->∃e∈ds,∃u,RelV u y/\Aq X.K H u e:=λy a=>by
  obtain⟨i,g,e⟩:=QW.mp a;obtain⟨L,w,j⟩:=r.get (i:=i) (x:=vs[i]'(by lia)) (AD (by lia));obtain⟨E,c,te⟩:=t.get (i:=i) (v:=vs[i]'(by lia)) (AD (by lia));rw[AD g,e] at w;cases w;exact⟨E,Bf c,_,j,te⟩
 refine⟨λy a=>?_,?_⟩;obtain⟨e,c,u,f,te⟩:=one y (by simpa using a);have:=Xf (A:=A) I (B e c) te M f C D
 rw[Ot (p:=∃u,RelV u y/\Aq X.K H u d) (q:=e=d) ⟨λ⟨F,l,m⟩=>by
  have k:=f.inj l;subst k;exact Aq.inj I te m,λz=>⟨u,f,by rw[<-z];exact te⟩⟩]
 exact this;by_cases h:d∈ds;rw[Eu h,Array.any_eq_true];obtain⟨i,g,e⟩:=QW.mp h;obtain⟨u,J,te⟩:=t.get' (i:=i) (d:=d) (by rw[AD g,e]);obtain⟨y,a,j⟩:=r.get J;have o:i<b.length:=(AV.mp a).1;refine⟨i,by simpa using o,?_⟩;have:b.toArray[i]'(by simpa using o)=y:=(by rw[AD o] at a;simpa using a);rw[this];exact Eu ⟨u,j,te⟩;rw[EV h,Bool.eq_false_iff];intro q;obtain⟨i,g,q⟩:=Array.any_eq_true.mp q;obtain⟨u,f,te⟩:=Ev.mp q;obtain⟨e,c,F,l,m⟩:=one (b.toArray[i]) (by simp);have k:=f.inj l;subst k;have G:=Aq.inj I te m;subst G;exact h c
def MN(i:X.A.units+64<cLine):DS X (compareOp .In) (Uu X.K):=by intro pins s σ H x y v u Q I b c h;obtain⟨n,d,ds,a,j,e,k,M,rfl,f,t,q⟩:=h;cases c;obtain⟨l,r,p,_⟩:=I.list f;obtain⟨h1,g⟩:=Uv (A:=X.A.in1) I r t e M b (by rw[Hw];lia);exact in_listAt _ p.isList h1 (by rw[g];exact⟨.bl _,H,I,rfl,q⟩)
def Xg(i:X.A.units+64<cLine):DS X (compareOp .NotIn) (J5 X.K):=by intro pins s σ H x y v u Q I b c h;obtain⟨n,d,ds,a,j,e,k,M,rfl,f,t,q⟩:=h;cases c;obtain⟨l,r,p,_⟩:=I.list f;obtain⟨h1,g⟩:=Uv (A:=X.A.in1) I r t e M b (by rw[Hw];lia);exact notIn_listAt _ p.isList h1 (by rw[g];exact⟨.bl _,H,I,rfl,q⟩)
end
end L2
namespace Ord
variable {α:Type} [DecidableEq α]
def nodup_sub_length{l m:List α}(h:l.Nodup)(a:∀x∈l,x∈m):l.length<=m.length:=by
 induction l generalizing m with
 |nil=>simp
 |cons x r f=>
  have b:=a x (by simp);have c:=(F0.mp h)
  have:r.length<=(m.erase x).length:=f c.2 (λy d=>by
   have g:=a y (by simp[d]);have ne:y≠x:=λe=>c.1 (e▸d);exact(List.mem_erase_of_ne ne).mpr g)
  rw[List.length_erase_of_mem b] at this;have i:0<m.length:=List.length_pos_of_mem b;simp;lia
end Ord
namespace War
end War
namespace Ord
variable {α:Type} [DecidableEq α]
end Ord
namespace L2
open PySem PySem.Spec PyProof.Rows Ord
abbrev Xh (p:Str×Str):Dt:=.tup [.str p.1,.str p.2]
def Uw{α:Type}{xs:List α}{v:α}(h:xs[xs.length-1]?=some v):Bm xs (-1)=some v:=by have a:xs.length-1<xs.length:=(AV.mp h).1;unfold Bm Hs;rw[Ah (by decide),Ag (by lia)];show xs[(-1+(xs.length:Int)).toNat]?=some v;rw[show(-1+(xs.length:Int)).toNat=xs.length-1 by lia];exact h
def GW:([]:U').length+1<=sizeLine:=by decide
def BP:([]:U').length+1+1<=sizeLine:=by decide
theorem Ak.of_get{K:Aj}{H:Hp}:∀{vs:U'}{a:List Dt},vs.length=a.length->(∀(n:Nat)v d,vs[n]?=some v->a[n]?=some d->Aq K H v d)->Ak K H vs a
 |[],[],_,_=>.nil
 |v::vs,d::a,b,h=>.cons (h 0 v d rfl rfl) (Ak.of_get (by simpa using b) λn x y c e=>h (n+1) x y (by simpa using c) (by simpa using e))
structure CB (H:Hp) (ts:I') (ps:A'):Prop where
 len:ts.length=ps.length
 at_:∀(n:Nat)t p,ts[n]?=some t->ps[n]?=some p->H t=some (.tup [.str p.1,.str p.2])
variable {H:Hp}
def CB.nil:CB H [] []:=⟨rfl,λn t p h=>by simp at h⟩
variable {ts:I'}{ps:A'}
def CB.same{H':Hp}(e:Ac H H')(h:CB H ts ps):CB H' ts ps:=⟨h.len,λn t p a b=>e _ _ (h.at_ n t p a b)⟩
def CB.dts{K:Aj}(h:CB H ts ps):Ak K H (ts.map V.ref) (ps.map Xh):=by refine Ak.of_get (by simpa using h.len) λn v d a b=>?_;rw[AQ] at a b;obtain⟨t,c,rfl⟩:=E4.mp a;obtain⟨p,e,rfl⟩:=E4.mp b;exact .tup (Ar.of (h.at_ n t p c e)) (.cons (.str _) (.cons (.str _) .nil))
def CB.snoc{t:Addr}{p:Str×Str}(h:CB H ts ps)(e:H t=some (.tup [.str p.1,.str p.2])):CB H (ts++[t]) (ps++[p]):=by
 refine⟨by rw[A1,A1,h.len];rfl,λn d R a b=>?_⟩;by_cases c:n<ts.length;rw[D7 c] at a;rw[D7 (by rw[<-h.len];exact c)] at b;exact h.at_ n d R a b;have f:n=ts.length:=(by have:=(AV.mp a).1;rw[A1,D8] at this;lia);subst f;rw[EA (AF _)] at a;rw[EA (by rw[h.len];exact AF _)] at b;simp at a;simp[h.len] at b;subst a;subst b;exact e
variable {a:Addr}
def Py{K:Aj}{xs:U'}{k:Nat}{f:R'}{g:TG}{te:TE}{σ:St}{Y:Hp}{Q:Addr->Hp->Prop}(Pv:Addr->Nat->U'->Hp->Prop)
 (h:∀D,Y D=none->Pv D 0 [] (upd Y D (.lst []))) (c:∀D i ys b,Pv D i ys b->Ae K b a xs)
 (j:∀D i x ys b(R:VK),Y D=none->xs[i]?=some x->Pv D i ys b->(∀y d,d D=some (.lst ys)->ys.length<sizeLine->Pv D (i+1) (ys++[y]) (upd d D (.lst (ys++[y])))->R y d)->g x (FI k f σ) b λσ4 l=>te σ4 l R)
 (hd:∀D ys b,Y D=none->Pv D xs.length ys b->Q D b):Jo (Oa K a) k f g Ia te σ Y Q:=ML xs.length Pv h (λD i ys b p e=>⟨xs,xs[i],c D i ys b p,by simp[e]⟩) (λD ys b p=>⟨xs,c D _ ys b p,AF _⟩) (λD i ys b x n R o m e p y k q=>by obtain⟨rfl,y⟩:=y;exact j D i x ys _ R m (y xs (c D i ys _ p)) p k) hd
def AB.ex{P:Program}{w:World}{h:Heap}{o:HO}(x:AB P w H h a o):∃u,h.get? a=some u:=by
 cases o with|lst b=>obtain⟨_,_,_,_,e⟩:=x;exact⟨_,e⟩|tup b=>obtain⟨_,_,_,u,e,_⟩:=x;exact⟨u,e⟩|dK c=>obtain⟨_,_,_,_,u,_,_,e,_⟩:=x;exact⟨u,e⟩|dT c=>obtain⟨_,_,_,_,u,_,_,e,_⟩:=x;exact⟨u,e⟩|set S n=>obtain⟨u,_,_,_,e,_⟩:=x;exact⟨u,e⟩|ins C d fs=>obtain⟨_,_,_,e,_⟩:=x;exact⟨_,e⟩|own y=>exact x|xd fs=>obtain⟨_,⟨u,_,_,e,_⟩,_⟩:=x;exact⟨u,e⟩|rng lo g=>obtain⟨_,_,_,e⟩:=x;exact⟨_,e⟩|frz i u=>obtain⟨e,_⟩:=x;exact⟨_,e⟩|tbl ps=>exact⟨_,(show h.get? a=some _ from x)⟩|met f y=>exact⟨_,(show h.get? a=some _ from x)⟩|ext φ=>exact x.2.1
def Inv.freshN{X:Cx}{pins:B'}{σ:L2.St}{s:Shared}(I:Inv X pins σ H s)(d:∀b u,s.heap.get? b=some u->b≠a):H a=none:=by
 cases e:H a with|none=>rfl|some o=>obtain⟨u,c⟩:=(I.hok a o e).ex;exact absurd rfl (d a u c)
def Inv.laidN{X:Cx}{pins:B'}{σ:L2.St}{s:Shared}{h':Heap}{o:HO}{t':Nat}(I:Inv X pins σ H s)(k:∀b u,s.heap.get? b=some u->h'.get? b=some u)(h:∀b u,s.heap.get? b=some u->b≠a)(i:AB X.prog X.w (upd H a o) h' a o) :
 Inv X pins σ (upd H a o) {s with heap:=h',toks:=t'}:=by
 have d:=I.freshN h;refine I.un ⟨λb u q _ _ _=>k b u q,λb u q _ _ _=>⟨u.slots,k b u q⟩,λb u q n _=>by rw[AC (h b u q)];exact n,λb u q _=>⟨u,k b u q⟩,λb f q=>by rw[AC (A3 q d)];exact q,λb u f q=>by rw[AC (A3 q d)];exact q,λb ps q=>⟨#[],by rw[AC (A3 q d),q];simp⟩⟩ λb u e=>?_;by_cases g:b=a;subst g;rw[Aa] at e;cases e;exact i;rw[AC g] at e;exact(I.hok b u e).stay (λc v _ q=>k c v q) (λc q=>by rw[AC (A3 q d)];exact q) λc f q=>by rw[AC (A3 q d)];exact q
section
variable {prog:Program} {w:World} {A:Around} {E:D'} {s:Shared}
end
section
variable {X:Cx}
end
end L2
namespace HT
open PySem PyProof.Rows
section
open PySem.SeqAt
open PySem.AutoSeq1 (wpAny_loadPart')
open PySem.MeetsSeq PySem.MeetsSeq2 PySem.MeetsSeq3
end
section
variable {prog:Program} {w:World} {A:Around} {E:D'} {s:Shared}
end
end HT
namespace L2
open PySem PySem.Spec PyProof.Rows
section
variable {X:Cx}
def cV{ss:J'}:∀{us:G'},Av (ss.map V.str) us->StrsAre us ss:=by
 induction ss with
 |nil=>intro us h;cases h;exact .nil
 |cons x r c=>
  intro us h;cases h with|cons a b=>obtain⟨t,rfl⟩:=a;exact .cons _ _ (c b)
end
end L2
namespace L2
end L2
namespace KasM
open PySem PySem.W PyProof.Rows
set_option autoImplicit false
def Tw {α:Type} (lt:Nat->Nat->Bool) (n:Nat):KasT α->(α->Prop)->Prop
 |.ret a,Q=>Q a
 |.ask i j k,Q=>i<n/\j<n/\Tw lt n (k (lt i j)) Q
theorem Ou{α β:Type}{lt:Nat->Nat->Bool}{n:Nat}{f:α->KasT β}{Q:β->Prop}:∀(t:KasT α),Tw lt n t (λa=>Tw lt n (f a) Q)->Tw lt n (t.bind f) Q
 |.ret _,h=>h
 |.ask _ _ k,⟨b,c,d⟩=>⟨b,c,Ou (k _) d⟩
theorem Tw_mono{α:Type}{lt:Nat->Nat->Bool}{n:Nat}{Q b:α->Prop}(c:∀a,Q a->b a):∀(t:KasT α),Tw lt n t Q->Tw lt n t b
 |.ret a,h=>c a h
 |.ask _ _ k,⟨d,e,f⟩=>⟨d,e,Tw_mono c (k _) f⟩
theorem Tw_wp{α:Type}{lt:Nat->Nat->Bool}{n:Nat}{c:Nat->Nat->(Bool->Shared->Prop)->Shared->Prop}{s:Shared}{Q:α->Shared->Prop}(b:∀i j C,i<n->j<n->C (lt i j) s->c i j C s) :
 ∀(t:KasT α),Tw lt n t (λa=>Q a s)->t.kasWp c Q s
 |.ret _,h=>h
 |.ask _ _ k,⟨d,e,f⟩=>b _ _ _ d e (Tw_wp b (k _) f)
section
variable {O:KeyOrd} {key:Nat->O.α} {n:Nat}
def K (key:Nat->O.α) (p:S') (i:Nat):O.α:=key (p.getD i 0)
def Asc (key:Nat->O.α) (p:S') (k:Nat):Prop:=∀i,i+1<k->O.kle (K key p i) (K key p (i+1))
def Pz (key:Nat->O.α) (p:S') (k:Nat):Prop:=∀i,i+1<k->O.kle (K key p (i+1)) (K key p i)
def Pm (n:Nat) (p:S'):Prop:=p.Perm (List.range n).toArray
def Pm.size{p:S'}(h:Pm n p):p.size=n:=by have:=h.size_eq;simpa using this
variable {p:S'}
def Pm.lt(h:Pm n p)(b:0<n)(i:Nat):p.getD i 0<n:=by by_cases a:i<p.size;have e:p.getD i 0=p[i]:=(by simp[Array.getD,a]);rw[e];have:p[i]∈p:=Array.getElem_mem a;have c:=h.mem_iff.mp this;simpa using c;have e:p.getD i 0=0:=(by simp[Array.getD,a]);rw[e];exact b
variable {i j:Nat}
def cW(a:j<=p.size)(k:Nat):(kas_rev p i j).getD k 0=if i<=k/\k<j then p.getD (i+j-1-k) 0 else p.getD k 0:=by unfold kas_rev;simp only[p'];rw[getElem?_mirror_all a];split<;>rfl
def cX{k l:Nat}(a:k<p.size)(b:l<=k)(t:Nat):(bubble p k (k-l)).getD t 0=if t=l then p.getD k 0 else if l<t/\t<=k then p.getD (t-1) 0 else p.getD t 0:=by simp only[p'];rw[getElem?_bubble a _ (by lia)];rw[show k-(k-l)=l by lia];split;rfl;split<;>rfl
def Pm.rev(h:Pm n p)(i j:Nat):Pm n (kas_rev p i j):=(mirror_perm _ _ _ _).trans h
def Pm.bub(h:Pm n p)(i j:Nat):Pm n (bubble p i j):=(bubble_perm _ _ _).trans h
def Xi(a:j<=p.size)(k:Nat):K key (kas_rev p i j) k=if i<=k/\k<j then K key p (i+j-1-k) else K key p k:=by unfold K;rw[cW a];split<;>rfl
def Ux(b:j<=p.size)(a:∀k,i<=k->k<j->K key p k=K key p (j-1))(k:Nat):K key (kas_rev p i j) k=K key p k:=by rw[Xi b];split;rw[a _ (by lia) (by lia),a k (by lia) (by lia)];rfl
def cY{k l:Nat}(a:k<p.size)(b:l<=k)(t:Nat):K key (bubble p k (k-l)) t=if t=l then K key p k else if l<t/\t<=k then K key p (t-1) else K key p t:=by unfold K;rw[cX a b];split;rfl;split<;>rfl
theorem Asc.le{p:S'}{k:Nat}(h:Asc key p k){i:Nat}:∀(d:Nat),i+d<k->O.kle (K key p i) (K key p (i+d))
 |0,_=>KeyOrd.kle_refl _
 |d+1,hd=>KeyOrd.kle_trans (h.le d (by lia)) (h (i+d) (by lia))
def Asc.le'{k:Nat}(h:Asc key p k)(b:i<=j)(a:j<k):O.kle (K key p i) (K key p j):=by
 have:=h.le (i:=i) (j-i) (by lia)
 rwa [show i+(j-i)=j by lia] at this
abbrev lt (O:KeyOrd) (key:Nat->O.α) (i j:Nat):Bool:=O.blt (key i) (key j)
theorem Uy{p:S'}(b:Pm n p)(c:0<n):∀(f a:Nat),1<=a->Tw (lt O key) n (kas_asc p f a) λm=>a<=m/\m<=a+f/\(∀i,a-1<=i->i+1<m->O.kle (K key p i) (K key p (i+1)))/\(m<a+f->O.klt (K key p m) (K key p (m-1)))
 |0,a,_=>⟨AF _,AF _,λi d g=>by lia,λh=>by lia⟩
 | f + 1,a,q=>by
   refine⟨b.lt c _,b.lt c _,?_⟩;cases j:lt O key (p.getD a 0) (p.getD (a-1) 0) with|true=>simp only[if_true];exact⟨AF _,by lia,λi d g=>by lia,λ_=>j⟩|false=>simp only[FC,if_false];refine Tw_mono ?_ _ (Uy b c f (a+1) (by lia));rintro m ⟨d,g,k,l⟩;refine⟨by lia,by lia,λi r o=>?_,λh=>l (by lia)⟩;by_cases e:i=a-1;subst e;rw[show a-1+1=a by lia];exact j;exact k i (by lia) o
theorem Rp(c:0<n):∀(f:Nat)(p:S')(a q:Nat),Pm n p->a+f<=n->Pz key p a->q+1<=a->(∀k,a-(q+1)<=k->k<a->K key p k=K key p (a-1)) ->
 Tw (lt O key) n (kas_desc f p a q) λr=>Pm n r.1/\a<=r.2.1/\r.2.1<=a+f/\Pz key r.1 r.2.1/\r.2.2+1<=r.2.1/\(∀k,r.2.1-(r.2.2+1)<=k->k<r.2.1->K key r.1 k=K key r.1 (r.2.1-1))
 |0,p,a,q,b,_,hd,o,d=>⟨b,AF _,AF _,hd,o,d⟩
 | f + 1,p,a,q,b,E,hd,o,d=>by
   have hz:=b.size;refine⟨b.lt c _,b.lt c _,?_⟩
   cases u:lt O key (p.getD a 0) (p.getD (a-1) 0) with
   |true=>
    have t:O.klt (K key p a) (K key p (a-1)):=u
    have z:Pz key p (a+1):=λi s=>by
     by_cases e:i+1=a;rw[e];have:i=a-1:=by lia
     rw[this];exact KeyOrd.kle_of_klt t;exact hd i (by lia)
    simp only[if_true];by_cases A:q > 0;rw[Ag A];have L:=Ux (key:=key) (p:=p) (i:=a-(q+1)) (j:=a) (by lia) d;refine Tw_mono ?_ _ (Rp c f _ (a+1) 0 (b.rev _ _) (by lia) (λi s=>by rw[L,L];exact z i s) (by lia) (λk v w=>by rw[show k=a+1-1 by lia]));rintro r ⟨g,x,y,h,l,m⟩;exact⟨g,by lia,by lia,h,l,m⟩;rw[Ah A];refine Tw_mono ?_ _ (Rp c f _ (a+1) 0 b (by lia) z (by lia) (λk v w=>by rw[show k=a+1-1 by lia]));rintro r ⟨g,x,y,h,l,m⟩;exact⟨g,by lia,by lia,h,l,m⟩
   |false=>
    have t:O.kle (K key p (a-1)) (K key p a):=u;simp only[FC,if_false];refine⟨b.lt c _,b.lt c _,?_⟩
    cases D:lt O key (p.getD (a-1) 0) (p.getD a 0) with
    |true=>simp only[if_true];exact⟨b,AF _,Nat.le_add_right _ _,hd,o,d⟩
    |false=>
     have B:O.kle (K key p a) (K key p (a-1)):=D;have C:K key p a=K key p (a-1):=KeyOrd.kle_antisymm B t;simp only[FC,if_false];refine Tw_mono ?_ _ (Rp c f _ (a+1) (q+1) b (by lia) (λi s=>?_) (by lia) (λk v w=>?_));rintro r ⟨g,x,y,h,l,m⟩;exact⟨g,by lia,by lia,h,l,m⟩;by_cases e:i+1=a;rw[e];have:i=a-1:=by lia
     rw[this];exact B;exact hd i (by lia);rw[show a+1-1=a by lia];by_cases e:k=a;rw[e];rw[d k (by lia) (by lia),C]
abbrev Uz (key:Nat->O.α) (n:Nat) (r:Nat×Array Nat):Prop:=Pm n r.2/\1<=r.1/\r.1<=n/\Asc key r.2 r.1
def Xj(c:0<n){a:Nat}(b:Pm n p)(d:1<=a)(k:a<=n)(hd:Pz key p a):Tw (lt O key) n (kas_tail3 a n p) (Uz key n):=by
 unfold kas_tail3;have l:=b.size;have L:=Xi (key:=key) (p:=p) (i:=0) (j:=a) (by lia);refine Ou _ (Tw_mono ?_ _ (Uy (O:=O) (key:=key) (b.rev 0 a) c (n-a) a d));rintro m ⟨o,q,f,_⟩;refine⟨b.rev _ _,by show 1<=m;lia,by show m<=n;lia,λi g=>?_⟩;have h:i+1<m:=g;by_cases e:a-1<=i;exact f i e h;show O.kle (K key (kas_rev p 0 a) i) (K key (kas_rev p 0 a) (i+1));rw[L,L,Ag (by lia),Ag (by lia)];have:=hd (0+a-1-(i+1)) (by lia)
 rwa [show 0+a-1-(i+1)+1=0+a-1-i by lia] at this
def Xk(c:0<n){a:Nat}(f:Pm n p)(g:1<=a)(s:a+1<=n)(hd:Pz key p (a+1)):Tw (lt O key) n (kas_descPart a n p) (Uz key n):=by
 unfold kas_descPart;refine Ou _ (Tw_mono ?_ _ (Rp (O:=O) (key:=key) c (n-(a+1)) p (a+1) 0 f (by lia) hd (by lia) (λk g t=>by rw[show k=a+1-1 by lia])));rintro⟨R,m,q⟩ ⟨b,h,l,d,o,e⟩;dsimp only at b h l d o e ⊢;have u:=b.size;split;have L:=Ux (key:=key) (p:=R) (i:=m-(q+1)) (j:=m) (by lia) e;exact Xj c (b.rev _ _) (by lia) (by lia) λi r=>by rw[L,L];exact d i r
 exact Xj c b (by lia) (by lia) d
def cZ(b:0<n)(a:Pm n p):Tw (lt O key) n (kas_count n p) (Uz key n):=by
 unfold kas_count;have w:=a.size;refine Ou _ (Tw_mono ?_ _ (Uy (O:=O) (key:=key) a b (n-1) 1 (AF _)));rintro m ⟨c,x,r,s⟩;have d:Asc key p m:=λi f=>r i (by lia) f;by_cases g:(m==n)=true;rw[Ag g];exact⟨a,c,by show m<=n;lia,d⟩;rw[Ah g];have y:m<n:=(by have:m≠n:=λq=>g (by rw[q];exact beq_self_eq_true _);lia);have l:=s (by lia);by_cases o:m > 1;rw[Ag o];refine⟨a.lt b _,a.lt b _,?_⟩
 cases t:lt O key (p.getD 0 0) (p.getD (m-1) 0) with
 |true=>simp only[if_true];exact⟨a,c,by show m<=n;lia,d⟩
 |false=>
  have v:O.kle (K key p (m-1)) (K key p 0):=t;simp only[FC,if_false]
  have h:∀k,0<=k->k<m->K key p k=K key p (m-1):=λk _ u =>
   KeyOrd.kle_antisymm (d.le' (by lia) (by lia)) (KeyOrd.kle_trans v (d.le' (by lia) u))
  have L:=Ux (key:=key) (p:=p) (i:=0) (j:=m) (by lia) h;refine Xk b (a.rev _ _) c (by lia) λi f=>?_;rw[L,L];by_cases e:i+1=m;rw[e,show i=m-1 by lia];exact KeyOrd.kle_of_klt l;rw[h i (by lia) (by lia),h (i+1) (by lia) (by lia)];exact KeyOrd.kle_refl _
 rw[Ah o];refine Xk b a c (by lia) λi f=>?_;have:m=1:=(by lia);subst this;obtain rfl:i=0:=by lia
 exact KeyOrd.kle_of_klt l
theorem UA(c:0<n){p:S'}{k:Nat}(d:Pm n p)(g:Asc key p k):∀(f l r:Nat),r-l<=f->l<=r->r<=k->(∀i,i<l->O.kle (K key p i) (K key p k))->(∀i,r<=i->i<k->O.klt (K key p k) (K key p i)) ->
 Tw (lt O key) n (kas_place p k f l r) λm=>m<=k/\(∀i,i<m->O.kle (K key p i) (K key p k))/\(∀i,m<=i->i<k->O.klt (K key p k) (K key p i))
 |0,l,r,t,u,q,h,j=>⟨by lia,h,λi a b=>j i (by lia) b⟩
 | f + 1,l,r,t,u,q,h,j=>by
   unfold kas_place;by_cases e:l ≥ r;rw[Ag e];exact⟨by lia,h,λi a b=>j i (by lia) b⟩;rw[Ah e];refine⟨d.lt c _,d.lt c _,?_⟩;cases s:lt O key (p.getD k 0) (p.getD ((l+r)/2) 0) with|true=>have o:O.klt (K key p k) (K key p ((l+r)/2)):=s;simp only[if_true];exact UA c d g f l ((l+r)/2) (by lia) (by lia) (by lia) h λi a b=>KeyOrd.klt_of_klt_of_kle o (g.le' a b)|false=>have o:O.kle (K key p ((l+r)/2)) (K key p k):=s;simp only[FC,if_false];exact UA c d g f ((l+r)/2+1) r (by lia) (by lia) q (λi a=>KeyOrd.kle_trans (g.le' (by lia) (by lia)) o) j
theorem Ic (h0:0<n):∀ (f:Nat) (p:S') (k:Nat),Pm n p->k+f=n->Asc key p k->Tw (lt O key) n (kas_bin f p k) fun R=>Pm n R/\Asc key R n
 | 0, p, k, hp, hk, ha => ⟨hp, by have : k = n := by lia
                                  rw[<-this];exact ha⟩
 |f+1,p,k,hp,hk,ha=>by
   have hz:=hp.size;unfold kas_bin;refine Ou _ (Tw_mono ?_ _ (UA (O:=O) (key:=key) h0 hp ha k 0 k (by lia) (by lia) (AF _) (λi h=>by lia) λi a b=>by lia));rintro l ⟨b1,b2,b3⟩;have L:=cY (key:=key) (p:=p) (k:=k) (l:=l) (by lia) b1;refine Ic h0 f _ (k+1) (hp.bub _ _) (by lia) λi hi=>?_;rw[L,L];by_cases e1:i=l;rw[Ag e1,Ah (by lia)];by_cases e2:i+1<=k;rw[Ag (by lia)];exact KeyOrd.kle_of_klt (b3 (i+1-1) (by lia) (by lia));lia;rw[Ah e1];by_cases e2:i+1=l;rw[Ag e2,Ah (by lia)];exact b2 i (by lia);rw[Ah e2];by_cases e3:l<i;rw[Ag (by lia),Ag (by lia)];have:=ha (i-1) (by lia)
   rwa [show i-1+1=i+1-1 by lia] at this
   rw[Ah (by lia),Ah (by lia)];exact ha i (by lia)
def sort_ok(h0:0<n):Tw (lt O key) n (kas_sort n) λp=>Pm n p/\Asc key p n:=by
 unfold kas_sort;refine Ou _ (Tw_mono ?_ _ (cZ (O:=O) (key:=key) h0 (Array.Perm.refl _)));rintro⟨m,p⟩ ⟨b1,b2,b3,b4⟩;dsimp only at b1 b2 b3 b4 ⊢;split;rw[show max m 1=m by lia];exact Ic h0 _ _ _ b1 (by lia) b4
 exact ⟨b1, by have : m = n := by lia
               rw[<-this];exact b4⟩
end
end KasM
namespace L2
open PySem PySem.Spec PyProof.Rows
section
variable {prog:Program} {w:World} {A:Around} {E:D'} {s:Shared}
def dA{O:KeyOrd}{key:Nat->O.α}{κ:SortKind}{a:Addr}{vs:G'}{n:Nat}{P:PySem.Fin->Shared->Prop}(f:s.heap.get? a=some (seqObj "list" vs.toArray n))(K:vs.length<64)
 (U:2<=vs.length->∀(h':Heap),(∀b o,b≠a->s.heap.get? b=some o->h'.get? b=some o)->∀(Q:SortKind->Shared->Prop),Q κ {s with heap:=h'}->wpAny (model prog w) A (keyKind' vs.toArray) Q (λ_ _=>False) {s with heap:=h'})
 (N:∀(h':Heap),(∀b o,b≠a->s.heap.get? b=some o->h'.get? b=some o)->∀(i j:Nat)(C:Bool->Shared->Prop),i<vs.length->j<vs.length->C (O.blt (key i) (key j)) {s with heap:=h'}->PySem.W.kas_ask prog w A κ vs i j C {s with heap:=h'})
 (h:∀d:R',d.Perm (List.range vs.length)->(∀i,i+1<d.length->O.kle (key (d.getD i 0)) (key (d.getD (i+1) 0)))->P (.done (.ret .none)) {s with heap:=sortedHeap s.heap a vs (d.map λi=>vs.getD i Value.none).toArray}) :
 wpAny (model prog w) A (Builtin.«list.sort» ⟨[.ref a],[]⟩) P E s:=by
 rw[list_sort_plain];have v:a<s.heap.objs.size:=Bq f;have W:vs.toArray.size=vs.length:=(by simp);refine Ad (listItems_at f rfl ?_);refine Ad (listUpdate_at f rfl ?_ (by rw[Co,sizeLine_eq];lia) (Dp _));obtain⟨r,z⟩:∃r,(s.heap.update a (Obj.mapSeq λ_=>#[])).get? a=some (seqObj "list" #[] r):=⟨_,get?_update_seq f (λ_=>#[])⟩;refine Ad (seqEpoch_at z rfl ?_);refine Ad (wpAny_newTuple ?_ (by show vs.length<=_;rw[sizeLine_eq];lia));refine Ad (wpAny_newList ?_ (Dp _));refine FD ?_;have l:(((s.heap.update a (Obj.mapSeq λ_=>#[])).push (seqObj "tuple" vs.toArray 0)).push (seqObj "list" #[] 0)).get? a=some (seqObj "list" #[] r):=(by rw[Heap.get?_push_ne _ _ _ (by rw[size_push',Heap.size_update];exact Cz (Nat.lt_succ_of_lt v)),Heap.get?_push_ne _ _ _ (by rw[Heap.size_update];exact Cz v)];exact z)
 have keep:∀b o,b≠a->s.heap.get? b=some o->(((s.heap.update a (Obj.mapSeq λ_=>#[])).push (seqObj "tuple" vs.toArray 0)).push (seqObj "list" #[] 0)).get? b=some o:=λb o D q=>by
  refine Bb _ (Bb _ ?_);rw[Heap.get?_update_ne _ _ _ _ D];exact q
 show wpAny (model prog w) A _ P E {s with heap:=((s.heap.update a (Obj.mapSeq λ_=>#[])).push (seqObj "tuple" vs.toArray 0)).push (seqObj "list" #[] 0)};dsimp only;by_cases g:vs.toArray.size<2;rw[Ag g,Ag g];refine Ad (Ax ?_);rw[StateT.run_pure];refine Ad (Ax ?_);dsimp only;refine Ad (seqEpoch_at l rfl ?_);refine Ad (listUpdate_at l rfl ?_ (Dp _) (by rw[Array.size_map];show(pairsOf vs).size<=_;rw[pairsOf_size,sizeLine_eq];lia));simp only[bne_self_eq_false,FC,if_false];have:=h (List.range vs.length) (List.Perm.refl _) (λi t=>by rw[p6] at t;lia);have e:((List.range vs.length).map λi=>vs.getD i Value.none).toArray=(arrOf (SortSt.mk' general' (vs.toArray.zip vs.toArray) #[] 7 none)).map (·.2):=(by apply Array.toList_inj.mp;show(List.range vs.length).map (λi=>vs.getD i Value.none)=((vs.toArray.zip vs.toArray).map (·.2)).toList;apply t4;intro k;by_cases y:k<vs.length;simp[y,CU];simp[y]);rw[e] at this;exact Ax this;rw[Ah g,Ah g];have B:2<=vs.length:=(by lia);refine Ad (F3 (U B _ keep (λκ' L=>κ'=κ/\L=_) ⟨rfl,rfl⟩) ?_ λ_ _ x=>x.elim);rintro κ' L ⟨rfl,rfl⟩
 refine Ad (F3 (PySem.W.kat_run (Q:=λm L=>∃p:S',arrOf m=p.map (PySem.W.kas_item (vs.toArray.zip vs.toArray))/\failedOf m=none/\KasM.Pm vs.length p/\KasM.Asc key p vs.length/\L={s with heap:=((s.heap.update a (Obj.mapSeq λ_=>#[])).push (seqObj "tuple" vs.toArray 0)).push (seqObj "list" #[] 0)})
  (G:=λp L=>KasM.Pm vs.length p/\KasM.Asc key p vs.length/\L={s with heap:=((s.heap.update a (Obj.mapSeq λ_=>#[])).push (seqObj "tuple" vs.toArray 0)).push (seqObj "list" #[] 0)})
  rfl B K (λR m L V F H u=>⟨R,F,H,u.1,u.2.1,u.2.2⟩)
  (KasM.Tw_wp (lt:=KasM.lt O key) (n:=vs.length) (N _ keep) _ (KasM.Tw_mono (λp c=>⟨c.1,c.2,rfl⟩) _ (KasM.sort_ok (O:=O) (key:=key) (by lia))))) ?_ λ_ _ e=>e)
 rintro⟨⟨⟩,m⟩ L ⟨p,M,I,c,S,rfl⟩;dsimp only;have T:=PySem.W.kat_snds (ks:=vs) (vs:=vs) rfl M;rw[T];refine Ad (seqEpoch_at l rfl ?_);refine Ad (listUpdate_at l rfl ?_ (Dp _) (by rw[Co,Am,Array.length_toList,c.size,sizeLine_eq];lia));rw[I];simp only[bne_self_eq_false,FC,if_false];refine Ax (h p.toList (by have:=Array.perm_iff_toList_perm.mp c;simpa using this) λi t=>?_);have J:=c.size;have:=S i (by simpa [J] using t);simpa [KasM.K,p',CU] using this
def UB{O:KeyOrd}{key:Nat->O.α}{κ:SortKind}{l:Addr}{vs:G'}{Q:D'}(g:s.heap.IsList l vs.toArray)(v:vs.length<64)
 (y:2<=vs.length->∀(h':Heap),(∀b o,s.heap.get? b=some o->h'.get? b=some o)->∀(Q:SortKind->Shared->Prop),Q κ {s with heap:=h'}->wpAny (model prog w) A.in1.in1 (keyKind' vs.toArray) Q (λ_ _=>False) {s with heap:=h'})
 (x:∀(h':Heap),(∀b o,s.heap.get? b=some o->h'.get? b=some o)->∀(i j:Nat)(C:Bool->Shared->Prop),i<vs.length->j<vs.length->C (O.blt (key i) (key j)) {s with heap:=h'}->PySem.W.kas_ask prog w A.in1.in1 κ vs i j C {s with heap:=h'})
 (h:∀(D:Addr)(h':Heap)(n:Nat)(a:R'),(∀b o,s.heap.get? b=some o->h'.get? b=some o)->(∀b o,s.heap.get? b=some o->b≠D)->a.Perm (List.range vs.length)->(∀i,i+1<a.length->O.kle (key (a.getD i 0)) (key (a.getD (i+1) 0))) ->
  h'.get? D=some (seqObj "list" (a.map λi=>vs.getD i Value.none).toArray n)->Q (.ref D) {s with heap:=h'}) :
 wpAny (model prog w) A (call (.builtin "sorted") [.ref l]) Q E s:=by
 refine Calls.call_function_entry kind_sorted plain_sorted entry_sorted (args_sorted1 _) ?_;unfold Builtin.«sorted»;refine Ad (m:=checkCount "sorted" 1 1 _) (Ax ?_);refine Ad (collect_list g ?_ (by rw[sizeLine_eq];lia));refine Ad (wpAny_newList ?_ (by rw[sizeLine_eq];lia));have d:((s.heap.push (seqObj "list" #[] 0)).update s.heap.objs.size (Obj.mapSeq (·++vs.toArray))).objs.size=s.heap.objs.size+1:=(by rw[Heap.size_update,size_push']);have e:(((s.heap.push (seqObj "list" #[] 0)).update s.heap.objs.size (Obj.mapSeq (·++vs.toArray))).push (seqObj "list" vs.toArray 0)).get? (s.heap.objs.size+1)=some (seqObj "list" vs.toArray 0):=(by rw[<-d];exact B9 _ rfl)
 have keep:∀b o,s.heap.get? b=some o->(((s.heap.push (seqObj "list" #[] 0)).update s.heap.objs.size (Obj.mapSeq (·++vs.toArray))).push (seqObj "list" vs.toArray 0)).get? b=some o:=λb o q=>by
  have f:b<s.heap.objs.size:=Bq q;rw[Heap.get?_push_ne _ _ _ (by rw[d];exact Cz (Nat.lt_succ_of_lt f)),Heap.get?_update_ne _ _ _ _ (Cz f),Heap.get?_push_ne _ _ _ (Cz f)];exact q
 have c:∀b o,s.heap.get? b=some o->b≠s.heap.objs.size+1:=λb o q=>Cz (Nat.lt_succ_of_lt (Bq q));show wpAny _ _ _ _ _ {s with heap:=((s.heap.push (seqObj "list" #[] 0)).update s.heap.objs.size (Obj.mapSeq (·++vs.toArray))).push (seqObj "list" vs.toArray 0)};rw[d];refine Ad (FD (wpAny_call_entry slot_list_sort ⟨_,e,rfl⟩ entry_list_sort ?body (args_list_sort _)))
 case body =>
  refine dA (s:={s with heap:=((s.heap.push (seqObj "list" #[] 0)).update s.heap.objs.size (Obj.mapSeq (·++vs.toArray))).push (seqObj "list" vs.toArray 0)}) (key:=key) (κ:=κ) e v
   (λp h' k=>y p h' λb o q=>k b o (c b o q) (keep b o q)) (λh' k=>x h' λb o q=>k b o (c b o q) (keep b o q)) λa r t=>?_
  obtain⟨n,u⟩:=sortedHeap_at (vs:=vs) (out:=(a.map λi=>vs.getD i Value.none).toArray) e;refine⟨_,rfl,Ax ⟨_,rfl,h (s.heap.objs.size+1) _ n a (λb o q=>?_) c r t u⟩⟩;show(sortedHeap (((s.heap.push (seqObj "list" #[] 0)).update s.heap.objs.size (Obj.mapSeq (·++vs.toArray))).push (seqObj "list" vs.toArray 0)) (s.heap.objs.size+1) vs _).get? b=some o;rw[sortedHeap_old (c b o q) (Bq (keep b o q))];exact keep b o q
end
@[reducible] def BW (O P:KeyOrd):KeyOrd where
 α:=O.α×P.α
 blt x y:=O.blt x.1 y.1 || (!O.blt y.1 x.1 && P.blt x.2 y.2)
 irrefl x:=by simp[O.irrefl,P.irrefl]
 trans x y z h1 h2:=by simp only[Bool.or_eq_true,Bool.and_eq_true,Bool.not_eq_true'] at h1 h2 ⊢;rcases h1 with h1|⟨h1,k1⟩<;>rcases h2 with h2|⟨h2,k2⟩;exact .inl (O.trans _ _ _ h1 h2);exact .inl (KeyOrd.klt_of_klt_of_kle h1 h2);exact .inl (KeyOrd.klt_of_kle_of_klt h1 h2);exact .inr ⟨KeyOrd.kle_trans (O:=O) h1 h2,P.trans _ _ _ k1 k2⟩
 negTrans x y z h:=by
  simp only[Bool.or_eq_true,Bool.and_eq_true,Bool.not_eq_true'] at h ⊢;rcases h with h|⟨h,k⟩;rcases O.negTrans _ y.1 _ h with h|h;exact .inl (.inl h);exact .inr (.inl h)
  cases e1:O.blt x.1 y.1 with
  |true=>exact .inl (.inl rfl)
  |false=>
   cases e2:O.blt y.1 z.1 with
   |true=>exact .inr (.inl rfl)
   |false=>have a1:O.kle y.1 x.1:=e1;have a2:O.kle z.1 y.1:=e2;have a3:O.kle x.1 z.1:=h;have b1:O.blt y.1 x.1=false:=KeyOrd.kle_trans (O:=O) a3 a2;have b2:O.blt z.1 y.1=false:=KeyOrd.kle_trans (O:=O) a1 a3;rcases P.negTrans _ y.2 _ k with k|k;exact .inl (.inr ⟨b1,k⟩);exact .inr (.inr ⟨b2,k⟩)
 total x y h1 h2:=by simp only[Bool.or_eq_false_iff,Bool.and_eq_false_iff,Bool.not_eq_false'] at h1 h2;have e1:x.1=y.1:=O.total _ _ h1.1 h2.1;have e2:x.2=y.2:=P.total _ _ (by rcases h1.2 with z|z;exact absurd (h2.1.symm.trans z) (by simp);exact z) (by rcases h2.2 with z|z;exact absurd (h1.1.symm.trans z) (by simp);exact z);exact Prod.ext e1 e2
@[reducible] def CC:KeyOrd where
 α:=Str
 blt a b:=decide (a.cps.toList<b.cps.toList)
 irrefl a:=by simpa using List.lt_irrefl a.cps.toList
 trans a b c h1 h2:=by simp only[decide_eq_true_eq] at *;exact List.lt_trans h1 h2
 negTrans a b c h:=by
  simp only[decide_eq_true_eq] at *;by_cases hab:a.cps.toList<b.cps.toList;exact .inl hab;exact .inr (List.lt_of_le_of_lt (List.not_lt.mp hab) h)
 total a b h1 h2:=by simp only[decide_eq_false_iff_not] at *;exact ext_toList (List.le_antisymm (List.not_lt.mp h2) (List.not_lt.mp h1))
@[reducible] def PB:KeyOrd where
 α:=Int
 blt a b:=decide (a<b)
 irrefl a:=by simp
 trans a b c h1 h2:=by simp only[decide_eq_true_eq] at *;lia
 negTrans a b c h:=by simp only[decide_eq_true_eq] at *;lia
 total a b h1 h2:=by simp only[decide_eq_false_iff_not] at *;lia
structure Jq where
 O:KeyOrd
 val:O.α->V
 dflt:O.α
 T:Value
 tT:(T==T)=true
 tN:(T != Value.type "tuple")=true
 look:∀(M:Model)(h:Heap)(a:O.α)(u:Value),RelV (val a) u->PySem.W.Looks M h (typeOf u) T
 eqB:∀(prog:Program)(w:World)(A:Around)(E:D')(s:Shared)(a b:O.α)(u v:Value)(Q:Bool->Shared->Prop),RelV (val a) u->RelV (val b) v->(∀e:Bool,(e=true↔a=b)->Q e s)->wpAny (model prog w) A (eqBool u v) Q E s
 ltB:∀(prog:Program)(w:World)(A:Around)(E:D')(s:Shared)(a b:O.α)(u v:Value)(Q:Bool->Shared->Prop),RelV (val a) u->RelV (val b) v->Q (O.blt a b) s->wpAny (model prog w) A (oneLt' true u v) Q E s
 ltC:∀(prog:Program)(w:World)(A:Around)(E:D')(s:Shared)(a b:O.α)(u v:Value)(Q:Bool->Shared->Prop),RelV (val a) u->RelV (val b) v->Q (O.blt a b) s->wpAny (model prog w) A (oneLt' false u v) Q E s
@[reducible] def EF:Jq where
 O:=CC
 val:=V.str
 dflt:=default
 T:=.type "str"
 tT:=by decide
 tN:=by decide
 look M h a u r:=by obtain⟨t,rfl⟩:=r;exact PySem.W.Looks.of_pure rfl
 eqB prog w A E s a b u v Q r r' h:=by obtain⟨t,rfl⟩:=r;obtain⟨t',rfl⟩:=r';exact eqBool_str (h _ (by simp))
 ltB prog w A E s a b u v Q r r' h:=by obtain⟨t,rfl⟩:=r;obtain⟨t',rfl⟩:=r';exact oneLt_str h
 ltC prog w A E s a b u v Q r r' h:=by obtain⟨t,rfl⟩:=r;obtain⟨t',rfl⟩:=r';exact PySem.W.kat_one _ _ (PySem.P.lt_str h)
@[reducible] def MO:Jq where
 O:=PB
 val:=V.int
 dflt:=0
 T:=.type "int"
 tT:=by decide
 tN:=by decide
 look M h a u r:=by obtain⟨t,rfl⟩:=r;exact PySem.W.Looks.of_pure rfl
 eqB prog w A E s a b u v Q r r' h:=by obtain⟨t,rfl⟩:=r;obtain⟨t',rfl⟩:=r';exact wpAny_eqBool_int (h _ (by simp))
 ltB prog w A E s a b u v Q r r' h:=by obtain⟨t,rfl⟩:=r;obtain⟨t',rfl⟩:=r';exact oneLt_int h
 ltC prog w A E s a b u v Q r r' h:=by obtain⟨t,rfl⟩:=r;obtain⟨t',rfl⟩:=r';exact PySem.W.kat_one _ _ (PySem.P.lt_int h)
variable {c d:Jq}
def J6(x y:(BW c.O d.O).α)(e:x.1=y.1):(BW c.O d.O).blt x y=d.O.blt x.2 y.2:=by show(c.O.blt x.1 y.1 || (!c.O.blt y.1 x.1 && d.O.blt x.2 y.2))=_;rw[e,c.O.irrefl];rfl
def J7(x y:(BW c.O d.O).α)(e:x.1≠y.1):(BW c.O d.O).blt x y=c.O.blt x.1 y.1:=by
 show(c.O.blt x.1 y.1 || (!c.O.blt y.1 x.1 && d.O.blt x.2 y.2))=_
 cases a:c.O.blt x.1 y.1 with
 |true=>rfl
 |false=>
  cases b:c.O.blt y.1 x.1 with|true=>rfl|false=>exact absurd (c.O.total _ _ a b) e
section
variable {prog:Program} {w:World} {A:Around} {E:D'} {s:Shared}
def dB(c d:Jq){x y:Addr}{p q:(BW c.O d.O).α}{b f g i:Value}{Q:Bool->Shared->Prop}(r:IsTup s.heap x #[b,f])(t:IsTup s.heap y #[g,i])(j:RelV (c.val p.1) b)(k:RelV (d.val p.2) f)(l:RelV (c.val q.1) g)(o:RelV (d.val q.2) i)
 (h:Q ((BW c.O d.O).blt p q) s):wpAny (model prog w) A (keyLt' (tuples' true) (.ref x) (.ref y)) Q E s:=by
 obtain⟨F,B,_,n,u⟩:=r;obtain⟨G,C,_,m,v⟩:=t;refine PySem.W.kat_lt B u C v (PySem.W.kat_cons (c.eqB _ _ _ _ _ _ _ _ _ _ j l λe a=>?_))
 cases e with
 |false=>have D:p.1≠q.1:=λz=>CA (a.mpr z);rw[J7 _ _ D] at h;exact PySem.W.kat_no (c.ltB _ _ _ _ _ _ _ _ _ _ j l h)
 |true=>
  rw[J6 _ _ (a.mp rfl)] at h;refine PySem.W.kat_yes (PySem.W.kat_cons (d.eqB _ _ _ _ _ _ _ _ _ _ k o λe a=>?_));cases e with|false=>exact PySem.W.kat_no (d.ltC _ _ _ _ _ _ _ _ _ _ k o h)|true=>refine PySem.W.kat_yes (PySem.W.kat_nil ?_);rw[a.mp rfl,d.O.irrefl] at h;exact h
end
theorem Rq{α:Type}{R:α->α->Prop}(tr:∀a b c,R a b->R b c->R a c):∀(l:List α),(∀i a b,l[i]?=some a->l[i+1]?=some b->R a b)->l.Pairwise R
 |[],_=>.nil
 |[x],_=>by simp
 |x::y::r,h=>by have f:=Rq tr (y::r) λi a b j k=>h (i+1) a b (by simpa using j) (by simpa using k);have g:R x y:=h 0 x y rfl rfl;refine List.pairwise_cons.mpr ⟨λz d=>?_,f⟩;rcases B1.mp d with e|d;rw[e];exact g;exact tr _ _ _ g ((List.pairwise_cons.mp f).1 z d)
section
variable {X:Cx}
abbrev Row (c d:Jq):Type:=V×(BW c.O d.O).α
def Ie (X:Cx) (c d:Jq):U'->Hp->VK->Prop:=λvs H Q=>∃(l:Addr)(zs:List (Row c d)),vs=[.ref l]/\Ae X.K H l (zs.map (·.1))/\zs.length<64 /\
 (∀z∈zs,∃t,z.1=.ref t/\Ar X.K H t [c.val z.2.1,d.val z.2.2])/\∀(D:Addr)(zs':List (Row c d)),zs'.Perm zs->(zs'.map (·.2)).Pairwise (BW c.O d.O).kle->H D=none->Q (.ref D) (upd H D (.lst (zs'.map (·.1))))
def HR (c d:Jq) (h:Heap) (z:Row c d) (v:Value):Prop:=∃t u1 u2,z.1=.ref t/\v=.ref t/\IsTup h t #[u1,u2]/\RelV (c.val z.2.1) u1/\RelV (d.val z.2.2) u2
def HR.keeps{c d:Jq}{h h':Heap}{z:Row c d}{v:Value}(k:∀b o,h.get? b=some o->h'.get? b=some o)(x:HR c d h z v):HR c d h' z v:=by obtain⟨t,a,e,f,g,i,j⟩:=x;exact⟨t,a,e,f,g,i.keeps k,j⟩
def J8{h:Heap}(zs:List (Row c d))(f:G')(g:Paired (HR c d h) zs f):∃fs,PySem.W.KatTups h f fs/\fs.length=zs.length/\∀v∈fs,∃a,RelV (c.val a) v:=by
 induction g with
 |nil=>exact⟨[],.nil,rfl,λ_ x=>by cases x⟩
 |cons i r j=>obtain⟨t,k,z,A,l,⟨o,m,p,n,q⟩,s,B⟩:=i;obtain⟨fs,u,w,y⟩:=j;subst l;refine⟨k::fs,.cons m p q rfl u,by simp[w],λv b=>?_⟩;rcases B1.mp b with e|b;exact⟨_,e▸s⟩;exact y v b
def PD{α β:Type}{R:α->β->Prop}{xs:List α}{ys:List β}(h:Paired R xs ys):∀(i:Nat)(b:α)(c:β),i<xs.length->R (xs.getD i b) (ys.getD i c):=by
 induction h with
 |nil=>intro i b c h;simp at h
 |cons a r d=>
  intro i b c h;cases i with|zero=>exact a|succ i=>simpa using d i b c (by simpa using h)
theorem Rr{α β γ:Type}{R:α->β->Prop}{f:γ->α}{g:γ->β}:∀(l:List γ),(∀x∈l,R (f x) (g x))->Paired R (l.map f) (l.map g)
 |[],_=>.nil
 |x::l,h=>.cons (h x Bg) (Rr l λy a=>h y (BQ _ a))
theorem Lx{c d:Jq}{pins:B'}{σ:L2.St}{H:Hp}{s:Shared}(I:Inv X pins σ H s):∀(zs:List (Row c d))(f:G'),Av (zs.map (·.1)) f->(∀z∈zs,∃t,z.1=.ref t/\Ar X.K H t [c.val z.2.1,d.val z.2.2])->Paired (HR c d s.heap) zs f
 |[],f,r,_=>by cases r;exact .nil
 | z :: zs,f,r,h=>by
   cases r with
   |cons a b=>
    obtain⟨t,e,j⟩:=h z Bg;obtain⟨m,g,it,_⟩:=I.tuple j
    cases g with
    |cons g i=>
     cases i with|cons i k=>cases k;dsimp only at a;rw[e] at a;exact .cons ⟨t,_,_,e,a,it,g,i⟩ (Lx I zs _ b λy l=>h y (BQ _ l))
theorem dC(c d:Jq):Bc X (.builtin "sorted") (Ie X c d):=by
 intro ar s σ H vs us ak I r h;obtain⟨l,b,rfl,R,aq,S,q⟩:=h;obtain⟨u,rfl,U⟩:=FG r;obtain rfl:u=Value.ref l:=U;obtain⟨g,W,Y,_⟩:=I.list R;have m:=Lx I b g W S;have P:b.length=g.length:=m.length
 let e:Row c d:=(V.non,(c.dflt,d.dflt))
 refine UB (O:=BW c.O d.O) (key:=λi=>(b.getD i e).2) (κ:=tuples' true) (vs:=g) (by obtain⟨o,n,w,p,F,A⟩:=Y;exact⟨o,w,p,n,A⟩) (by lia) (λB C k Q' Z=>?_) (λC k i j al z hj hC=>?_) λD C n f L G N ae hg=>?_;have af:Paired (HR c d C) b g:=Paired.mapP m λ_ _ x=>x.keeps k;obtain⟨fs,k1,k2,k3⟩:=J8 _ _ af;refine PySem.W.kat_kind (T:=c.T) k1 (by lia) (λv E=>?_) c.tT (by rw[c.tN];exact Z);obtain⟨a,ha⟩:=k3 v E;exact c.look _ _ a v ha;obtain⟨t,u1,u2,w,p,F,A,a5⟩:=(PD m i e Value.none (by lia)).keeps k;obtain⟨t',ao,v2,b1,b2,b3,b4,b5⟩:=(PD m j e Value.none (by lia)).keeps k;unfold PySem.W.kas_ask;rw[p,b2];exact dB c d F b3 A a5 b4 b5 hC
 have ag:∀i∈f,i<b.length:=λi z=>by
  have:=N.mem_iff.mp z;rw[P];simpa using this
 have aj:(List.range b.length).map (λi=>b.getD i e)=b:=(by apply t4;intro k;by_cases J:k<b.length;simp[J,CU];simp[J])
 have Q:(f.map λi=>b.getD i e).Perm b:=by
  have:=N.map (λi=>b.getD i e)
  rwa [<-P,aj] at this
 have E:Av ((f.map λi=>b.getD i e).map (·.1)) (f.map λi=>g.getD i Value.none):=(by rw[DK];refine Rr f λi z=>?_;obtain⟨t,u1,u2,w,p,_⟩:=PD m i e Value.none (ag i z);show RelV (b.getD i e).1 (g.getD i Value.none);rw[w,p];exact rfl)
 have ah:((f.map λi=>b.getD i e).map (·.2)).Pairwise (BW c.O d.O).kle:=by
  refine Rq (λ_ _ _=>KeyOrd.kle_trans) _ λi a an K B=>?_;rw[DK,AQ,E4] at K B;obtain⟨x,e1,rfl⟩:=K;obtain⟨y,M,rfl⟩:=B;obtain⟨ai,_⟩:=AV.mp M;have:=ae i ai;have aa:f.getD i 0=x:=by rw[CU,e1];rfl
  have ab:f.getD (i+1) 0=y:=by rw[CU,M];rfl
  rw[aa,ab] at this;exact this
 exact⟨.ref D,upd H D (.lst ((f.map λi=>b.getD i e).map (·.1))),I.laidN (t':=s.toks) L G ⟨by rw[Am,Q.length_eq];exact Cf (Bz (by lia)),_,n,E,hg⟩,rfl,q D _ Q ah (I.freshN G)⟩
end
open Ord
abbrev Hx (p:Str×Int):Dt:=.tup [.str p.1,.int p.2]
abbrev Ew:Type:=List (Str×Int)×List Str
abbrev Ly (s:Ew):Dt:=.tup [.lst (s.1.map Hx),.lst (s.2.map Dt.str)]
def EG (K:Aj) (H:Hp) (a:Addr) (gs:K'):Prop:=∃vs,Ae K H a vs/\Ak K H vs (gs.map Hx)
def Ig (K:Aj) (H:Hp) (a:Addr) (ss:List Ew):Prop:=∃vs,Ae K H a vs/\Ak K H vs (ss.map Ly)
def EG.same{K:Aj}{H H':Hp}{a:Addr}{gs:K'}(e:Ac H H')(h:EG K H a gs):EG K H' a gs:=by obtain⟨b,c,d⟩:=h;exact⟨b,e.seq c,d.same e⟩
theorem Xl{K:Aj}{H:Hp}:∀{vs:U'}{xs:J'},Ak K H vs (xs.map Dt.str)->vs=xs.map V.str
 |_,[],.nil=>rfl
 |_,_::_,.cons h t=>by cases h;rw[Xl t];rfl
variable {H:Hp}{v:V}{p:Str×Int}
def Ih{K:Aj}(h:Aq K H v (Hx p)):∃t,v=.ref t/\Ar K H t [.str p.1,.int p.2]:=by
 cases h with
 | tup h t=>
  cases t with
  |cons a t=>
   cases t with|cons b t=>cases t;cases a;cases b;exact⟨_,rfl,h⟩
variable {vs:U'}{gs:K'}{i:Nat}
def Ak.goes_get{K:Aj}(h:Ak K H vs (gs.map Hx))(hv:vs[i]?=some v):∃p t,gs[i]?=some p/\v=.ref t/\Ar K H t [.str p.1,.int p.2]:=by
 obtain⟨d,hd,a⟩:=h.get hv;rw[AQ] at hd;cases e:gs[i]? with|none=>rw[e] at hd;cases hd|some p=>rw[e] at hd;cases hd;obtain⟨t,b,c⟩:=Ih a;exact⟨p,t,rfl,b,c⟩
def F9{K:Aj}{s:Ew}(h:Aq K H v (Ly s)):∃t g e,v=.ref t/\Ar K H t [.ref g,.ref e]/\EG K H g s.1/\Ae K H e (s.2.map V.str):=by
 cases h with
 | tup h t=>
  cases t with
  |cons b t=>
   cases t with
   |cons c t=>
    cases t
    cases b with
    |lst d f=>
     cases c with|lst a i=>rw[Xl i] at a;exact⟨_,_,_,rfl,h,⟨_,d,f⟩,a⟩
variable {α:Type}
def Ak.len_map{K:Aj}{f:α->Dt}{xs:List α}(h:Ak K H vs (xs.map f)):vs.length=xs.length:=by
 have:=h.length
 rwa [Am] at this
def dD{b:G'}{ss:J'}(c:StrsAre b ss)(a:2<=b.length):keyKind' b.toArray=pure oneType':=by
 match b,c,a with
 |[],_,a=>simp at a
 |[_],_,a=>simp at a
 |d::e::j,c,_=>exact keyKind_strs c
section
variable {X:Cx}
def MP (X:Cx):U'->Hp->VK->Prop:=λvs H Q=>∃(l:Addr)(ss:J'),vs=[.ref l]/\Ae X.K H l (ss.map V.str)/\ss.length<64/\∀(D:Addr)(k:J'),k.Perm ss->k.Pairwise CC.kle->H D=none->Q (.ref D) (upd H D (.lst (k.map V.str)))
theorem dE:Bc X (.builtin "sorted") (MP X):=by
 intro ai s σ H vs us ab I r h;obtain⟨l,a,rfl,F,ah,q⟩:=h;obtain⟨u,rfl,G⟩:=FG r;obtain rfl:u=Value.ref l:=G;obtain⟨g,m,J,_⟩:=I.list F;have K:=cV m;have C:a.length=g.length:=by have:=m.length;rwa [Am] at this
 have p:∀i,i<a.length->∃t,g.getD i Value.none=.str (a.getD i default) t:=λi c=>by
  have:=PD m i V.non Value.none (by rw[Am];exact c);have e:(a.map V.str).getD i V.non=V.str (a.getD i default):=(by rw[CU,AQ,CU,AD c];rfl);rw[e] at this;exact this
 refine UB (O:=CC) (key:=λi=>a.getD i default) (κ:=oneType') (vs:=g) J.isList (by lia) (λd v k Q' M=>?_) (λv k i j ae c hj N=>?_) λD v n b L w B U P=>?_;rw[dD K d];exact Ax M;obtain⟨t,o⟩:=p i (by lia);obtain⟨t',f⟩:=p j (by lia);unfold PySem.W.kas_ask;rw[o,f,keyLt'_oneType];exact oneLt_str N
 have W:∀i∈b,i<a.length:=λi c=>by
  have:=B.mem_iff.mp c;rw[C];simpa using this
 have aa:(List.range a.length).map (λi=>a.getD i default)=a:=(by apply t4;intro k;by_cases z:k<a.length;simp[z,CU];simp[z])
 have E:(b.map λi=>a.getD i default).Perm a:=by
  have:=B.map (λi=>a.getD i default)
  rwa [<-C,aa] at this
 have Q:Av ((b.map λi=>a.getD i default).map V.str) (b.map λi=>g.getD i Value.none):=(by rw[DK];exact Rr b λi c=>p i (W i c))
 have Y:(b.map λi=>a.getD i default).Pairwise CC.kle:=by
  refine Rq (R:=CC.kle) (λ_ _ _ h k=>KeyOrd.kle_trans (O:=CC) h k) _ λi af ag A d=>?_;rw[AQ,E4] at A d;obtain⟨x,o,rfl⟩:=A;obtain⟨y,f,rfl⟩:=d;obtain⟨Z,_⟩:=AV.mp f;have:=U i Z;have S:b.getD i 0=x:=by rw[CU,o];rfl
  have T:b.getD (i+1) 0=y:=by rw[CU,f];rfl
  rw[S,T] at this;exact this
 exact⟨.ref D,upd H D (.lst ((b.map λi=>a.getD i default).map V.str)),I.laidN (t':=s.toks) L w ⟨by rw[Am,E.length_eq];exact Cf (Bz (by lia)),_,n,Q,P⟩,rfl,q D _ E Y (I.freshN w)⟩
end
abbrev Lz (K:Aj) (H:Hp) (z:Row EF MO):Prop:=∃t,z.1=.ref t/\Ar K H t [V.str z.2.1,V.int z.2.2]
theorem Xm{K:Aj}{H:Hp}:∀{ts:I'}{gs:K'},ts.length=gs.length->(∀(n:Nat)(a:Addr)(p:Str×Int),ts[n]?=some a->gs[n]?=some p->H a=some (.tup [.str p.1,.int p.2])) ->
 ∃zs:List (Row EF MO),zs.map (·.1)=ts.map V.ref/\zs.map (·.2)=gs/\∀z∈zs,Lz K H z
 |[],[],_,_=>⟨[],rfl,rfl,λz hz=>by cases hz⟩
 |[],_::_,h,_=>by simp at h
 |_::_,[],h,_=>by simp at h
 |a::ts,p::gs,h,k=>by obtain⟨zs,b,c,d⟩:=Xm (K:=K) (H:=H) (ts:=ts) (gs:=gs) (by simpa using h) λn a p b c=>k (n+1) a p (by simpa using b) (by simpa using c);refine⟨(V.ref a,p)::zs,by rw[D6,b];rfl,by rw[D6,c],λz hz=>?_⟩;rcases B1.mp hz with e|hz;rw[e];exact⟨a,rfl,Ar.of (k 0 a p rfl rfl)⟩;exact d z hz
theorem Xn{K:Aj}{H:Hp}:∀(zs:List (Row EF MO)),(∀z∈zs,Lz K H z)->Ak K H (zs.map (·.1)) ((zs.map (·.2)).map Hx)
 |[],_=>.nil
 |z::zs,h=>by obtain⟨t,e,a⟩:=h z Bg;refine .cons ?_ (Xn zs λy b=>h y (BQ _ b));show Aq K H z.1 (Hx z.2);rw[e];exact .tup a (.cons (.str _) (.cons (.int _) .nil))
structure Bk (K:Aj) (F:Addr->Prop) (H:Hp) (D:Addr) (us:I') (rs:List Ew):Prop where
 len:us.length=rs.length
 at_:∀(i:Nat)(u:Addr)(r:Ew),us[i]?=some u->rs[i]?=some r->∃G E xs,H u=some (.tup [.ref G,.ref E])/\EG K H G r.1/\H G=some (.lst xs)/\H E=some (.lst (r.2.map V.str))/\G≠D/\E≠D/\F G/\F E
variable {F:Addr->Prop}{D:Addr}
def Bk.nil{K:Aj}:Bk K F H D [] []:=⟨rfl,λi u r h=>by simp at h⟩
def Bk.same{K:Aj}{F:Addr->Prop}{H H':Hp}{D:Addr}{us:I'}{a:List Ew}(e:Ac H H')(h:Bk K F H D us a):Bk K F H' D us a:=by refine⟨h.len,λi u r b c=>?_⟩;obtain⟨G,E,d,f,g,j,k,l,m,n⟩:=h.at_ i u r b c;exact⟨G,E,d,e _ _ f,g.same e,e _ _ j,e _ _ k,l,m,n⟩
variable {u G E:Addr}{xs:U'}{us:I'}{rs:List Ew}
def Bk.snoc{K:Aj}{r:Ew}(h:Bk K F H D us rs)(d:H u=some (.tup [.ref G,.ref E]))(f:EG K H G r.1)(g:H G=some (.lst xs))(j:H E=some (.lst (r.2.map V.str)))(k:G≠D)(l:E≠D)(m:F G)(n:F E):Bk K F H D (us++[u]) (rs++[r]):=by refine⟨by rw[A1,A1,h.len];rfl,λi v q a b=>?_⟩;rcases t7 i us.length with c|p;rw[D7 c] at a;rw[D7 (by rw[<-h.len];exact c)] at b;exact h.at_ i v q a b;have o:i<(us++[u]).length:=(AV.mp a).1;rw[A1,D8] at o;have e:i=us.length:=(by lia);subst e;rw[EA (AF _),Nat.sub_self] at a;rw[EA (by rw[h.len];exact AF _),h.len,Nat.sub_self] at b;cases a;cases b;exact⟨G,E,xs,d,f,g,j,k,l,m,n⟩
def GK:([]:U').length+1+1+1<=sizeLine:=by decide
theorem Bk.dts{K:Aj}{F:Addr->Prop}{H:Hp}{D:Addr}:∀{us:I'}{rs:List Ew},Bk K F H D us rs->Ak K H (us.map V.ref) (rs.map Ly)
 |[],[],_=>.nil
 |[],_::_,h=>by have:=h.len;simp at this
 |_::_,[],h=>by have:=h.len;simp at this
 |u::us,r::rs,h=>by obtain⟨G,E,xs,a,⟨g,b,f⟩,j,c,_⟩:=h.at_ 0 u r rfl rfl;refine .cons (.tup (Ar.of a) (.cons (.lst b f) (.cons (.lst (Ae.of c) (Ak.strs _)) .nil))) ?_;exact Bk.dts (D:=D) ⟨by simpa using h.len,λi v q d e=>h.at_ (i+1) v q (by simpa using d) (by simpa using e)⟩
variable {a:Addr}
def Bk.stts{K:Aj}(e:H a=some (.lst (us.map V.ref)))(h:Bk K F H a us rs):Ig K H a rs:=⟨_,Ae.of e,h.dts⟩
variable {O:KeyOrd}
def Ov{l m:List O.α}(h:l.Perm m)(c:l.Pairwise O.kle)(d:m.Pairwise O.kle):l=m:=
 h.eq_of_pairwise (λa b _ _ x y=>KeyOrd.kle_antisymm x y) c d
def MQ(p q:Str×Int):DV 2 (Hx p) (Hx q):=.tup (.cons (.str _ _) (.cons (.int _ _) (.nil _)))
structure GT (H:Hp) (ts:I') (gs:K'):Prop where
 len:ts.length=gs.length
 at_:∀(n:Nat)(t:Addr)(p:Str×Int),ts[n]?=some t->gs[n]?=some p->H t=some (.tup [.str p.1,.int p.2])
def GT.nil:GT H [] []:=⟨rfl,λn t p h=>by simp at h⟩
variable {H':Hp}{ts:I'}
def GT.same(e:Ac H H')(h:GT H ts gs):GT H' ts gs:=⟨h.len,λn t p a b=>e _ _ (h.at_ n t p a b)⟩
variable {o:HO}
def GT.updL(b:H a=some (.lst xs))(h:GT H ts gs):GT (upd H a o) ts gs:=⟨h.len,λn t p c d=>by
 have:=h.at_ n t p c d;rw[AC λz=>by rw[z,b] at this;cases this];exact this⟩
def GT.snoc{t:Addr}(h:GT H ts gs)(e:H t=some (.tup [.str p.1,.int p.2])):GT H (ts++[t]) (gs++[p]):=by refine⟨by rw[A1,A1,h.len];rfl,λn v q a b=>?_⟩;rcases t7 n ts.length with c|g;rw[D7 c] at a;rw[D7 (by rw[<-h.len];exact c)] at b;exact h.at_ n v q a b;have f:n<(ts++[t]).length:=(AV.mp a).1;rw[A1,D8] at f;have d:n=ts.length:=(by lia);subst d;rw[EA (AF _),Nat.sub_self] at a;rw[EA (by rw[h.len];exact AF _),h.len,Nat.sub_self] at b;cases a;cases b;exact e
def GT.dts{K:Aj}(h:GT H ts gs):Ak K H (ts.map V.ref) (gs.map Hx):=by obtain⟨a,b,c,d⟩:=Xm (K:=K) h.len h.at_;rw[<-b,<-c];exact Xn a d
variable {te:TE}{σ:St}{n:Nat}
def J9{k:Nat}{d:R'}{g:TG}{Y:Hp}{Q:Addr->Hp->Prop}{lo:Int}(Pv:Addr->Nat->U'->Hp->Prop)
 (e:∀D,Y D=none->Pv D 0 [] (upd Y D (.lst [])))
 (f:∀(D:Addr)(i:Nat)(ys:U')(a:Hp)(R:VK),Y D=none->i<n->Pv D i ys a->(∀y b,b D=some (.lst ys)->ys.length<sizeLine->Pv D (i+1) (ys++[y]) (upd b D (.lst (ys++[y])))->R y b)->g (.int (lo+i)) (FI k d σ) a λσ4 h=>te σ4 h R)
 (hd:∀D ys a,Y D=none->Pv D n ys a->Q D a):Jo (Ob lo n) k d g Ia te σ Y Q:=ML n Pv e (λD i ys a p c=>c) (λD ys a p=>AF _) (λD i ys a x l R m j c p y k o=>by obtain⟨rfl,rfl⟩:=y;exact f D i ys _ R j c p k) hd
structure Keeps (M:Addr->Prop) (H H':Hp):Prop where
 at_:∀x o,H x=some o->¬M x->H' x=some o
 ls:∀x o,M x->H x=some o->∃xs,o=HO.lst xs
section
variable {K:Aj} {M:Addr->Prop} {H H':Hp}
def Keeps.refl(h:∀x o,M x->H x=some o->∃xs,o=HO.lst xs):Keeps M H H:=⟨λ_ _ e _=>e,h⟩
def Keeps.set(k:Keeps M H H')(a:M D):Keeps M H (upd H' D o):=⟨λx u e n=>by
 have b:x≠D:=λz=>n (by rw[z];exact a);rw[AC b];exact k.at_ x u e n,k.ls⟩
def Keeps.one(a:H D=some (.lst xs)):Keeps (·=D) H (upd H D o):=
 ⟨λx u e n=>by rw[AC n];exact e,λx u m e=>by rw[m,a] at e;exact⟨xs,(Bt e).symm⟩⟩
def Keeps.same{a:Hp}(k:Keeps M H H')(s:Ac H' a):Keeps M H a:=⟨λx o e n=>s _ _ (k.at_ x o e n),k.ls⟩
def Keeps.noT(k:Keeps M H H')(h:H a=some (.tup xs)):¬M a:=λm=>by obtain⟨_,e⟩:=k.ls _ _ m h;cases e
def Keeps.tup(k:Keeps M H H'){a:Addr}{xs:U'}(h:H a=some (.tup xs)):H' a=some (.tup xs):=k.at_ _ _ h (k.noT h)
end
def UC{K:Aj}{k:Nat}{l:R'}{g:TG}{tc:TT}{Y:Hp}{Q:Addr->Hp->Prop}(Pv:Addr->Nat->U'->Hp->Prop)
 (m:∀D,Y D=none->Pv D 0 [] (upd Y D (.lst []))) (f:∀D i ys c,Pv D i ys c->Ae K c a xs)
 (n:∀D i x ys c(R:VK)(e:Hp->Prop),Y D=none->xs[i]?=some x->Pv D i ys c->(∀y h,h D=some (.lst ys)->ys.length<sizeLine->Pv D (i+1) (ys++[y]) (upd h D (.lst (ys++[y])))->R y h)->(∀d,Pv D (i+1) ys d->e d)->g x (FI k l σ) c λσ4 o=>tc σ4 o λb d=>if b=true then te σ4 d R else e d)
 (hd:∀D ys c,Y D=none->Pv D xs.length ys c->Q D c):Jo (Oa K a) k l g tc te σ Y Q:=ML xs.length Pv m (λD i ys c p j=>⟨xs,xs[i],f D i ys c p,by simp[j]⟩) (λD ys c p=>⟨xs,f D _ ys c p,AF _⟩) (λD i ys c x s R e q j p y k r=>by obtain⟨rfl,y⟩:=y;exact n D i x ys _ R e q (y xs (f D i ys _ p)) p k r) hd
structure Go (K:Aj) (F:Addr->Prop) (H:Hp) (t:Addr) (rs:List Ew) (n:Int) (ord:A'):Prop where
 ex:∃(a o:Addr)(us:I')(ts:I'),H t=some (.tup [.ref a,.int n,.ref o])/\F a/\F o/\a≠o/\H a=some (.lst (us.map V.ref))/\Bk K F H a us rs/\H o=some (.lst (ts.map V.ref))/\CB H ts ord
def Go.same{K:Aj}{F:Addr->Prop}{H H':Hp}{t:Addr}{rs:List Ew}{n:Int}{ord:A'}(s:Ac H H')(h:Go K F H t rs n ord):Go K F H' t rs n ord:=by obtain⟨a,o,us,ts,b,c,d,e,f,g,i,j⟩:=h.ex;exact⟨a,o,us,ts,s _ _ b,c,d,e,s _ _ f,g.same s,s _ _ i,j.same s⟩
section
variable {X:Cx}
end
abbrev B4:C'->Dt
 |none=>.non
 |some p=>Hx p
def Hy (K:Aj) (H:Hp) (a:Addr) (as:List (C')):Prop:=∃vs,Ae K H a vs/\Ak K H vs (as.map B4)
abbrev Qu:Type:=Int×Int×List Str
abbrev Z':=List Qu
abbrev Xo (q:Qu):Dt:=.tup [.int q.1,.int q.2.1,.tup (q.2.2.map Dt.str)]
section
variable {K:Aj} {H H':Hp} {a:Addr}
def Hy.same{as:List (C')}(e:Ac H H')(h:Hy K H a as):Hy K H' a as:=by obtain⟨vs,b,c⟩:=h;exact⟨vs,e.seq b,c.same e⟩
def MR{o:C'}(h:Aq K H v (B4 o)):(o=none/\v=.non)\/∃p t,o=some p/\v=.ref t/\Ar K H t [.str p.1,.int p.2]:=by
 cases o with|none=>cases h;exact .inl ⟨rfl,rfl⟩|some p=>obtain⟨t,e,a⟩:=Ih h;exact .inr ⟨p,t,rfl,e,a⟩
def Hy.get{as:List (C')}(h:Hy K H a as){k:Nat}(f:k<as.length):∃vs v,Ae K H a vs/\vs[k]?=some v/\((as[k]?=some none/\v=.non)\/∃p t,as[k]?=some (some p)/\v=.ref t/\Ar K H t [.str p.1,.int p.2]):=by obtain⟨vs,g,j⟩:=h;have b:=AD f;obtain⟨v,l,hd⟩:=j.get' (i:=k) (d:=B4 as[k]) (by rw[AQ,b];rfl);refine⟨vs,v,g,l,?_⟩;rcases MR hd with⟨c,e⟩|⟨p,t,c,e,m⟩;exact .inl ⟨by rw[b,c],e⟩;exact .inr ⟨p,t,by rw[b,c],e,m⟩
def EG.get(h:EG K H a gs){k:Nat}(b:gs[k]?=some p):∃vs t,Ae K H a vs/\vs[k]?=some (.ref t)/\Ar K H t [.str p.1,.int p.2]:=by obtain⟨vs,c,e⟩:=h;obtain⟨v,f,hd⟩:=e.get' (i:=k) (d:=Hx p) (by rw[AQ,b];rfl);obtain⟨t,rfl,g⟩:=Ih hd;exact⟨vs,t,c,f,g⟩
end
structure QT (H:Hp) (ts:I') (qs:Z'):Prop where
 len:ts.length=qs.length
 at_:∀(n:Nat)(t:Addr)(q:Qu),ts[n]?=some t->qs[n]?=some q->∃u,H t=some (.tup [.int q.1,.int q.2.1,.ref u])/\H u=some (.tup (q.2.2.map V.str))
def QT.nil:QT H [] []:=⟨rfl,λn t p h=>by simp at h⟩
variable {qs:Z'}
def QT.same(e:Ac H H')(h:QT H ts qs):QT H' ts qs:=⟨h.len,λn t p a b=>by
 obtain⟨u,c,d⟩:=h.at_ n t p a b;exact⟨u,e _ _ c,e _ _ d⟩⟩
variable {M:Addr->Prop}
def QT.keeps(k:Keeps M H H')(h:QT H ts qs):QT H' ts qs:=⟨h.len,λn t p a b=>by
 obtain⟨u,c,d⟩:=h.at_ n t p a b;exact⟨u,k.tup c,k.tup d⟩⟩
def GT.keeps(k:Keeps M H H')(h:GT H ts gs):GT H' ts gs:=⟨h.len,λn t p a b=>k.tup (h.at_ n t p a b)⟩
def QT.snoc{t:Addr}{q:Qu}(h:QT H ts qs)(e:H t=some (.tup [.int q.1,.int q.2.1,.ref u]))(d:H u=some (.tup (q.2.2.map V.str))):QT H (ts++[t]) (qs++[q]):=by refine⟨by rw[A1,A1,h.len];rfl,λn v f a b=>?_⟩;rcases t7 n ts.length with c|j;rw[D7 c] at a;rw[D7 (by rw[<-h.len];exact c)] at b;exact h.at_ n v f a b;have i:n<(ts++[t]).length:=(AV.mp a).1;rw[A1,D8] at i;have g:n=ts.length:=(by lia);subst g;rw[EA (AF _),Nat.sub_self] at a;rw[EA (by rw[h.len];exact AF _),h.len,Nat.sub_self] at b;cases a;cases b;exact⟨u,e,d⟩
def QT.dts{K:Aj}(h:QT H ts qs):Ak K H (ts.map V.ref) (qs.map Xo):=by refine Ak.of_get (by simpa using h.len) λn v d a b=>?_;rw[AQ] at a b;obtain⟨t,c,rfl⟩:=E4.mp a;obtain⟨q,e,rfl⟩:=E4.mp b;obtain⟨u,f,g⟩:=h.at_ n t q c e;exact .tup (Ar.of f) (.cons (.int _) (.cons (.int _) (.cons (.tup (Ar.of g) (Ak.strs _)) .nil)))
def Ec (ths:K') (as:List (C')) (q:Int):Str×Int:=match as[q.toNat]? with
 |some (some p)=>if p.1=f' then(match ths[p.2.toNat]? with
   |some k=>if k.1=o5 then("to",k.2) else("no",0)
   |none=>("no",0)) else("no",0)
 |some none=>("open",q)
 |none=>("no",0)
def Df (ths:K') (as:List (C')) (p:Str×Int):Str×Int:=
 if p.1=o5 then("to",p.2) else if p.1=o8 then Ec ths as p.2 else("no",0)
structure Fe (ths:K') (as:List (C')):Prop where
 q:∀p∈ths,p.1=o8->0<=p.2/\p.2<as.length
 t:∀p,some p∈as->p.1=f'->0<=p.2/\p.2<ths.length
variable {ths:K'}{as:List (C')}
def dG(h:as[n]?=some none):Ec ths as (n:Int)=(n5,(n:Int)):=by unfold Ec;rw[Bn,h]
def dH(h:as[n]?=some (some p))(a:p.1≠f'):Ec ths as (n:Int)=(o4,0):=by unfold Ec;rw[Bn,h];exact Ah a
variable {m:Nat}
def dI{k:Str×Int}(h:as[n]?=some (some p))(a:p.1=f')(b:p.2=(m:Int))(c:ths[m]?=some k)(d:k.1=o5):Ec ths as (n:Int)=(j',k.2):=by
 unfold Ec;rw[Bn,h];show(if p.1=f' then _ else _)=_;rw[Ag a,b,Bn,c];exact Ag d
def dJ{k:Str×Int}(h:as[n]?=some (some p))(a:p.1=f')(b:p.2=(m:Int))(c:ths[m]?=some k)(d:k.1≠o5):Ec ths as (n:Int)=(o4,0):=by
 unfold Ec;rw[Bn,h];show(if p.1=f' then _ else _)=_;rw[Ag a,b,Bn,c];exact Ah d
variable {x:Str}
def Xp{X:Cx}{pos:Pos}{e:Expr}{op:Operator}{a:R2}{t:Pos}(b:X.N.Nodup)(c:X.N[i]?=some x)(d:Loc X.env.scope x)(f:PE X e te)(g:DS X (inplaceOp op) a)(h:X.fn x=true\/X.env.scope.names.lookup x=some .local:=by first|exact .inl rfl|exact .inr rfl|assumption) :
 PS X (.AugAssign (.Name x t) op e pos) (O7 i te a):=Mp b c d f g h
abbrev Ci:Type:=Str×Str×Int
abbrev Hf (p:Ci):U':=[.str p.1,.str p.2.1,.int p.2.2]
abbrev Dg:Type:=Str×Str×Str×Int
abbrev GL (p:Dg):U':=[.str p.1,.str p.2.1,.str p.2.2.1,.int p.2.2.2]
abbrev PH (p:Ci):Dt:=.tup [.str p.1,.str p.2.1,.int p.2.2]
abbrev PJ (p:Dg):Dt:=.tup [.str p.1,.str p.2.1,.str p.2.2.1,.int p.2.2.2]
section
variable {α:Type} {f:α->U'} {H H':Hp} {ts:I'} {rs:List α}
structure RT (f:α->U') (H:Hp) (ts:I') (rs:List α):Prop where
 len:ts.length=rs.length
 at_:∀(n:Nat)(t:Addr)(r:α),ts[n]?=some t->rs[n]?=some r->H t=some (.tup (f r))
def RT.nil:RT f H [] []:=⟨rfl,λn t p h=>by simp at h⟩
def RT.same(e:Ac H H')(h:RT f H ts rs):RT f H' ts rs:=⟨h.len,λn t p a b=>e _ _ (h.at_ n t p a b)⟩
def RT.keeps(k:Keeps M H H')(h:RT f H ts rs):RT f H' ts rs:=⟨h.len,λn t p a b=>k.tup (h.at_ n t p a b)⟩
def RT.snoc{t:Addr}{r:α}(h:RT f H ts rs)(e:H t=some (.tup (f r))):RT f H (ts++[t]) (rs++[r]):=by refine⟨by rw[A1,A1,h.len];rfl,λn v q a b=>?_⟩;rcases t7 n ts.length with c|i;rw[D7 c] at a;rw[D7 (by rw[<-h.len];exact c)] at b;exact h.at_ n v q a b;have g:n<(ts++[t]).length:=(AV.mp a).1;rw[A1,D8] at g;have d:n=ts.length:=(by lia);subst d;rw[EA (AF _),Nat.sub_self] at a;rw[EA (by rw[h.len];exact AF _),h.len,Nat.sub_self] at b;cases a;cases b;exact e
def RT.dts{K:Aj}{g:α->Dt}(c:∀(r:α)(t:Addr),H t=some (.tup (f r))->Aq K H (.ref t) (g r))(h:RT f H ts rs):Ak K H (ts.map V.ref) (rs.map g):=by refine Ak.of_get (by simpa using h.len) λn v d a b=>?_;rw[AQ] at a b;obtain⟨t,e,rfl⟩:=E4.mp a;obtain⟨q,i,rfl⟩:=E4.mp b;exact c q t (h.at_ n t q e i)
end
def MS{K:Aj}(r:Ci)(t:Addr)(h:H t=some (.tup (Hf r))):Aq K H (.ref t) (PH r):=.tup (Ar.of h) (.cons (.str _) (.cons (.str _) (.cons (.int _) .nil)))
def MT{K:Aj}(r:Dg)(t:Addr)(h:H t=some (.tup (GL r))):Aq K H (.ref t) (PJ r):=.tup (Ar.of h) (.cons (.str _) (.cons (.str _) (.cons (.str _) (.cons (.int _) .nil))))
abbrev Bo:Type:=List Ci×List Dg
abbrev Ii (s:Bo):Dt:=.tup [.lst (s.1.map PH),.lst (s.2.map PJ)]
structure Hz (H:Hp) (u G E:Addr) (s:Bo):Prop where
 u:H u=some (.tup [.ref G,.ref E])
 g:∃ts:I',H G=some (.lst (ts.map V.ref))/\RT Hf H ts s.1
 e:∃ts:I',H E=some (.lst (ts.map V.ref))/\RT GL H ts s.2
def Hz.same{H H':Hp}{u G E:Addr}{s:Bo}(e:Ac H H')(h:Hz H u G E s):Hz H' u G E s:=by obtain⟨a,⟨ts,b,c⟩,⟨us,d,f⟩⟩:=h;exact⟨e _ _ a,⟨ts,e _ _ b,c.same e⟩,⟨us,e _ _ d,f.same e⟩⟩
def Hz.keeps{M:Addr->Prop}{H H':Hp}{u G E:Addr}{s:Bo}(k:Keeps M H H')(b:¬M G)(c:¬M E)(h:Hz H u G E s):Hz H' u G E s:=by obtain⟨a,⟨ts,d,e⟩,⟨us,f,g⟩⟩:=h;exact⟨k.tup a,⟨ts,k.at_ _ _ d b,e.keeps k⟩,⟨us,k.at_ _ _ f c,g.keeps k⟩⟩
variable {s:Bo}
def Hz.dt{K:Aj}(h:Hz H u G E s):Aq K H (.ref u) (Ii s):=by obtain⟨a,⟨ts,b,c⟩,⟨us,d,e⟩⟩:=h;exact .tup (Ar.of a) (.cons (.lst (Ae.of b) (c.dts MS)) (.cons (.lst (Ae.of d) (e.dts MT)) .nil))
structure Do (H:Hp) (D:Addr) (us Gs Es:I') (ss:List Bo):Prop where
 top:H D=some (.lst (us.map V.ref))
 lu:us.length=ss.length
 lg:Gs.length=ss.length
 le:Es.length=ss.length
 at_:∀(i:Nat)(u G E:Addr)(s:Bo),us[i]?=some u->Gs[i]?=some G->Es[i]?=some E->ss[i]?=some s->Hz H u G E s
def Do.same{H H':Hp}{D:Addr}{us a b:I'}{ss:List Bo}(e:Ac H H')(h:Do H D us a b ss):Do H' D us a b ss:=
 ⟨e _ _ h.top,h.lu,h.lg,h.le,λi u G E s c d f g=>(h.at_ i u G E s c d f g).same e⟩
variable {Gs Es:I'}{ss:List Bo}
def Do.get(h:Do H D us Gs Es ss)(a:i<ss.length) :
 ∃u G E,us[i]?=some u/\Gs[i]?=some G/\Es[i]?=some E/\ss[i]?=some ss[i]/\Hz H u G E ss[i]:=by
 have b:us[i]?=some (us[i]'(by rw[h.lu];exact a)):=AD _;have c:Gs[i]?=some (Gs[i]'(by rw[h.lg];exact a)):=AD _;have d:Es[i]?=some (Es[i]'(by rw[h.le];exact a)):=AD _;exact⟨_,_,_,b,c,d,AD a,h.at_ i _ _ _ _ b c d (AD a)⟩
def Do.dts{K:Aj}(h:Do H D us Gs Es ss):Ak K H (us.map V.ref) (ss.map Ii):=by refine Ak.of_get (by simpa using h.lu) λn v d a b=>?_;rw[AQ] at a b;obtain⟨u,g,rfl⟩:=E4.mp a;obtain⟨s,c,rfl⟩:=E4.mp b;have i:n<ss.length:=(AV.mp c).1;obtain⟨k,G,E,e,l,m,f,j⟩:=h.get i;rw[g] at e;cases e;rw[c] at f;rw[Bt f];exact j.dt
def Do.step(h:Do H D us Gs Es ss)(o:(D::(Gs++Es)).Nodup){t:Addr}{p:Ci}(g:i<ss.length)(b:Gs[i]?=some G)(q:H G=some (.lst (ts.map V.ref)))(T:RT Hf H ts ss[i].1)(r:H t=some (.tup (Hf p))) :
 Do (upd H G (.lst (ts.map V.ref++[.ref t]))) D us Gs Es (ss.set i (ss[i].1++[p],ss[i].2)):=by
 have k:Keeps (·=G) H (upd H G (.lst (ts.map V.ref++[.ref t]))):=Keeps.one q;obtain⟨v,F⟩:=F0.mp o;obtain⟨w,ne,I⟩:=List.nodup_append.mp F;have mG:G∈Gs:=Bf b;refine⟨k.at_ _ _ h.top λz=>v (z▸Et _ mG),by rw[FR];exact h.lu,by rw[FR];exact h.lg,by rw[FR];exact h.le,λj u l E s m c f d=>?_⟩;have n:E≠G:=λz=>I G mG E (Bf f) z.symm;by_cases e:i=j;subst e;rw[b] at c;cases c;rw[u' g] at d;cases d;obtain⟨a,_,⟨x,y,A⟩⟩:=h.at_ i u G E _ m b f (AD g);exact⟨k.tup a,⟨ts++[t],by rw[Aa,Ba];rfl,(T.keeps k).snoc (k.tup r)⟩,⟨x,k.at_ _ _ y n,A.keeps k⟩⟩;rw[t0 e] at d
 have J:l≠G:=λz=>by
  subst z;obtain⟨K,B⟩:=AV.mp c;obtain⟨L,C⟩:=AV.mp b;exact e ((List.getElem_inj w).mp (C.trans B.symm))
 exact(h.at_ j u l E s m c f d).keeps k J n
def Do.alive(h:Do H D us Gs Es ss):∀x∈Gs++Es,∃xs,H x=some (.lst xs):=λx a=>by
 rcases B0.mp a with a|a;obtain⟨j,b⟩:=List.getElem?_of_mem a;have f:j<ss.length:=by rw[<-h.lg];exact(AV.mp b).1
 obtain⟨g,i,k,l,c,d,m,⟨_,⟨n,e,_⟩,_⟩⟩:=h.get f;rw[b] at c;cases c;exact⟨_,e⟩;obtain⟨j,b⟩:=List.getElem?_of_mem a;have f:j<ss.length:=by rw[<-h.le];exact(AV.mp b).1
 obtain⟨g,i,k,l,c,d,m,⟨_,_,⟨n,e,_⟩⟩⟩:=h.get f;rw[b] at d;cases d;exact⟨_,e⟩
def Do.nil(h:H D=some (.lst [])):Do H D [] [] [] []:=⟨h,rfl,rfl,rfl,λi u G E s a=>by simp at a⟩
def Do.snoc(h:Do H D us Gs Es ss)(g:Hz H u G E s)(j:G≠D)(l:E≠D)(f:∀x∈Gs++Es,x≠D) :
 Do (upd H D (.lst (us.map V.ref++[.ref u]))) D (us++[u]) (Gs++[G]) (Es++[E]) (ss++[s]):=by
 have k:Keeps (·=D) H (upd H D (.lst (us.map V.ref++[.ref u]))):=Keeps.one h.top;refine⟨by rw[Aa,Ba];rfl,by simp[h.lu],by simp[h.lg],by simp[h.le],λi m n o L d a b c=>?_⟩;rcases t7 i ss.length with e|r;rw[D7 (by rw[h.lu];exact e)] at d;rw[D7 (by rw[h.lg];exact e)] at a;rw[D7 (by rw[h.le];exact e)] at b;rw[D7 e] at c;exact(h.at_ i m n o L d a b c).keeps k (f _ (Et _ (Bf a))) (f _ (Db _ (Bf b)));have q:i<(ss++[s]).length:=(AV.mp c).1;rw[A1,D8] at q;have p:i=ss.length:=(by lia);subst p;rw[EA (by rw[h.lu];exact AF _),h.lu,Nat.sub_self] at d;rw[EA (by rw[h.lg];exact AF _),h.lg,Nat.sub_self] at a;rw[EA (by rw[h.le];exact AF _),h.le,Nat.sub_self] at b;rw[EA (AF _),Nat.sub_self] at c;cases d;cases a;cases b;cases c;exact g.keeps k j l
def dL(a:(D::(Gs++Es)).Nodup)(b:G∉D::(Gs++Es))(c:E∉D::(Gs++Es))(d:G≠E):(D::((Gs++[G])++(Es++[E]))).Nodup:=by
 have p:(D::((Gs++[G])++(Es++[E]))).Perm (G::E::(D::(Gs++Es))):=by
  have e:(D::((Gs++[G])++(Es++[E]))).Perm (E::(D::((Gs++[G])++Es))):=(by have:(D::((Gs++[G])++(Es++[E])))=(D::((Gs++[G])++Es))++[E]:=(by simp);rw[this];exact List.perm_append_singleton _ _);have J:(D::((Gs++[G])++Es)).Perm (G::(D::(Gs++Es))):=(by have:(D::((Gs++[G])++Es))=(D::Gs)++G::Es:=(by simp);rw[this];exact List.perm_middle);exact(e.trans (J.cons E)).trans (List.Perm.swap _ _ _)
 rw[p.nodup_iff,F0,F0];refine⟨λz=>?_,c,a⟩;rcases B1.mp z with z|z;exact d z;exact b z
def Bu (ths:K') (as:List (C')) (p:Ci):Str×Int:=
 if p.2.1=j' then("to",p.2.2) else match as[p.2.2.toNat]? with
 |some (some w)=>if w.1=f' then(match ths[w.2.toNat]? with
   |some k=>Df ths as k
   |none=>("no",0)) else("no",0)
 |some none=>("open",p.2.2)
 |none=>("no",0)
def dM{p:Ci}(h:p.2.1=j'):Bu ths as p=(j',p.2.2):=Ag h
def Xq{p:Ci}(h:p.2.1≠j')(a:p.2.2=(n:Int))(b:as[n]?=some none):Bu ths as p=(n5,p.2.2):=by unfold Bu;rw[Ah h,a,Bn,b]
def dN{p:Ci}{w:Str×Int}(h:p.2.1≠j')(a:p.2.2=(n:Int))(b:as[n]?=some (some w))(c:w.1≠f'):Bu ths as p=(o4,0):=by unfold Bu;rw[Ah h,a,Bn,b];exact Ah c
def dO{p:Ci}{w k:Str×Int}(h:p.2.1≠j')(a:p.2.2=(n:Int))(b:as[n]?=some (some w))(c:w.1=f')(d:w.2=(m:Int))(e:ths[m]?=some k):Bu ths as p=Df ths as k:=by
 unfold Bu;rw[Ah h,a,Bn,b];show(if w.1=f' then _ else _)=_;rw[Ag c,d,Bn,e]
section
variable {X:Cx}
end
def PK (s q:Int) (p:Str×Int):Prop:=(p.1=("plain":Str)/\p.2=0)\/(p.1=o5/\0<=p.2/\p.2<s)\/(p.1=o8/\0<=p.2/\p.2<q)
def Ka (s q:Int) (p:Ci):Prop:=(p.2.1=j'/\0<=p.2.2/\p.2.2<s)\/(p.2.1=n7/\0<=p.2.2/\p.2.2<q)
def Kb (t q:Int) (p:Dg):Prop:=(p.2.2.1=f'/\0<=p.2.2.2/\p.2.2.2<t)\/(p.2.2.1=n7/\0<=p.2.2.2/\p.2.2.2<q)
structure FJ (H:Hp) (S T R:Addr) (us Gs Es ts qt:I') (ss:List Bo) (gs:K') (qs:Z'):Prop where
 sc:Do H S us Gs Es ss
 et:H T=some (.lst (ts.map V.ref))
 tg:GT H ts gs
 er:H R=some (.lst (qt.map V.ref))
 tq:QT H qt qs
def FJ.same{H H':Hp}{S T R:Addr}{us Gs Es ts a:I'}{ss:List Bo}{gs:K'}{qs:Z'}(e:Ac H H')(h:FJ H S T R us Gs Es ts a ss gs qs):FJ H' S T R us Gs Es ts a ss gs qs:=
 ⟨h.sc.same e,e _ _ h.et,h.tg.same e,e _ _ h.er,h.tq.same e⟩
abbrev Ij (ss:List Bo) (gs:K') (qs:Z'):Dt:=.tup [.lst (ss.map Ii),.lst (gs.map Hx),.lst (qs.map Xo)]
def FJ.dt{K:Aj}{a S T R:Addr}{b:I'}(h:FJ H S T R us Gs Es ts b ss gs qs)(e:H a=some (.tup [.ref S,.ref T,.ref R])):Aq K H (.ref a) (Ij ss gs qs):=
 .tup (Ar.of e) (.cons (.lst (Ae.of h.sc.top) h.sc.dts) (.cons (.lst (Ae.of h.et) h.tg.dts) (.cons (.lst (Ae.of h.er) h.tq.dts) .nil)))
def Kc(s r:Bo):DV 4 (Ii s) (Ii r):=by refine .tup (.cons (.lst (BB.of λd hd e a=>?_)) (.cons (.lst (BB.of λd hd e a=>?_)) (.nil _)));obtain⟨p,_,rfl⟩:=AW.mp hd;obtain⟨q,_,rfl⟩:=AW.mp a;exact .tup (.cons (.str _ _) (.cons (.str _ _) (.cons (.int _ _) (.nil _))));obtain⟨p,_,rfl⟩:=AW.mp hd;obtain⟨q,_,rfl⟩:=AW.mp a;exact .tup (.cons (.str _ _) (.cons (.str _ _) (.cons (.str _ _) (.cons (.int _ _) (.nil _)))))
def Kd(ss k:List Bo)(gs b:K')(qs c:Z'):DV 6 (Ij ss gs qs) (Ij k b c):=by refine .tup (.cons (.lst (BB.of λd hd e a=>?_)) (.cons (.lst (BB.of λd hd e a=>?_)) (.cons (.lst (BB.of λd hd e a=>?_)) (.nil _))));obtain⟨p,_,rfl⟩:=AW.mp hd;obtain⟨q,_,rfl⟩:=AW.mp a;exact Kc p q;obtain⟨p,_,rfl⟩:=AW.mp hd;obtain⟨q,_,rfl⟩:=AW.mp a;exact .tup (.cons (.str _ _) (.cons (.int _ _) (.nil _)));obtain⟨p,_,rfl⟩:=AW.mp hd;obtain⟨q,_,rfl⟩:=AW.mp a;refine .tup (.cons (.int _ _) (.cons (.int _ _) (.cons (.tup (BB.of λd hd e a=>?_)) (.nil _))));obtain⟨p,_,rfl⟩:=AW.mp hd;obtain⟨q,_,rfl⟩:=AW.mp a;exact .str _ _
abbrev Ke (K:Aj):U'->Hp->VK->Prop:=λxs H Q=>∃p ys,xs=[V.ref p]/\(Ae K H p ys\/Ar K H p ys)/\∀l,H l=none->Q (V.ref l) (upd H l (HO.lst ys))
def Do.tell(h:Do H D us Gs Es ss)(q:(D::(Gs++Es)).Nodup){t:Addr}{p:Dg}(g:i<ss.length)(b:Es[i]?=some E)(r:H E=some (.lst (ts.map V.ref)))(T:RT GL H ts ss[i].2)(v:H t=some (.tup (GL p))) :
 Do (upd H E (.lst (ts.map V.ref++[.ref t]))) D us Gs Es (ss.set i (ss[i].1,ss[i].2++[p])):=by
 have k:Keeps (·=E) H (upd H E (.lst (ts.map V.ref++[.ref t]))):=Keeps.one r;obtain⟨w,C⟩:=F0.mp q;obtain⟨K,ne,F⟩:=List.nodup_append.mp C;have l:E∈Es:=Bf b;refine⟨k.at_ _ _ h.top λz=>w (z▸Db _ l),by rw[FR];exact h.lu,by rw[FR];exact h.lg,by rw[FR];exact h.le,λj u G m s n f c d=>?_⟩;have o:G≠E:=λz=>F G (Bf f) E l z;by_cases e:i=j;subst e;rw[b] at c;cases c;rw[u' g] at d;cases d;obtain⟨a,⟨I,x,y⟩,_⟩:=h.at_ i u G E _ n f b (AD g);exact⟨k.tup a,⟨I,k.at_ _ _ x o,y.keeps k⟩,⟨ts++[t],by rw[Aa,Ba];rfl,(T.keeps k).snoc (k.tup v)⟩⟩;rw[t0 e] at d
 have J:m≠E:=λz=>by
  subst z;obtain⟨L,A⟩:=AV.mp c;obtain⟨M,B⟩:=AV.mp b;exact e ((List.getElem_inj ne).mp (B.trans A.symm))
 exact(h.at_ j u G m s n f c d).keeps k o J
open PySem.SeqAt
open PySem.AutoSeq1 (wpAny_loadPart')
open PySem.MeetsSeq PySem.MeetsSeq2 PySem.MeetsSeq3
def Cc (A:Around) (s:Shared) (x y:Value) (b:Bool):Prop:=
 ∀(prog:Program)(w:World)(E:D')(Q:D'),Q (.bool b) s->wpAny (model prog w) A (richCompare .Lt x y) Q E s
inductive BM (A:Around) (s:Shared):G'->G'->Bool->Prop where
 |nil:BM A s [] [] false
 |lt (w:Value) (ws:G'):BM A s [] (w::ws) true
 |gt (v:Value) (vs:G'):BM A s (v::vs) [] false
 |eq {v w:Value} {vs ws:G'} {b:Bool} (h:EqAt A s v w true) (t:BM A s vs ws b):BM A s (v::vs) (w::ws) b
 |ne {v w:Value} {vs ws:G'} {b:Bool} (h:EqAt A s v w false) (l:Cc A s v w b):BM A s (v::vs) (w::ws) b
def dP(l b:Addr)(f e:O')(n C:Nat)(D K:Option Addr)(E M:Array (L'))(c:Bool) :
 Meets (Builtin.«tuple.__lt__» ⟨[.ref l,.ref b],[]⟩)
  (λA R s=>s.heap.get? l=some {cls:=.type "tuple",dict:=D,data:=.seq f n,slots:=E}/\s.heap.get? b=some {cls:=.type "tuple",dict:=K,data:=.seq e C,slots:=M} /\
   BM A.in1 s f.toList e.toList c/\R (.ok (.ret (.bool c))) s):=
 .of_wp λu w A R s h=>by
  obtain⟨v,g,d,tk,z⟩:=s;obtain⟨F,G,i,h⟩:=h;have O:=AutoSeq1.sub_tuple_tuple
  wp_walk using wpAny_loadPart' F,wpAny_loadPart' G,wpAny_forIn_list _ (λj b L=>b.1=none/\L=⟨v,g,d,tk,z⟩/\∃(vs k:G'),j=vs.zip k /\
   BM A.in1 ⟨v,g,d,tk,z⟩ vs k c/\vs.length+e.size=k.length+f.size) _
  case turn =>
   rintro⟨y,x⟩ j b L ⟨q,rfl,vs,k,a,r,m⟩
   cases r with
   |nil=>rw[List.zip_nil_left] at a;cases a
   |lt=>rw[List.zip_nil_left] at a;cases a
   |gt=>rw[List.zip_nil_right] at a;cases a
   |eq o H=>
    rw[List.zip_cons_cons] at a;injection a with t B;injection t with p i;subst p i;simp only[D9] at m;refine Ad (o u w _ _ ?_)
    wp_walk
    exact⟨rfl,rfl,_,_,B,H,by lia⟩
   |ne o I=>
    rw[List.zip_cons_cons] at a;injection a with t B;injection t with p i;subst p i;refine Ad (o u w _ _ ?_);have N:=I u w
    wp_walk using N
    exact⟨_,rfl,by simpa using h⟩
  case fin =>
   rintro⟨P,Q⟩ L ⟨q,rfl,vs,k,a,r,m⟩;simp only at q;subst q
   have J:c=decide (f.size<e.size):=by
    cases r with|nil=>simp only[Hc] at m;exact(DL (by lia)).symm|lt=>simp only[Hc,D9] at m;exact(Bs (by lia)).symm|gt=>simp only[Hc,D9] at m;exact(DL (by lia)).symm|eq=>rw[List.zip_cons_cons] at a;cases a|ne=>rw[List.zip_cons_cons] at a;cases a
   rw[J] at h
   wp_walk
   exact⟨_,rfl,by simpa [Builtin.Tuple.tupleCompareSizes] using h⟩
  case h =>
   exact⟨rfl,rfl,f.toList,e.toList,rfl,i,by simp[Nat.add_comm]⟩
def dQ(l b:Addr)(f e:O')(n C:Nat)(D N:Option Addr)(E O:Array (L'))(c:Bool)(k:Nat) :
 ∀i:Nat,f.size-i=k->i<=f.size->i<=e.size->Meets (Builtin.«list.__eq__.loop» ⟨[.ref l,.ref b,rawInt i,rawInt 0],[]⟩)
  (λA R s=>s.heap.get? l=some {cls:=.type "list",dict:=D,data:=.seq f n,slots:=E}/\s.heap.get? b=some {cls:=.type "list",dict:=N,data:=.seq e C,slots:=O} /\
   BM A.in1 s (f.toList.drop i) (e.toList.drop i) c/\R (.ok (.ret (.bool c))) s):=by
 induction k with
 |zero=>
  intro i F G P q w A R s h;obtain⟨H,g,d,tk,I⟩:=s;obtain⟨j,m,a,h⟩:=h;have u:f.toList.drop i=[]:=by simp;lia
  rw[u] at a
  have v:c=decide (f.size<e.size):=by
   generalize o:e.toList.drop i=r at a;have x:=Bw List.length o;simp only[HE,Array.length_toList] at x;cases a with|nil=>simp only[Hc] at x;exact(DL (by lia)).symm|lt=>simp only[D9] at x;exact(Bs (by lia)).symm
  wp_walk using wpAny_loadPart' j,wpAny_loadPart' m
  have p:f[((i:Nat):Int).toNat]?=none:=by simp;lia
  rw[p]
  wp_walk using wpAny_loadPart' j,wpAny_loadPart' m
  show R (.ok (.ret (.bool (decide (f.size<e.size))))) _;rw[<-v];exact h
 |succ k J=>
  intro i F G P q w A R s h;obtain⟨H,g,d,tk,I⟩:=s;obtain⟨j,m,a,h⟩:=h;have z:i<f.size:=(by lia);have p:f[((i:Nat):Int).toNat]?=some f[i]:=(by simp[z]);have u:f.toList.drop i=f[i]::f.toList.drop (i+1):=(by simp[NV,z]);rw[u] at a
  wp_walk using wpAny_loadPart' j,wpAny_loadPart' m
  by_cases B:i<e.size;have t:e[((i:Nat):Int).toNat]?=some e[i]:=(by simp[B]);have o:e.toList.drop i=e[i]::e.toList.drop (i+1):=(by simp[NV,B]);have K:((i:Int)+1)=((i+1:Nat):Int):=by push_cast;rfl
  rw[o] at a;rw[p,t]
  cases a with
  |eq y L=>
   refine Ad (y q w _ _ ?_)
   wp_walk
   rw[K]
   exact⟨plainId_quiet plain_eq_loop _,codeAny_builtin entry_eq_loop (by
    rw[t8 plain_eq_loop _];exact J (i+1) (by lia) (by lia) (by lia) q w A R _ ⟨j,m,L,h⟩)⟩
  |ne y M=>
   refine Ad (y q w _ _ ?_);have Q:=M q w
   wp_walk using wpAny_loadPart' j,wpAny_loadPart' m
   rw[p,t]
   wp_walk using Q
   exact h
  have t:e[((i:Nat):Int).toNat]?=none:=by simp;lia
  have o:e.toList.drop i=[]:=by simp;lia
  rw[o] at a;have v:c=decide (f.size<e.size):=(by cases a;exact(DL (by lia)).symm);rw[p,t]
  wp_walk using wpAny_loadPart' j,wpAny_loadPart' m
  show R (.ok (.ret (.bool (decide (f.size<e.size))))) _;rw[<-v];exact h
def Xr(l b:Addr)(f e:O')(n a:Nat)(i o:Option Addr)(j p:Array (L'))(c:Bool) :
 Meets (Builtin.«list.__lt__» ⟨[.ref l,.ref b],[]⟩)
  (λA R s=>s.heap.get? l=some {cls:=.type "list",dict:=i,data:=.seq f n,slots:=j}/\s.heap.get? b=some {cls:=.type "list",dict:=o,data:=.seq e a,slots:=p} /\
   BM A.in1 s f.toList e.toList c/\R (.ok (.ret (.bool c))) s):=by
 intro r w A R s h;obtain⟨t,g,d,tk,u⟩:=s;obtain⟨k,m,q,h⟩:=h;have v:=AutoSeq1.sub_list_list
 wp_walk using wpAny_loadPart' k,wpAny_loadPart' m
 exact⟨plainId_quiet plain_eq_loop _,codeAny_builtin entry_eq_loop (by
  rw[t8 plain_eq_loop _];exact dQ l b f e n a i o j p c _ 0 rfl (Dp _) (Dp _) r w A R _ ⟨k,m,by simpa using q,h⟩)⟩
section
variable {A:Around} {s:Shared}
variable {l b:Addr}{f e:O'}
def Cc.tuples{c:Bool}(k:IsTup s.heap l f)(m:IsTup s.heap b e)(o:BM A.in1 s f.toList e.toList c)(p:A.units<cLine):Cc A s (.ref l) (.ref b) c:=λz w E Q h=>by
 obtain⟨⟨y,q,B,r⟩,a,d,n,hd⟩:=id k;obtain⟨⟨C,u,data2,v⟩,g,i,t,j⟩:=id m;simp only at d hd i j;subst d hd i j
 exact richCompare_meets_room (op:=.Lt) ⟨_,a,rfl⟩ ⟨_,g,rfl⟩ PySem.F.slot_tuple_lt PySem.F.entry_tuple_lt (PySem.F.args_tuple_lt_2 _ _) (dP l b f e n t q u r v c)
  ⟨a,g,o,show Value.bool c≠Value.notImplemented/\Q (.bool c) s from⟨(λx=>nomatch x),h⟩⟩ p
def Cc.lists{c:Bool}(k:s.heap.IsList l f)(m:s.heap.IsList b e)(o:BM A.in1 s f.toList e.toList c)(p:A.units<cLine):Cc A s (.ref l) (.ref b) c:=λz w E Q h=>by
 obtain⟨⟨y,q,B,r⟩,a,d,n,hd⟩:=id k;obtain⟨⟨C,u,data2,v⟩,g,i,t,j⟩:=id m;simp only at d hd i j;subst d hd i j
 exact richCompare_meets_room (op:=.Lt) ⟨_,a,rfl⟩ ⟨_,g,rfl⟩ PySem.F.slot_list_lt PySem.F.entry_list_lt (PySem.F.args_list_lt_2 _ _) (Xr l b f e n t q u r v c)
  ⟨a,g,o,show Value.bool c≠Value.notImplemented/\Q (.bool c) s from⟨(λx=>nomatch x),h⟩⟩ p
def Xs{prog:Program}{w:World}{E:D'}{c:Bool}{Q:Bool->Shared->Prop}(j:s.heap.IsList l f)(k:s.heap.IsList b e)(m:BM A.in1 s f.toList e.toList c)(o:A.units<cLine)(h:Q c s) :
 wpAny (model prog w) A (oneLt' true (.ref l) (.ref b)) Q E s:=by
 obtain⟨⟨x,p,y,q⟩,a,d,n,hd⟩:=id j;obtain⟨⟨z,t,data2,u⟩,v,g,r,i⟩:=id k;simp only at d hd g i;subst d hd g i;rw[oneLt'_eq];simp only[if_true];refine Ad (wpAny_cRoomFor o ?_);refine Ad (wpAny_callSpecialIfBound?_slot (T:= "list") ⟨_,a,rfl⟩ PySem.F.slot_list_lt (call_meets PySem.F.slot_list_lt ⟨_,a,rfl⟩ PySem.F.entry_list_lt (PySem.F.args_list_lt_2 _ _) (Xr l b f e n r p t q u c) ⟨a,v,m,?_⟩));exact Gw h
end
def Ff (O:KeyOrd):List O.α->List O.α->Bool
 |[],[]=>false
 |[],_::_=>true
 |_::_,[]=>false
 |x::xs,y::ys=>O.blt x y || (!O.blt y x && Ff O xs ys)
def MU(O:KeyOrd)(x y:O.α)(xs ys:List O.α):Ff O (x::xs) (y::ys)=(O.blt x y || (!O.blt y x && Ff O xs ys)):=rfl
theorem Xu(O:KeyOrd):∀xs,Ff O xs xs=false
 |[]=>rfl
 |x::xs=>by rw[MU,O.irrefl,Xu O xs];rfl
theorem Xv(O:KeyOrd):∀xs ys zs,Ff O xs ys=true->Ff O ys zs=true->Ff O xs zs=true
 |[],[],_,h,_=>by cases h
 |[],_::_,[],_,k=>by cases k
 |[],_::_,_::_,_,_=>rfl
 |_::_,[],_,h,_=>by cases h
 |_::_,_::_,[],_,k=>by cases k
 |x::xs,y::ys,z::zs,a,b=>by
   rw[MU] at *;simp only[Bool.or_eq_true,Bool.and_eq_true,Bool.not_eq_true'] at a b ⊢;rcases a with a|⟨a,c⟩<;>rcases b with b|⟨b,d⟩;exact .inl (O.trans _ _ _ a b);exact .inl (KeyOrd.klt_of_klt_of_kle a b);exact .inl (KeyOrd.klt_of_kle_of_klt a b);exact .inr ⟨KeyOrd.kle_trans (O:=O) a b,Xv O xs ys zs c d⟩
theorem Xw(O:KeyOrd):∀xs ys zs,Ff O xs zs=true->Ff O xs ys=true\/Ff O ys zs=true
 |[],[],[],h=>by cases h
 |[],[],_::_,_=>.inr rfl
 |[],_::_,_,_=>.inl rfl
 |_::_,_,[],h=>by cases h
 |_::_,[],_::_,_=>.inr rfl
 | x :: xs,y :: ys,z :: zs,h=>by
   rw[MU] at *;rw[MU];simp only[Bool.or_eq_true,Bool.and_eq_true,Bool.not_eq_true'] at h ⊢;rcases h with h|⟨h,k⟩;rcases O.negTrans _ y _ h with h|h;exact .inl (.inl h);exact .inr (.inl h)
   cases b:O.blt x y with
   |true=>exact .inl (.inl rfl)
   |false=>
    cases c:O.blt y z with
    |true=>exact .inr (.inl rfl)
    |false=>have d:O.kle y x:=b;have e:O.kle z y:=c;have a:O.kle x z:=h;have f:O.blt y x=false:=KeyOrd.kle_trans (O:=O) a e;have g:O.blt z y=false:=KeyOrd.kle_trans (O:=O) d a;rcases Xw O xs ys zs k with k|k;exact .inl (.inr ⟨f,k⟩);exact .inr (.inr ⟨g,k⟩)
theorem Xx(O:KeyOrd):∀xs ys,Ff O xs ys=false->Ff O ys xs=false->xs=ys
 |[],[],_,_=>rfl
 |[],_::_,h,_=>by cases h
 |_::_,[],_,k=>by cases k
 |x::xs,y::ys,a,b=>by rw[MU] at a b;simp only[Bool.or_eq_false_iff,Bool.and_eq_false_iff,Bool.not_eq_false'] at a b;have c:x=y:=O.total _ _ a.1 b.1;have d:xs=ys:=Xx O xs ys (by rcases a.2 with z|z;exact absurd (b.1.symm.trans z) (by simp);exact z) (by rcases b.2 with z|z;exact absurd (a.1.symm.trans z) (by simp);exact z);rw[c,d]
@[reducible] def PL (O:KeyOrd):KeyOrd where
 α:=List O.α
 blt:=Ff O
 irrefl:=Xu O
 trans:=Xv O
 negTrans:=Xw O
 total:=Xx O
def Ox{P:KeyOrd}(x y:(BW O P).α)(e:x.1=y.1):(BW O P).blt x y=P.blt x.2 y.2:=by show(O.blt x.1 y.1 || (!O.blt y.1 x.1 && P.blt x.2 y.2))=_;rw[e,O.irrefl];rfl
def Oy{P:KeyOrd}(x y:(BW O P).α)(e:x.1≠y.1):(BW O P).blt x y=O.blt x.1 y.1:=by
 show(O.blt x.1 y.1 || (!O.blt y.1 x.1 && P.blt x.2 y.2))=_
 cases a:O.blt x.1 y.1 with
 |true=>rfl
 |false=>
  cases b:O.blt y.1 x.1 with|true=>rfl|false=>exact absurd (O.total _ _ a b) e
def dR(x:O.α)(xs ys:List O.α):Ff O (x::xs) (x::ys)=Ff O xs ys:=by rw[MU,O.irrefl];rfl
def dS{x y:O.α}(xs ys:List O.α)(e:x≠y):Ff O (x::xs) (y::ys)=O.blt x y:=by
 rw[MU]
 cases a:O.blt x y with
 |true=>rfl
 |false=>
  cases b:O.blt y x with|true=>rfl|false=>exact absurd (O.total _ _ a b) e
mutual
theorem DV.mono {n m:Nat}{d e:Dt} (c:DV n d e) (h:n<=m):DV m d e:=by
 cases c with
 | non=>exact .non
 | bl a b=>exact .bl a b
 | int a b=>exact .int a b
 | str a b=>exact .str a b
 | tup t=>cases m with
   | zero=>exact absurd h (Nat.not_succ_le_zero _)
   | succ m=>exact .tup (BB.mono t (Nat.le_of_succ_le_succ h))
 | lst t=>cases m with
   | zero=>exact absurd h (Nat.not_succ_le_zero _)
   | succ m=>exact .lst (BB.mono t (Nat.le_of_succ_le_succ h))
 | apart a=>cases m with
   | zero=>exact absurd h (Nat.not_succ_le_zero _)
   | succ m=>exact .apart a
theorem BB.mono {n m:Nat}{a es:List Dt} (c:BB n a es) (h:n<=m):BB m a es:=by
 cases c with| nil=>exact .nil _| nil'=>exact .nil' _| cons c t=>exact .cons (DV.mono c h) (BB.mono t h)
end
structure Enc where
 O:KeyOrd
 D:O.α->Dt
 dflt:O.α
 dep:Nat
 cmp:∀a b,DV dep (D a) (D b)
 inj:∀a b,D a=D b->a=b
 lt:∀{X:Cx}{pins:B'}{σ:St}{H:Hp}{s:Shared},Inv X pins σ H s->∀{a b:O.α}{v u:V}{x y:Value}{A:Around},Aq X.K H v (D a)->Aq X.K H u (D b)->RelV v x->RelV u y->A.units+dep<cLine->Cc A s x y (O.blt a b)
section
variable {X:Cx} {pins:B'} {σ:St} {H:Hp} {s:Shared}
def Enc.eq(c:Enc)(I:Inv X pins σ H s){a b:c.O.α}{u:V}{x y:Value}{A:Around}(hv:Aq X.K H v (c.D a))(d:Aq X.K H u (c.D b))(e:RelV v x)(f:RelV u y)(g:A.units+c.dep<cLine):EqAt A s x y (dec (a=b)):=by
 have:=Xf (A:=A) I (c.cmp a b) hv d e f g
 rwa [Ot (p:=c.D a=c.D b) (q:=a=b) ⟨c.inj a b,λz=>by rw[z]⟩] at this
def Enc.lex(c:Enc)(I:Inv X pins σ H s){a b:c.O.α}{u:V}{x y:Value}{A:Around}{vs ws:G'}{e f:Bool}(hv:Aq X.K H v (c.D a))(h:Aq X.K H u (c.D b))(i:RelV v x)(j:RelV u y)(k:A.units+c.dep<cLine)(l:a=b->BM A s vs ws e/\f=e)(m:a≠b->f=c.O.blt a b):BM A s (x::vs) (y::ws) f:=by have d:=c.eq (A:=A) I hv h i j k;by_cases g:a=b;rw[Eu g] at d;obtain⟨t,rfl⟩:=l g;exact .eq d t;rw[EV g] at d;rw[m g];exact .ne d (c.lt I hv h i j k)
end
@[reducible] def Ga:Enc where
 O:=PB
 D:=Dt.int
 dflt:=(0:Int)
 dep:=0
 cmp a b:=.int a b
 inj a b h:=Dt.int.inj h
 lt {X pins σ H s} I {a b v u x y A} hv hu rx ry _:=by cases hv;cases hu;obtain⟨t,rfl⟩:=rx;obtain⟨t',rfl⟩:=ry;exact λprog w E Q h=>(PySem.P.lt_int h:wpAny (model prog w) _ (compareOp .Lt _ _) Q E _)
@[reducible] def UD:Enc where
 O:=CC
 D:=Dt.str
 dflt:=(default:Str)
 dep:=0
 cmp a b:=.str a b
 inj a b h:=Dt.str.inj h
 lt {X pins σ H s} I {a b v u x y A} hv hu rx ry _:=by cases hv;cases hu;obtain⟨t,rfl⟩:=rx;obtain⟨t',rfl⟩:=ry;exact λprog w E Q h=>(PySem.P.lt_str h:wpAny (model prog w) _ (compareOp .Lt _ _) Q E _)
section
variable {X:Cx} {pins:B'} {σ:St} {H:Hp} {s:Shared}
def Enc.lexL(c:Enc)(I:Inv X pins σ H s){A:Around}(j:A.units+c.dep<cLine):∀{as bs:List c.O.α}{vs us:U'}{xs ys:G'},Ak X.K H vs (as.map c.D)->Ak X.K H us (bs.map c.D)->Av vs xs->Av us ys->BM A s xs ys (Ff c.O as bs):=by
 intro as
 induction as with
 |nil=>
  intro bs vs us xs ys g d i f;cases g;cases i;cases bs with|nil=>cases d;cases f;exact .nil|cons b bs=>cases d;cases f;exact .lt _ _
 |cons a as k=>
  intro bs vs us xs ys g d i f
  cases g with
  |cons h t=>cases i with
    |cons r q=>cases bs with
      |nil=>cases d;cases f;exact .gt _ _
      |cons b bs=>cases d with
        |cons l m=>cases f with
          |cons n o=>exact c.lex I h l r n j (λe=>⟨k t m q o,by subst e;exact dR a as bs⟩) (λe=>dS as bs e)
end
theorem Xy(c:Enc):∀{a b:List c.O.α},a.map c.D=b.map c.D->a=b
 |[],[],_=>rfl
 |[],_::_,h=>by cases h
 |_::_,[],h=>by cases h
 |x::a,y::b,h=>by rw[D6,D6] at h;injection h with d e;rw[c.inj x y d,Xy c e]
@[reducible] def EH (c:Enc):Enc where
 O:=PL c.O
 D l:=Dt.lst (l.map c.D)
 dflt:=([]:List c.O.α)
 dep:=c.dep+1
 cmp a b:=.lst (BB.of λd hd e he=>by
  obtain⟨x,_,rfl⟩:=AW.mp hd;obtain⟨y,_,rfl⟩:=AW.mp he;exact c.cmp x y)
 inj a b h:=Xy c (Dt.lst.inj h)
 lt {X pins σ H s} I {a b v u x y A} hv hu rx ry hA:=by
  cases hv with
  |lst h t=>
   cases hu with|lst h' t'=>cases rx;cases ry;obtain⟨its,r,p,_⟩:=I.list h;obtain⟨its',r',R,_⟩:=I.list h';exact Cc.lists p.isList R.isList (c.lexL (A:=A.in1) I (by rw[Hw];lia) t t' r r') (by lia)
def MV{K:Aj}{d e:Dt}(h:Ak K H vs [d,e]):∃a b,vs=[a,b]/\Aq K H a d/\Aq K H b e:=by
 cases h with
 |cons c t=>cases t with
   |cons f t=>cases t;exact⟨_,_,rfl,c,f⟩
def PM{K:Aj}{d e f:Dt}(h:Ak K H vs [d,e,f]):∃a b c,vs=[a,b,c]/\Aq K H a d/\Aq K H b e/\Aq K H c f:=by
 cases h with|cons g t=>obtain⟨a,b,rfl,i,j⟩:=MV t;exact⟨_,_,_,rfl,g,i,j⟩
def Ik{x y z:V}{us:G'}(r:Av [x,y,z] us):∃u w v,us=[u,w,v]/\RelV x u/\RelV y w/\RelV z v:=by
 cases r with|cons c d=>obtain⟨a,b,rfl,e,f⟩:=Lq d;exact⟨_,_,_,rfl,c,e,f⟩
@[reducible] def MW (c d:Enc):Enc where
 O:=BW c.O d.O
 D p:=Dt.tup [c.D p.1,d.D p.2]
 dflt:=(c.dflt,d.dflt)
 dep:=max c.dep d.dep+1
 cmp a b:=.tup (.cons ((c.cmp a.1 b.1).mono (Nat.le_max_left _ _)) (.cons ((d.cmp a.2 b.2).mono (Nat.le_max_right _ _)) (.nil _)))
 inj a b h:=by injection h with h;injection h with h1 h2;injection h2 with h2 _;exact Prod.ext (c.inj _ _ h1) (d.inj _ _ h2)
 lt {X pins σ H s} I {a b v u x y A} hv hu rx ry hA:=by
  have m1:=Nat.le_max_left c.dep d.dep;have m2:=Nat.le_max_right c.dep d.dep
  cases hv with
  |tup h t=>
   cases hu with|tup h' t'=>cases rx;cases ry;obtain⟨its,r,p,_⟩:=I.tuple h;obtain⟨its',r',R,_⟩:=I.tuple h';obtain⟨v1,v2,rfl,t1,t2⟩:=MV t;obtain⟨u1,u2,rfl,s1,s2⟩:=MV t';obtain⟨x1,x2,rfl,r1,r2⟩:=Lq r;obtain⟨y1,y2,rfl,q1,q2⟩:=Lq r';refine Cc.tuples p R (c.lex (A:=A.in1) I t1 s1 r1 q1 (by rw[Hw];lia) (λe=>⟨d.lex (A:=A.in1) I t2 s2 r2 q2 (by rw[Hw];lia) (λe'=>⟨.nil,?_⟩) λe'=>rfl,Ox a b e⟩) λe=>Oy a b e) (by lia);rw[e',d.O.irrefl]
@[reducible] def LA (c d e:Enc):Enc where
 O:=BW c.O (BW d.O e.O)
 D p:=Dt.tup [c.D p.1,d.D p.2.1,e.D p.2.2]
 dflt:=(c.dflt,d.dflt,e.dflt)
 dep:=max c.dep (max d.dep e.dep)+1
 cmp a b:=.tup (.cons ((c.cmp a.1 b.1).mono (Nat.le_max_left _ _)) (.cons ((d.cmp a.2.1 b.2.1).mono (by lia)) (.cons ((e.cmp a.2.2 b.2.2).mono (by lia)) (.nil _))))
 inj a b h:=by injection h with h;injection h with h1 h2;injection h2 with h2 h3;injection h3 with h3 _;exact Prod.ext (c.inj _ _ h1) (Prod.ext (d.inj _ _ h2) (e.inj _ _ h3))
 lt {X pins σ H s} I {a b v u x y A} hv hu rx ry hA:=by
  have m1:=Nat.le_max_left c.dep (max d.dep e.dep);have m2:=Nat.le_max_right c.dep (max d.dep e.dep);have m3:=Nat.le_max_left d.dep e.dep;have m4:=Nat.le_max_right d.dep e.dep
  cases hv with
  |tup h t=>
   cases hu with|tup h' t'=>cases rx;cases ry;obtain⟨its,r,p,_⟩:=I.tuple h;obtain⟨its',r',R,_⟩:=I.tuple h';obtain⟨v1,v2,v3,rfl,t1,t2,t3⟩:=PM t;obtain⟨u1,u2,u3,rfl,s1,s2,s3⟩:=PM t';obtain⟨x1,x2,x3,rfl,r1,r2,r3⟩:=Ik r;obtain⟨y1,y2,y3,rfl,q1,q2,q3⟩:=Ik r';refine Cc.tuples p R (c.lex (A:=A.in1) I t1 s1 r1 q1 (by rw[Hw];lia) (λg=>⟨d.lex (A:=A.in1) I t2 s2 r2 q2 (by rw[Hw];lia) (λg'=>⟨e.lex (A:=A.in1) I t3 s3 r3 q3 (by rw[Hw];lia) (λg''=>⟨.nil,?_⟩) λ_=>rfl,Ox a.2 b.2 g'⟩) λg'=>Oy a.2 b.2 g',Ox a b g⟩) λg=>Oy a b g) (by lia);rw[g'',e.O.irrefl]
section
variable {X:Cx}
abbrev DW (c:Enc):Type:=V×c.O.α
def Rs (X:Cx) (c:Enc):U'->Hp->VK->Prop:=λvs H Q=>∃(l:Addr)(zs:List (DW c)),vs=[.ref l]/\Ae X.K H l (zs.map (·.1))/\zs.length<64 /\
 (∀z∈zs,Aq X.K H z.1 (c.D z.2))/\∀(D:Addr)(zs':List (DW c)),zs'.Perm zs->(zs'.map (·.2)).Pairwise c.O.kle->H D=none->Q (.ref D) (upd H D (.lst (zs'.map (·.1))))
theorem UE(c:Enc)(κ:SortKind)
 (aj:∀(pins:B')(σ:St)(H:Hp)(s:Shared)(zs:List (DW c))(g:G')(Q:SortKind->Shared->Prop),Inv X pins σ H s->Av (zs.map (·.1)) g->(∀z∈zs,Aq X.K H z.1 (c.D z.2))->2<=g.length->Q κ s->wpAny (model X.prog X.w) X.A.in1.in1 (keyKind' g.toArray) Q (λ_ _=>False) s)
 (ai:∀(pins:B')(σ:St)(H:Hp)(s:Shared)(z m:DW c)(x y:Value)(C:Bool->Shared->Prop),Inv X pins σ H s->Aq X.K H z.1 (c.D z.2)->Aq X.K H m.1 (c.D m.2)->RelV z.1 x->RelV m.1 y->C (c.O.blt z.2 m.2) s->wpAny (model X.prog X.w) X.A.in1.in1 (keyLt' κ x y) C (λ_ _=>False) s) :
 Bc X (.builtin "sorted") (Rs X c):=by
 intro pins s σ H vs us Q I r h;obtain⟨l,zs,rfl,M,an,v,q⟩:=h;obtain⟨u,rfl,N⟩:=FG r;obtain rfl:u=Value.ref l:=N;obtain⟨g,p,P,_⟩:=I.list M;have J:zs.length=g.length:=by have:=p.length;rwa [Am] at this
 let b:DW c:=(V.non,c.dflt)
 have t:∀i,i<zs.length->RelV (zs.getD i b).1 (g.getD i Value.none)/\Aq X.K H (zs.getD i b).1 (c.D (zs.getD i b).2):=λi d=>by
  have:=PD p i V.non Value.none (by rw[Am];exact d);have e:(zs.map (·.1)).getD i V.non=(zs.getD i b).1:=(by rw[CU,AQ,CU,AD d];rfl);rw[e] at this;refine⟨this,v _ ?_⟩;rw[CU,AD d];exact Ez d
 refine UB (O:=c.O) (key:=λi=>(zs.getD i b).2) (κ:=κ) (vs:=g) P.isList (by lia) (λo w k R S=>?_) (λw k i j C d hj T=>?_) λD w n f L A G ae U=>?_;exact aj pins σ H _ zs g R (I.kept (t':=s.toks) k) p v o S;obtain⟨W,Y⟩:=t i (by lia);obtain⟨Z,b2⟩:=t j (by lia);unfold PySem.W.kas_ask;exact ai pins σ H _ _ _ _ _ C (I.kept (t':=s.toks) k) Y b2 W Z T
 have af:∀i∈f,i<zs.length:=λi d=>by
  have:=G.mem_iff.mp d;rw[J];simpa using this
 have ak:(List.range zs.length).map (λi=>zs.getD i b)=zs:=(by apply t4;intro k;by_cases B:k<zs.length;simp[B,CU];simp[B])
 have K:(f.map λi=>zs.getD i b).Perm zs:=by
  have:=G.map (λi=>zs.getD i b)
  rwa [<-J,ak] at this
 have hv:Av ((f.map λi=>zs.getD i b).map (·.1)) (f.map λi=>g.getD i Value.none):=(by rw[DK];exact Rr f λi d=>(t i (af i d)).1)
 have ag:((f.map λi=>zs.getD i b).map (·.2)).Pairwise c.O.kle:=by
  refine Rq (λ_ _ _=>KeyOrd.kle_trans) _ λi a al E o=>?_;rw[DK,AQ,E4] at E o;obtain⟨x,e1,rfl⟩:=E;obtain⟨y,F,rfl⟩:=o;obtain⟨ah,_⟩:=AV.mp F;have:=ae i ah;have aa:f.getD i 0=x:=by rw[CU,e1];rfl
  have ab:f.getD (i+1) 0=y:=by rw[CU,F];rfl
  rw[aa,ab] at this;exact this
 exact⟨.ref D,upd H D (.lst ((f.map λi=>zs.getD i b).map (·.1))),I.laidN (t':=s.toks) L A ⟨by rw[Am,K.length_eq];exact Cf (Bz (by lia)),_,n,hv,U⟩,rfl,q D _ K ag (I.freshN A)⟩
def UF{pins:B'}{s:Shared}{M:Model}(I:Inv X pins σ H s){a:List Dt}{x:Value}(h:Aq X.K H v (.lst a))(r:RelV v x):PySem.W.Looks M s.heap (typeOf x) (.type "list"):=by
 cases h with|lst h t=>cases r;obtain⟨d,_,p,_⟩:=I.list h;obtain⟨o,b,c,_⟩:=p.isList;rw[<-c];exact(PySem.W.Looks.ld b).andThen .now
def dU(c:Enc)(G:X.A.units+64<cLine)(hd:c.dep<=50):Bc X (.builtin "sorted") (Rs X (EH c)):=by
 refine UE (EH c) oneType' (λF σ H s f D Q I b g j k=>?_) λF σ H s z l x y C I h a r m n=>?_;refine PySem.W.kas_kind (T:=.type "list") j (λv o=>?_) (by decide) (by decide) k;obtain⟨i,d⟩:=List.getElem?_of_mem o;have J:=(AV.mp d).1;have q:=b.length;rw[Am] at q;obtain⟨x,e,w⟩:=b.get (i:=i) (x:=(f[i]'(by lia)).1) (by rw[AQ,AD (by lia)];rfl);rw[d] at e;cases e;exact UF I (g _ (Ez (by lia))) w;rw[keyLt'_oneType];obtain⟨v,as⟩:=z;obtain⟨u,bs⟩:=l
 cases h with
 |lst h t=>
  cases a with|lst a A=>cases r;cases m;obtain⟨D,B,p,_⟩:=I.list h;obtain⟨K,E,R,_⟩:=I.list a;exact Xs p.isList R.isList (c.lexL I (by show _+1+1+1+_<_;lia) t A B E) (by show _+1+1<_;lia) n
theorem UG(c:Enc){pins:B'}{σ:St}{H:Hp}{s:Shared}(I:Inv X pins σ H s){g:c.O.α->List Dt}:∀{zs:List (V×c.O.α)}{f:G'}{k:c.O.α->List Dt},Av (zs.map (·.1)) f->(∀z∈zs,∃b,k z.2=Dt.lst b::g z.2/\Aq X.K H z.1 (.tup (k z.2))) ->
 ∃fs,PySem.W.KatTups s.heap f fs/\fs.length=zs.length/\∀v∈fs,∃(u:V)(b:List Dt),Aq X.K H u (.lst b)/\RelV u v
 |[],_,_,.nil,_=>⟨[],.nil,rfl,λ_ x=>by cases x⟩
 | z :: zs,_,k,.cons r i,h=>by
   obtain⟨fs,j,l,m⟩:=UG c I (zs:=zs) i λy p=>h y (BQ _ p);obtain⟨b,e,hd⟩:=h z Bg;rw[e] at hd;obtain⟨v,a⟩:=z;dsimp only at r hd
   cases hd with
   | tup q t=>
    cases r;obtain⟨f,A,⟨o,B,C,n,D⟩,_⟩:=I.tuple q
    cases t with
    |cons E G=>
     cases A with
     |cons F J=>refine⟨_::fs,.cons B C D rfl j,by simp[l],λw d=>?_⟩;rcases B1.mp d with e|d;exact⟨_,b,E,e▸F⟩;exact m w d
def UH{A:Around}{s:Shared}{prog:Program}{w:World}{E:D'}{x y:Value}{b:Bool}{Q:Bool->Shared->Prop}(h:Cc A s x y b)(q:Q b s):wpAny (model prog w) A (oneLt' false x y) Q E s:=
 PySem.W.kat_one _ _ (h prog w E _ q)
def Il(c:Enc){pins:B'}{s:Shared}(I:Inv X pins σ H s){A:Around}{as bs:List c.O.α}{u:V}{x y:Value}{prog:Program}{w:World}{E:D'}{Q:Bool->Shared->Prop}(h:Aq X.K H v ((EH c).D as))(h':Aq X.K H u ((EH c).D bs))(r:RelV v x)(a:RelV u y)(f:A.units+(c.dep+1)<cLine)(q:Q (Ff c.O as bs) s):wpAny (model prog w) A (oneLt' true x y) Q E s:=by
 cases h with
 |lst h t=>
  cases h' with|lst h' b=>cases r;cases a;obtain⟨g,d,p,_⟩:=I.list h;obtain⟨i,e,R,_⟩:=I.list h';exact Xs p.isList R.isList (c.lexL I (by rw[Hw];lia) t b d e) (by lia) q
def dV (c d:Enc) (hu:X.A.units + 64 < cLine) (h1:c.dep<=50) (h2:d.dep<=50):Bc X (.builtin "sorted") (Rs X (MW (EH c) d)):=by
 refine UE (MW (EH c) d) (tuples' true) (λah σ H s zs Z ai I o M hl N=>?_) λah σ H s z O x aj C I h w r y a=>?_;obtain⟨fs,P,k2,Q⟩:=UG (MW (EH c) d) I (k:=λp=>[(EH c).D p.1,d.D p.2]) (g:=λp=>[d.D p.2]) o λz aa=>⟨_,rfl,M z aa⟩;have ab:=o.length;rw[Am] at ab;refine PySem.W.kat_kind (T:=.type "list") P (by lia) (λv R=>?_) (by decide) N;obtain⟨u,ds,S,U⟩:=Q v R;exact UF I S U;obtain⟨v,p⟩:=z;obtain⟨u,q⟩:=O;dsimp only at h w r y;change C ((MW (EH c) d).O.blt p q) s at a;have j:X.A.in1.in1.units=X.A.units+1+1:=rfl
 cases h with
 | tup V t=>
  cases w with
  | tup ae b=>
   cases r;cases y;obtain⟨Z,e,⟨ox,af,_,n,W⟩,_⟩:=I.tuple V;obtain⟨ak,f,⟨oy,ag,_,m,Y⟩,_⟩:=I.tuple ae
   cases t with
   | cons B t=>cases t with
     | cons D t=>cases t; cases b with
       | cons E b=>cases b with
         | cons F b=>cases b; cases e with
           |cons G e=>cases e with
             |cons J e=>cases e; cases f with
               |cons K f=>cases f with
                 |cons L f=>
                  cases f;refine PySem.W.kat_lt af W ag Y (PySem.W.kat_cons ((EH c).eq (A:=X.A.in1.in1) I B E G K (by rw[j];show _+(c.dep+1)<_;lia) _ _ _ _ ?_));by_cases i:p.1=q.1;rw[Eu i];rw[show(MW (EH c) d).O.blt p q=d.O.blt p.2 q.2 from Ox p q i] at a;refine PySem.W.kat_yes (PySem.W.kat_cons (d.eq (A:=X.A.in1.in1) I D F J L (by rw[j];lia) _ _ _ _ ?_));by_cases l:p.2=q.2;rw[Eu l];refine PySem.W.kat_yes (PySem.W.kat_nil ?_);rw[l,d.O.irrefl] at a;exact a;rw[EV l];exact PySem.W.kat_no (UH (d.lt I D F J L (by rw[j];lia)) a);rw[EV i];rw[show(MW (EH c) d).O.blt p q=Ff c.O p.1 q.1 from Oy p q i] at a;exact PySem.W.kat_no (Il c I B E G K (by rw[j];lia) a)
def dX (c d e:Enc) (hu:X.A.units + 64 < cLine) (h1:c.dep<=50) (h2:d.dep<=50) (h3:e.dep<=50):Bc X (.builtin "sorted") (Rs X (LA (EH c) d e)):=by
 refine UE (LA (EH c) d e) (tuples' true) (λai σ H s zs aa aj I y S hl U=>?_) λai σ H s z V x ak C I h B r D a=>?_;obtain⟨fs,W,k2,Y⟩:=UG (LA (EH c) d e) I (k:=λp=>[(EH c).D p.1,d.D p.2.1,e.D p.2.2]) (g:=λp=>[d.D p.2.1,e.D p.2.2]) y λz ab=>⟨_,rfl,S z ab⟩;have ae:=y.length;rw[Am] at ae;refine PySem.W.kat_kind (T:=.type "list") W (by lia) (λv Z=>?_) (by decide) U;obtain⟨u,ds,a1,a2⟩:=Y v Z;exact UF I a1 a2;obtain⟨v,p⟩:=z;obtain⟨u,q⟩:=V;dsimp only at h B r D;change C ((LA (EH c) d e).O.blt p q) s at a;have j:X.A.in1.in1.units=X.A.units+1+1:=rfl
 cases h with
 | tup hs t=>
  cases B with
  | tup af b=>
   cases r;cases D;obtain⟨aa,f,⟨ox,ag,_,n,dx⟩,_⟩:=I.tuple hs;obtain⟨al,i,⟨oy,ah,_,m,dy⟩,_⟩:=I.tuple af
   cases t with
   | cons E t=>cases t with
     | cons F t=>cases t with
       | cons G t=>cases t; cases b with
         | cons J b=>cases b with
           | cons K b=>cases b with
             | cons L b=>cases b; cases f with
               | cons M f=>cases f with
                 | cons N f=>cases f with
                   |cons O f=>cases f; cases i with
                     |cons P i=>cases i with
                       |cons Q i=>cases i with
                         |cons R i=>
                          cases i;refine PySem.W.kat_lt ag dx ah dy (PySem.W.kat_cons ((EH c).eq (A:=X.A.in1.in1) I E J M P (by rw[j];show _+(c.dep+1)<_;lia) _ _ _ _ ?_));by_cases l:p.1=q.1;rw[Eu l];rw[show(LA (EH c) d e).O.blt p q=(BW d.O e.O).blt p.2 q.2 from Ox p q l] at a;refine PySem.W.kat_yes (PySem.W.kat_cons (d.eq (A:=X.A.in1.in1) I F K N Q (by rw[j];lia) _ _ _ _ ?_));by_cases o:p.2.1=q.2.1;rw[Eu o];rw[show(BW d.O e.O).blt p.2 q.2=e.O.blt p.2.2 q.2.2 from Ox p.2 q.2 o] at a;refine PySem.W.kat_yes (PySem.W.kat_cons (e.eq (A:=X.A.in1.in1) I G L O R (by rw[j];lia) _ _ _ _ ?_));by_cases w:p.2.2=q.2.2;rw[Eu w];refine PySem.W.kat_yes (PySem.W.kat_nil ?_);rw[w,e.O.irrefl] at a;exact a;rw[EV w];exact PySem.W.kat_no (UH (e.lt I G L O R (by rw[j];lia)) a);rw[EV o];rw[show(BW d.O e.O).blt p.2 q.2=d.O.blt p.2.1 q.2.1 from Oy p.2 q.2 o] at a;exact PySem.W.kat_no (UH (d.lt I F K N Q (by rw[j];lia)) a);rw[EV l];rw[show(LA (EH c) d e).O.blt p q=Ff c.O p.1 q.1 from Oy p q l] at a;exact PySem.W.kat_no (Il c I E J M P (by rw[j];lia) a)
end
def En:K'->Str->M'
 |[],_=>none
 |(y,n)::r,x=>if y=x then some n else En r x
def Eo:M'->V
 |some n=>.int n
 |none=>.non
theorem Im:∀{gs:K'}{i:Nat}{p:Str×Int}{x:Str},gs[i]?=some p->p.1=x->(∀q∈gs.take i,q.1≠x)->En gs x=some p.2
 |[],_,_,_,h,_,_=>by simp at h
 |q::r,0,p,x,h,e,_=>by simp at h;subst h;obtain⟨y,n⟩:=q;exact Ag e
 |q::r,i+1,p,x,h,e,k=>by obtain⟨y,n⟩:=q;have a:y≠x:=k (y,n) (by simp);show(if y=x then some n else En r x)=_;rw[Ah a];exact Im (i:=i) (by simpa using h) e λq b=>k q (by simp[b])
theorem Xz:∀{gs:K'}{x:Str},(∀q∈gs,q.1≠x)->En gs x=none
 |[],_,_=>rfl
 |(y,n)::r,x,k=>by show(if y=x then some n else En r x)=_;rw[Ah (k (y,n) (by simp))];exact Xz λq a=>k q (by simp[a])
theorem UI:∀{gs:K'}{x:Str}{n:Int},En gs x=some n->(x,n)∈gs
 |[],_,_,h=>by cases h
 |(y,m)::r,x,n,h=>by
   have h':(if y=x then some m else En r x)=some n:=h;by_cases e:y=x;rw[Ag e] at h';rw[<-e,<-Bt h'];exact Bg;rw[Ah e] at h';exact BQ _ (UI h')
abbrev Ao:Type:=Int×Str×Int
abbrev X':=List Ao
abbrev W':=List (List Ao)
abbrev Hg (m:Ao):U':=[.int m.1,.str m.2.1,.int m.2.2]
abbrev AK:Type:=List Ao×Int×Int
abbrev Y':=List AK
structure Wd where
 ss:List Bo
 gs:K'
 as:List (C')
 sts:List Ew
abbrev Gn:Type:=Ao×(Str×Int)×Int
def EW (W:Wd) (sc:Int) (go:K') (p:Ci) (i:Nat):List Gn:=match En go p.1 with
 |some a=>[((sc,o1,(i:Int)),Bu W.gs W.as p,a)]
 |none=>[]
def Ex (W:Wd) (sc:Int) (go:K'):List Ci->Nat->List Gn
 |[],_=>[]
 |p::r,i=>EW W sc go p i++Ex W sc go r (i+1)
def BN (W:Wd) (sc:Int):List Ci:=match W.ss[sc.toNat]? with
 |some s=>s.1
 |none=>[]
def Cw (W:Wd) (st:Int):K':=match W.sts[st.toNat]? with
 |some s=>s.1
 |none=>[]
def EX (W:Wd) (sc st:Int):List Gn:=Ex W sc (Cw W st) (BN W sc) 0
theorem XA(W:Wd)(a:Int)(go:K')(p:Ci):∀(l:List Ci)(i:Nat),Ex W a go (l++[p]) i=Ex W a go l i++EW W a go p (i+l.length)
 |[],i=>by simp[Ex]
 |q::l,i=>by show EW W a go q i++Ex W a go (l++[p]) (i+1)=(EW W a go q i++Ex W a go l (i+1))++_;rw[XA W a go p l (i+1),Gu,D9,show i+1+l.length=i+(l.length+1) by lia]
variable {W:Wd}{sc:Int}{r:Gn}
def Fg{go:K'}{p:Ci}:r∈EW W sc go p i↔∃a,En go p.1=some a/\r=((sc,o1,(i:Int)),Bu W.gs W.as p,a):=by
 unfold EW;cases e:En go p.1 with|none=>simp|some a=>simp
theorem BR{W:Wd}{sc:Int}{go:K'}{r:Gn}:∀{l:List Ci}{i:Nat},r∈Ex W sc go l i↔∃(j:Nat)(p:Ci)(a:Int),l[j]?=some p/\En go p.1=some a/\r=((sc,o1,((i+j:Nat):Int)),Bu W.gs W.as p,a)
 |[],i=>by simp[Ex]
 | q :: l,i=>by
   show r∈EW W sc go q i++Ex W sc go l (i+1)↔_;rw[B0,Fg,BR (l:=l) (i:=i+1)];constructor;rintro(⟨a,b,c⟩|⟨j,p,a,b,c,d⟩);exact⟨0,q,a,rfl,b,by rw[c];rfl⟩;exact⟨j+1,p,a,by simpa using b,c,by rw[d,show i+1+j=i+(j+1) by lia]⟩;rintro⟨j,p,a,b,c,d⟩;cases j with|zero=>simp at b;subst b;exact .inl ⟨a,c,by rw[d];rfl⟩|succ j=>exact .inr ⟨j,p,a,by simpa using b,c,by rw[d,show i+1+j=i+(j+1) by lia]⟩
theorem XB(W:Wd)(sc:Int)(go:K'):∀(l:List Ci)(i:Nat),(Ex W sc go l i).Pairwise (λr b=>r.1≠b.1)
 |[],i=>List.Pairwise.nil
 |q::l,i=>by show(EW W sc go q i++Ex W sc go l (i+1)).Pairwise _;refine List.pairwise_append.mpr ⟨?_,XB W sc go l (i+1),λr c b d e=>?_⟩;unfold EW;split;exact List.pairwise_singleton _ _;exact List.Pairwise.nil;obtain⟨a,_,rfl⟩:=Fg.mp c;obtain⟨j,p,f,_,_,rfl⟩:=BR.mp d;have:=Bw (λm:Ao=>m.2.2) e;simp only at this;lia
theorem MX(W:Wd)(sc:Int)(go:K'):∀(l:List Ci)(i:Nat),(Ex W sc go l i).length<=l.length
 |[],i=>AF _
 |q::l,i=>by
   show(EW W sc go q i++Ex W sc go l (i+1)).length<=_;have a:(EW W sc go q i).length<=1:=by unfold EW;split<;>simp
   have b:=MX W sc go l (i+1);rw[A1,D9];lia
def XC{go:K'}{l:List Ci}{b:Gn}(h:r∈Ex W sc go l i)(h':b∈Ex W sc go l i)(e:r.1=b.1):r=b:=by obtain⟨j,p,a,f,g,rfl⟩:=BR.mp h;obtain⟨k,R,o,c,d,rfl⟩:=BR.mp h';have:=Bw (λm:Ao=>m.2.2) e;simp only at this;have n:j=k:=(by lia);subst n;rw[f] at c;cases c;rw[g] at d;cases d;rfl
def A5 (b:AK):F':=b.1.map (·.1)++[b.2.1]
def kid (b:AK) (r:Gn):Option AK:=if r.2.1.1=j'/\r.2.1.2∉A5 b then some (b.1++[r.1],r.2.1.2,r.2.2) else none
def BK (W:Wd) (b:AK):Y':=(EX W b.2.1 b.2.2).filterMap (kid b)
variable {b:AK}
set_option tactic.hygienic true in
def AL{c:AK}:c∈BK W b↔∃r∈EX W b.2.1 b.2.2,r.2.1.1=j'/\r.2.1.2∉A5 b/\c=(b.1++[r.1],r.2.1.2,r.2.2):=by unfold BK kid;rw[List.mem_filterMap];constructor;rintro⟨r,a,e⟩;split at e;rename_i h;exact⟨r,a,h.1,h.2,(Bt e).symm⟩;cases e;rintro⟨r,a,d,f,e⟩;exact⟨r,a,by rw[Ag ⟨d,f⟩,e]⟩
def XD(W:Wd)(b:AK):(BK W b).length<=(BN W b.2.1).length:=FS (List.length_filterMap_le _ _) (MX _ _ _ _ _)
def XE(W:Wd)(b:AK):(BK W b).Nodup:=by refine List.Pairwise.filterMap (kid b) (λr g f c a h d e=>?_) (XB W b.2.1 (Cw W b.2.2) (BN W b.2.1) 0);unfold kid at a d;split at a;split at d;cases a;cases d;have:=Bw Prod.fst e;simp only at this;have:=(List.append_inj' this rfl).2;exact f (by simpa using this);cases d;cases a
inductive AN (W:Wd) (sc st:Int):AK->Prop where
 |root:AN W sc st ([],sc,st)
 |kid {b c:AK} (h:AN W sc st b) (k:c∈BK W b):AN W sc st c
structure BS (W:Wd):Prop where
 s5:W.ss.length<=100
 st:∀s∈W.ss,s.1.length<=8
 kst:∀s∈W.ss,∀p∈s.1,Ka W.ss.length W.as.length p
 kth:∀p∈W.gs,PK W.ss.length W.as.length p
 an:∀p,some p∈W.as->p.1=f'->0<=p.2/\p.2<W.gs.length
 go:∀s∈W.sts,∀p∈s.1,0<=p.2/\p.2<W.sts.length
 few:∀(sc st:Int)(F:Y'),(0<=sc/\sc<W.ss.length)->(0<=st/\st<W.sts.length)->F.Nodup->(∀b∈F,AN W sc st b)->F.length<=62
def BS.net(h:BS W):Fe W.gs W.as:=⟨λp b e=>by
 rcases h.kth p b with⟨a,_⟩|⟨a,_⟩|⟨_,c⟩;rw[e] at a;exact absurd a (by decide +kernel);rw[e] at a;exact absurd a (by decide +kernel);exact c,h.an⟩
def BS.by_(h:BS W)(a:s∈W.ss){p:Ci}(b:p∈s.1)(c:p.2.1≠j'):0<=p.2.2/\p.2.2<W.as.length:=by rcases h.kst s a p b with⟨e,_⟩|⟨_,e⟩;exact absurd e c;exact e
def LB:(o4,(0:Int)).1≠j':=by decide +kernel
def XF:n5≠j':=by decide +kernel
def XG(h:BS W){k:Str×Int}(c:k∈W.gs)(b:k.1=o5):0<=k.2/\k.2<W.ss.length:=by rcases h.kth k c with⟨a,_⟩|⟨_,d⟩|⟨a,_⟩;rw[b] at a;exact absurd a (by decide +kernel);exact d;rw[b] at a;exact absurd a (by decide +kernel)
variable {g:Str×Int}
set_option tactic.hygienic true in
def dY(h:BS W){q:Int}(e:Ec W.gs W.as q=g)(a:g.1=j'):0<=g.2/\g.2<W.ss.length:=by unfold Ec at e;split at e;split at e;split at e;rename_i k b;split at e;rename_i c;subst e;exact XG (k:=k) h (Bf b) c;subst e;exact absurd a LB;subst e;exact absurd a LB;subst e;exact absurd a LB;subst e;exact absurd a XF;subst e;exact absurd a LB
set_option tactic.hygienic true in
def UJ(h:BS W)(b:p∈W.gs)(e:Df W.gs W.as p=g)(a:g.1=j'):0<=g.2/\g.2<W.ss.length:=by unfold Df at e;split at e;rename_i c;subst e;exact XG (k:=p) h b c;split at e;exact dY h e a;subst e;exact absurd a LB
set_option tactic.hygienic true in
def dZ(h:BS W)(c:s∈W.ss){p:Ci}(d:p∈s.1)(e:Bu W.gs W.as p=g)(a:g.1=j'):0<=g.2/\g.2<W.ss.length:=by unfold Bu at e;split at e;rename_i j;subst e;rcases h.kst s c p d with⟨_,f⟩|⟨b,_⟩;exact f;rw[j] at b;exact absurd b (by decide +kernel);split at e;split at e;split at e;rename_i k i;exact UJ h (Bf i) e a;subst e;exact absurd a LB;subst e;exact absurd a LB;subst e;exact absurd a XF;subst e;exact absurd a LB
structure Dv (W:Wd) (b:AK):Prop where
 nd:(A5 b).Nodup
 rng:∀x∈A5 b,0<=x/\x<W.ss.length
 st:0<=b.2.2/\b.2.2<W.sts.length
set_option tactic.hygienic true in
def d5{p:Ci}(h:p∈BN W sc):∃s∈W.ss,p∈s.1:=by unfold BN at h;split at h;rename_i s a;exact⟨s,Bf a,h⟩;cases h
variable {st:Int}
set_option tactic.hygienic true in
def d6(h:p∈Cw W st):∃s∈W.sts,p∈s.1:=by unfold Cw at h;split at h;rename_i s a;exact⟨s,Bf a,h⟩;cases h
def LD(h:r∈EX W sc st):∃(j:Nat)(p:Ci)(a:Int),(BN W sc)[j]?=some p/\En (Cw W st) p.1=some a/\r=((sc,o1,(j:Int)),Bu W.gs W.as p,a):=by obtain⟨j,p,a,b,c,d⟩:=BR.mp h;exact⟨j,p,a,b,c,by rw[d,Nat.zero_add]⟩
def d7(h:r∈EX W b.2.1 b.2.2):A5 (b.1++[r.1],r.2.1.2,r.2.2)=A5 b++[r.2.1.2]:=by
 obtain⟨j,p,a,_,_,rfl⟩:=LD h;unfold A5;simp
def Dv.kid(ok:BS W){c:AK}(h:Dv W b)(k:c∈BK W b):Dv W c:=by
 obtain⟨r,e,g,i,rfl⟩:=AL.mp k;have f:=d7 e;obtain⟨j,p,a,l,m,rfl⟩:=LD e;obtain⟨s,n,o⟩:=d5 (Bf l);refine⟨?_,?_,?_⟩;rw[f,List.nodup_append]
 exact⟨h.nd,by simp,λx d y q=>by
  rw[AR.mp q];exact λz=>i (z▸d)⟩
 rw[f];intro x d;rcases B0.mp d with d|d;exact h.rng x d;rw[AR.mp d];exact dZ ok n o rfl g;obtain⟨t,u,v⟩:=d6 (UI m);exact ok.go t u _ v
def AN.ok{W:Wd}(ok:BS W){sc st:Int}(d:0<=sc/\sc<W.ss.length)(e:0<=st/\st<W.sts.length){b:AK}(h:AN W sc st b):Dv W b:=by
 induction h with|root=>exact⟨by simp[A5],λx a=>by simp[A5] at a;rw[a];exact d,e⟩|kid _ k c=>exact c.kid ok k
def AN.uniq(h:AN W sc st b):∀{c:AK},AN W sc st c->b.1=c.1->b=c:=by
 induction h with
 |root=>
  intro c a e;cases a with|root=>rfl|kid _ k=>obtain⟨r,_,_,_,rfl⟩:=AL.mp k;simp at e
 |@kid o p q k d=>
  intro c a e;obtain⟨r,f,s,t,rfl⟩:=AL.mp k;cases a with|root=>simp at e|@kid u _ m g=>obtain⟨v,n,w,x,rfl⟩:=AL.mp g;simp only at e;obtain⟨i,j⟩:=List.append_inj' e rfl;have l:=d m i;subst l;have:=XC f n (by simpa using j);subst this;rfl
theorem Kf:∀(n:Nat)(l:F'),l.Nodup->(∀x∈l,0<=x/\x<(n:Int))->l.length<=n
 |0,[],_,_=>AF _
 |0,x::l,_,h=>by have:=h x Bg;lia
 |n+1,l,b,h=>by
   have e:(l.erase (n:Int)).Nodup:=b.erase _
   have c:∀x∈l.erase (n:Int),0<=x/\x<(n:Int):=λx d=>by
    obtain⟨f,a⟩:=(b.mem_erase_iff).mp d;have:=h x a;lia
   have:=Kf n _ e c;have g:l.length<=(l.erase (n:Int)).length+1:=(by by_cases a:(n:Int)∈l;rw[List.length_erase_of_mem a];lia;rw[List.erase_of_not_mem a];lia);lia
set_option tactic.hygienic true in
def Rt(ok:BS W)(sc:Int):(BN W sc).length<=8:=by unfold BN;split;rename_i s a;exact ok.st s (Bf a);exact Dp _
structure Hh (W:Wd) (sc st:Int) (F:Y') (p:Nat):Prop where
 root:([],sc,st)∈F
 is:∀b∈F,AN W sc st b
 nd:F.Nodup
 done:∀(j:Nat)(b:AK),j<p->F[j]?=some b->∀c∈BK W b,c∈F
 src:∀c∈F,c=([],sc,st)\/∃(j:Nat)(b:AK),j<p/\F[j]?=some b/\c∈BK W b
 le:p<=F.length
def Hh.start(W:Wd)(sc st:Int):Hh W sc st [([],sc,st)] 0 where
 root:=Bg
 is b a:=by rw[AR.mp a];exact .root
 nd:=by simp
 done j b e:=by lia
 src c d:=.inl (AR.mp d)
 le:=Dp _
def Hh.turn{F:Y'}{p:Nat}(h:Hh W sc st F p)(g:F[p]?=some b):Hh W sc st (F++BK W b) (p+1):=by
 have x:p<F.length:=(AV.mp g).1;have y:=Bf g;have q:=h.is b y;have o:∀(j:Nat),j<F.length->(F++BK W b)[j]?=F[j]?:=λj f=>D7 f
 have one:∀(j:Nat)(c:AK),j<p+1->(F++BK W b)[j]?=some c->(j<p/\F[j]?=some c)\/c=b:=λj c f e=>by
  rw[o j (by lia)] at e;by_cases z:j<p;exact .inl ⟨z,e⟩;have:j=p:=(by lia);subst this;rw[g] at e;exact .inr (Bt e).symm
 refine⟨Et _ h.root,λc a=>?_,?_,λj c f e d hd=>?_,λc a=>?_,by rw[A1];lia⟩;rcases B0.mp a with a|a;exact h.is c a;exact .kid q a;refine List.nodup_append.mpr ⟨h.nd,XE W b,λc a d hd e=>?_⟩;subst e;obtain⟨r,C,_,_,l⟩:=AL.mp hd;rcases h.src c a with m|⟨j,i,f,k,n⟩;rw[m] at l;have:=Bw Prod.fst l;simp at this;obtain⟨D,H,_,_,A⟩:=AL.mp n;have s:i.1=b.1:=(by have:=Bw Prod.fst (A.symm.trans l);simp only at this;exact(List.append_inj' this rfl).1);have t:=(h.is i (Bf k)).uniq q s;subst t;obtain⟨E,u⟩:=AV.mp k;obtain⟨G,v⟩:=AV.mp g;have:=(List.getElem_inj h.nd).mp (u.trans v.symm);lia;rcases one j c f e with⟨B,w⟩|rfl;exact Et _ (h.done j c B w d hd);exact Db _ hd;rcases B0.mp a with a|a;rcases h.src c a with m|⟨j,i,f,k,n⟩;exact .inl m;exact .inr ⟨j,i,by lia,by rw[o j (by lia)];exact k,n⟩;exact .inr ⟨p,b,by lia,by rw[o p x];exact g,a⟩
def Hh.few{W:Wd}(ok:BS W){sc st:Int}(a:0<=sc/\sc<W.ss.length)(b:0<=st/\st<W.sts.length){F:Y'}{p:Nat}(h:Hh W sc st F p):F.length<=62:=ok.few sc st F a b h.nd h.is
abbrev Oz:Enc:=LA Ga UD Ga
abbrev DX:Enc:=LA (EH Oz) Ga Ga
structure Dw (W:Wd) (sc st:Int) (bs:Y'):Prop where
 mem:∀b,b∈bs↔AN W sc st b
 nd:bs.Nodup
 srt:bs.Pairwise DX.O.kle
 few:bs.length<=62
def Dw.uniq{l m:Y'}(h:Dw W sc st l)(k:Dw W sc st m):l=m:=
 Ov (O:=DX.O) ((List.perm_ext_iff_of_nodup h.nd k.nd).mpr λb=>(h.mem b).trans (k.mem b).symm) h.srt k.srt
def Hh.all(ok:BS W)(g:0<=sc/\sc<W.ss.length)(i:0<=st/\st<W.sts.length){F l:Y'}(h:Hh W sc st F F.length)(a:l.Perm F)(d:l.Pairwise DX.O.kle):Dw W sc st l:=by
 refine⟨λb=>?_,a.nodup_iff.mpr h.nd,d,by rw[a.length_eq];exact h.few ok g i⟩;rw[a.mem_iff];refine⟨h.is b,λe=>?_⟩
 induction e with|root=>exact h.root|kid _ k f=>obtain⟨j,c⟩:=List.getElem?_of_mem f;exact h.done j _ (AV.mp c).1 c _ k
def DP (F:Addr->Prop) (H:Hp) (t:Addr) (b:AK):Prop:=∃(l:Addr)(ms:I'),H t=some (.tup [.ref l,.int b.2.1,.int b.2.2])/\H l=some (.lst (ms.map V.ref))/\RT Hg H ms b.1/\F l
def DP.same{F:Addr->Prop}{H H':Hp}{t:Addr}{b:AK}(e:Ac H H')(h:DP F H t b):DP F H' t b:=by obtain⟨l,a,c,d,f,g⟩:=h;exact⟨l,a,e _ _ c,e _ _ d,f.same e,g⟩
def DP.mono{G:Addr->Prop}{t:Addr}(e:∀x,F x->G x)(h:DP F H t b):DP G H t b:=by obtain⟨l,a,c,d,f,g⟩:=h;exact⟨l,a,c,d,f,e _ g⟩
def DP.keeps{M F:Addr->Prop}{H H':Hp}{t:Addr}{b:AK}(k:Keeps M H H')(c:∀x,F x->¬M x)(h:DP F H t b):DP F H' t b:=by obtain⟨l,d,e,f,g,a⟩:=h;exact⟨l,d,k.tup e,k.at_ _ _ f (c _ a),g.keeps k,a⟩
abbrev Ru (m:Ao):Dt:=.tup [.int m.1,.str m.2.1,.int m.2.2]
def Io{K:Aj}(r:Ao)(t:Addr)(h:H t=some (.tup (Hg r))):Aq K H (.ref t) (Ru r):=.tup (Ar.of h) (.cons (.int _) (.cons (.str _) (.cons (.int _) .nil)))
def DP.dt{K:Aj}{t:Addr}(h:DP F H t b):Aq K H (.ref t) (DX.D b):=by obtain⟨l,e,a,c,d,f⟩:=h;exact .tup (Ar.of a) (.cons (.lst (Ae.of c) (d.dts Io)) (.cons (.int _) (.cons (.int _) .nil)))
def LF (H:Hp) (t:Addr) (r:Gn):Prop:=∃m,H t=some (.tup [.ref m,.str r.2.1.1,.int r.2.1.2,.int r.2.2])/\H m=some (.tup (Hg r.1))
def LF.same{t:Addr}(e:Ac H H')(h:LF H t r):LF H' t r:=by obtain⟨m,a,b⟩:=h;exact⟨m,e _ _ a,e _ _ b⟩
def LF.keeps{t:Addr}(k:Keeps M H H')(h:LF H t r):LF H' t r:=by obtain⟨m,a,b⟩:=h;exact⟨m,k.tup a,k.tup b⟩
structure Bv (K:Aj) (H:Hp) (nt A t:Addr) (W:Wd):Prop where
 net:∃(S T R:Addr)(us Gs Es ts qt:I')(qs:Z'),H nt=some (.tup [.ref S,.ref T,.ref R])/\FJ H S T R us Gs Es ts qt W.ss W.gs qs
 ans:Hy K H A W.as
 tab:∃(a o:Addr)(inn:V),Ar K H t [.ref a,inn,.ref o]/\Ig K H a W.sts
def Bv.same{K:Aj}{H H':Hp}{b A t:Addr}{W:Wd}(e:Ac H H')(h:Bv K H b A t W):Bv K H' b A t W:=by obtain⟨S,T,R,us,Gs,Es,ts,c,qs,d,f⟩:=h.net;obtain⟨a,o,k,g,vs,i,j⟩:=h.tab;exact⟨⟨S,T,R,us,Gs,Es,ts,c,qs,e _ _ d,f.same e⟩,h.ans.same e,⟨a,o,k,e.seqT g,vs,e.seq i,j.same e⟩⟩
def DP.mono'{G:Addr->Prop}{t:Addr}(e:∀x o,H x=some o->F x->G x)(h:DP F H t b):DP G H t b:=by obtain⟨l,c,d,a,f,g⟩:=h;exact⟨l,c,d,a,f,e _ _ a g⟩
theorem XH{H:Hp}:∀{ts:I'}{ps:A'},CB H ts ps->∃zs:List (Row EF EF),zs.map (·.1)=ts.map V.ref/\zs.map (·.2)=ps/\∀z∈zs,∃t,z.1=.ref t/\H t=some (.tup [.str z.2.1,.str z.2.2])
 |[],[],_=>⟨[],rfl,rfl,λz hz=>by cases hz⟩
 |[],_::_,h=>by have:=h.len;simp at this
 |_::_,[],h=>by have:=h.len;simp at this
 |a::ts,p::ps,h=>by obtain⟨zs,b,c,d⟩:=XH (ts:=ts) (ps:=ps) ⟨by simpa using h.len,λn t p f g=>h.at_ (n+1) t p (by simpa using f) (by simpa using g)⟩;refine⟨(V.ref a,p)::zs,by rw[D6,b];rfl,by rw[D6,c],λz hz=>?_⟩;rcases B1.mp hz with e|hz;rw[e];exact⟨a,rfl,h.at_ 0 a p rfl rfl⟩;exact d z hz
theorem XI{H:Hp}:∀{zs:List (Row EF EF)},(∀z∈zs,∃t,z.1=.ref t/\H t=some (.tup [.str z.2.1,.str z.2.2]))->∃ts:I',zs.map (·.1)=ts.map V.ref/\CB H ts (zs.map (·.2))
 |[],_=>⟨[],rfl,CB.nil⟩
 |z::zs,h=>by
   obtain⟨ts,d,c⟩:=XI (zs:=zs) λy f=>h y (BQ _ f);obtain⟨t,e,g⟩:=h z Bg;refine⟨t::ts,by rw[D6,d,e];rfl,by simp[c.len],λn u p a b=>?_⟩;cases n with|zero=>simp at a b;subst a;subst b;exact g|succ n=>exact c.at_ n u p (by simpa using a) (by simpa using b)
def Go.caseT{K:Aj}{t:Addr}{n:Int}{ord:A'}(h:Go K F H t rs n ord):∃(a o:Addr)(inn:V),Ar K H t [.ref a,inn,.ref o]/\Ig K H a rs:=by obtain⟨a,o,us,ts,b,_,_,_,c,d,_⟩:=h.ex;exact⟨a,o,_,Ar.of b,d.stts c⟩
def GX{x:Int}{l:F'}:Dt.int x∈l.map Dt.int↔x∈l:=⟨λh=>by
 obtain⟨y,a,z⟩:=AW.mp h;rw[<-Dt.int.inj z];exact a,λh=>AW.mpr ⟨x,h,rfl⟩⟩
theorem Ip{K:Aj}{H:Hp}:∀(l:F'),Ak K H (l.map V.int) (l.map Dt.int)
 |[]=>.nil
 |x::l=>.cons (.int x) (Ip l)
def UK(xs:List α)(x:α):Bm (xs++[x]) (-1)=some x:=by
 have e:Hs (xs++[x]).length (-1)=some xs.length:=(by unfold Hs;rw[Ah (by decide),Ag (by rw[A1,D8];lia),A1,D8];congr 1;lia);unfold Bm;rw[e];show(xs++[x])[xs.length]?=some x;simp
abbrev PP (sts:List Ew) (inn:Int) (ord:A'):Dt:=.tup [.lst (sts.map Ly),.int inn,.lst (ord.map Xh)]
def Kg(s r:Ew):DV 4 (Ly s) (Ly r):=by refine .tup (.cons (.lst (BB.of λd hd e a=>?_)) (.cons (.lst (BB.of λd hd e a=>?_)) (.nil _)));obtain⟨p,_,rfl⟩:=AW.mp hd;obtain⟨q,_,rfl⟩:=AW.mp a;exact MQ p q;obtain⟨p,_,rfl⟩:=AW.mp hd;obtain⟨q,_,rfl⟩:=AW.mp a;exact .str _ _
def d8(s r:List Ew)(m n:Int)(o u:A'):DV 6 (PP s m o) (PP r n u):=by refine .tup (.cons (.lst (BB.of λd hd e a=>?_)) (.cons (.int _ _) (.cons (.lst (BB.of λd hd e a=>?_)) (.nil _))));obtain⟨p,_,rfl⟩:=AW.mp hd;obtain⟨q,_,rfl⟩:=AW.mp a;exact Kg p q;obtain⟨p,_,rfl⟩:=AW.mp hd;obtain⟨q,_,rfl⟩:=AW.mp a;exact .tup (.cons (.str _ _) (.cons (.str _ _) (.nil _)))
def Go.dt{K:Aj}{t:Addr}{b:List Ew}{inn:Int}{ord:A'}(h:Go K F H t b inn ord):Aq K H (.ref t) (PP b inn ord):=by obtain⟨a,o,us,ts,c,_,_,_,d,e,f,TO⟩:=h.ex;exact .tup (Ar.of c) (.cons (.lst (Ae.of d) e.dts) (.cons (.int _) (.cons (.lst (Ae.of f) TO.dts) .nil)))
abbrev CD:Enc:=EH Oz
def EI (W:Wd) (sc:Int):List Dg:=match W.ss[sc.toNat]? with
 |some s=>s.2
 |none=>[]
def FW (W:Wd) (st:Int):J':=match W.sts[st.toNat]? with
 |some s=>s.2
 |none=>[]
def EJ (W:Wd) (b:AK) (x:Str) (q:Dg) (i:Nat):W':=if q.2.1=x/\q.1∈FW W b.2.2 then[b.1++[(b.2.1,o6,(i:Int))]] else[]
def Dx (W:Wd) (b:AK) (x:Str):List Dg->Nat->W'
 |[],_=>[]
 |q::r,i=>EJ W b x q i++Dx W b x r (i+1)
def DY (W:Wd) (x:Str) (bs:Y'):W':=bs.flatMap λb=>Dx W b x (EI W b.2.1) 0
theorem XJ(W:Wd)(b:AK)(x:Str)(q:Dg):∀(l:List Dg)(i:Nat),Dx W b x (l++[q]) i=Dx W b x l i++EJ W b x q (i+l.length)
 |[],i=>by simp[Dx]
 |p::l,i=>by show EJ W b x p i++Dx W b x (l++[q]) (i+1)=(EJ W b x p i++Dx W b x l (i+1))++_;rw[XJ W b x q l (i+1),Gu,D9,show i+1+l.length=i+(l.length+1) by lia]
theorem XM(W:Wd)(b:AK)(x:Str):∀(l:List Dg)(i:Nat),(Dx W b x l i).length<=l.length
 |[],i=>AF _
 |q::l,i=>by
   show(EJ W b x q i++Dx W b x l (i+1)).length<=_;have a:(EJ W b x q i).length<=1:=by unfold EJ;split<;>simp
   have c:=XM W b x l (i+1);rw[A1,D9];lia
set_option tactic.hygienic true in
theorem PQ{W:Wd}{b:AK}{x:Str}{w:X'}:∀{l:List Dg}{i:Nat},w∈Dx W b x l i->∃(j:Nat)(q:Dg),l[j]?=some q/\q.2.1=x/\q.1∈FW W b.2.2/\w=b.1++[(b.2.1,o6,((i+j:Nat):Int))]
 |[],i,h=>by cases h
 |q::l,i,h=>by
   rcases B0.mp (show w∈EJ W b x q i++Dx W b x l (i+1) from h) with h|h;unfold EJ at h;split at h;rename_i a;exact⟨0,q,rfl,a.1,a.2,AR.mp h⟩;cases h;obtain⟨j,c,d,e,f,g⟩:=PQ h;exact⟨j+1,c,by simpa using d,e,f,by rw[g,show i+1+j=i+(j+1) by lia]⟩
def UL{bs:Y'}{w:X'}(h:w∈DY W x bs):∃b∈bs,∃(j:Nat)(q:Dg),(EI W b.2.1)[j]?=some q/\q.2.1=x/\q.1∈FW W b.2.2/\w=b.1++[(b.2.1,o6,(j:Int))]:=by obtain⟨b,a,c⟩:=List.mem_flatMap.mp h;obtain⟨j,q,d,e,f,g⟩:=PQ c;exact⟨b,a,j,q,d,e,f,by rw[g,Nat.zero_add]⟩
theorem XN{α:Type}{f:AK->List α}{k:Nat}:∀(bs:Y'),(∀b,(f b).length<=k)->(bs.flatMap f).length<=bs.length*k
 |[],_=>by simp
 |b::bs,h=>by rw[List.flatMap_cons,A1,D9,Nat.succ_mul];have:=h b;have:=XN bs h;lia
structure OA (W:Wd) (x:Str) (bs:Y') (ws:W'):Prop where
 perm:ws.Perm (DY W x bs)
 srt:ws.Pairwise CD.O.kle
def OA.uniq{bs:Y'}{l m:W'}(h:OA W x bs l)(k:OA W x bs m):l=m:=Ov (O:=CD.O) (h.perm.trans k.perm.symm) h.srt k.srt
def CQ (F:Addr->Prop) (H:Hp) (l:Addr) (w:X'):Prop:=∃ms:I',H l=some (.lst (ms.map V.ref))/\RT Hg H ms w/\F l
def CQ.same{F:Addr->Prop}{H H':Hp}{t:Addr}{b:X'}(e:Ac H H')(h:CQ F H t b):CQ F H' t b:=by obtain⟨a,c,d,f⟩:=h;exact⟨a,e _ _ c,d.same e,f⟩
def CQ.mono'{G:Addr->Prop}{t:Addr}{b:X'}(e:∀x o,H x=some o->F x->G x)(h:CQ F H t b):CQ G H t b:=by obtain⟨c,a,d,f⟩:=h;exact⟨c,a,d,e _ _ a f⟩
def CQ.keeps{M F:Addr->Prop}{H H':Hp}{t:Addr}{b:X'}(k:Keeps M H H')(c:∀x,F x->¬M x)(h:CQ F H t b):CQ F H' t b:=by obtain⟨d,e,f,a⟩:=h;exact⟨d,k.at_ _ _ e (c _ a),f.keeps k,a⟩
def CQ.dt{K:Aj}{t:Addr}{b:X'}(h:CQ F H t b):Aq K H (.ref t) (CD.D b):=by obtain⟨d,a,c,_⟩:=h;exact .lst (Ae.of a) (c.dts Io)
def XO{c:Enc}{zs:List (Addr×c.O.α)}{d:List (DW c)}(a:d.Perm (zs.map λz=>((V.ref z.1,z.2):DW c))) :
 ∃ws:List (Addr×c.O.α),d.map (·.1)=(ws.map λz=>V.ref z.1)/\d.map (·.2)=ws.map (·.2)/\(ws.map (·.2)).Perm (zs.map (·.2))/\∀z∈ws,z∈zs:=by
 have:∀{l:List (DW c)},(∀y∈l,y∈zs.map λz=>((V.ref z.1,z.2):DW c))->∃ws:List (Addr×c.O.α),l=ws.map λz=>(V.ref z.1,z.2):=by
  intro l
  induction l with|nil=>exact λ_=>⟨[],rfl⟩|cons y l f=>intro h;obtain⟨ws,rfl⟩:=f λz g=>h z (BQ _ g);obtain⟨z,_,rfl⟩:=AW.mp (h y Bg);exact⟨z::ws,rfl⟩
 obtain⟨ws,rfl⟩:=this λy b=>a.mem_iff.mp b;refine⟨ws,by rw[DK];rfl,by rw[DK];rfl,?_,λz k=>?_⟩;have:=a.map (·.2);rw[DK,DK] at this;exact this;have:=a.mem_iff.mp (AW.mpr ⟨z,k,rfl⟩);obtain⟨y,b,e⟩:=AW.mp this;injection e with i j;have:y=z:=Prod.ext (V.ref.inj i) j;rw[<-this];exact b
abbrev Rv:Enc:=MW (EH Oz) Ga
abbrev Ow:Type:=List Ao×Int
abbrev Δ:=List Ow
def ow (b:AK) (r:Gn):Option Ow:=if r.2.1.1=n5 then some (b.1++[r.1],r.2.1.2) else none
def Gb (W:Wd) (bs:Y'):Δ:=bs.flatMap λb=>(EX W b.2.1 b.2.2).filterMap (ow b)
set_option tactic.hygienic true in
def UM{bs:Y'}{w:Ow}(h:w∈Gb W bs):∃b∈bs,∃(j:Nat)(p:Ci)(a:Int),(BN W b.2.1)[j]?=some p/\En (Cw W b.2.2) p.1=some a/\(Bu W.gs W.as p).1=n5/\w=(b.1++[(b.2.1,o1,(j:Int))],(Bu W.gs W.as p).2):=by obtain⟨b,c,d⟩:=List.mem_flatMap.mp h;obtain⟨r,f,e⟩:=List.mem_filterMap.mp d;obtain⟨j,p,a,g,i,rfl⟩:=LD f;unfold ow at e;split at e;rename_i k;exact⟨b,c,j,p,a,g,i,k,(Bt e).symm⟩;cases e
structure PR (W:Wd) (bs:Y') (ws:Δ):Prop where
 perm:ws.Perm (Gb W bs)
 srt:ws.Pairwise Rv.O.kle
def PR.uniq{bs:Y'}{l m:Δ}(h:PR W bs l)(k:PR W bs m):l=m:=Ov (O:=Rv.O) (h.perm.trans k.perm.symm) h.srt k.srt
def FX (F:Addr->Prop) (H:Hp) (t:Addr) (p:Ow):Prop:=∃(l:Addr)(ms:I'),H t=some (.tup [.ref l,.int p.2])/\H l=some (.lst (ms.map V.ref))/\RT Hg H ms p.1/\F l
def FX.same{F:Addr->Prop}{H H':Hp}{t:Addr}{b:Ow}(e:Ac H H')(h:FX F H t b):FX F H' t b:=by obtain⟨l,a,c,d,f,g⟩:=h;exact⟨l,a,e _ _ c,e _ _ d,f.same e,g⟩
def FX.mono'{G:Addr->Prop}{t:Addr}{b:Ow}(e:∀x o,H x=some o->F x->G x)(h:FX F H t b):FX G H t b:=by obtain⟨l,c,d,a,f,g⟩:=h;exact⟨l,c,d,a,f,e _ _ a g⟩
def FX.keeps{M F:Addr->Prop}{H H':Hp}{t:Addr}{b:Ow}(k:Keeps M H H')(c:∀x,F x->¬M x)(h:FX F H t b):FX F H' t b:=by obtain⟨l,d,e,f,g,a⟩:=h;exact⟨l,d,k.tup e,k.at_ _ _ f (c _ a),g.keeps k,a⟩
def FX.dt{K:Aj}{t:Addr}{b:Ow}(h:FX F H t b):Aq K H (.ref t) (Rv.D b):=by obtain⟨l,e,a,c,d,_⟩:=h;exact .tup (Ar.of a) (.cons (.lst (Ae.of c) (d.dts Io)) (.cons (.int _) .nil))
def d9{bs:Y'}(h:bs[i]?=some b):Gb W (bs.take (i+1))=Gb W (bs.take i)++(EX W b.2.1 b.2.2).filterMap (ow b):=by rw[E8,h];show(bs.take i++[b]).flatMap _=_;rw[List.flatMap_append];simp[Gb]
def MY{β:Type}(f:α->Option β)(l:List α)(x:α):(l++[x]).filterMap f=l.filterMap f++(f x).toList:=by rw[List.filterMap_append];cases e:f x<;>simp[e]
def Kh(h:r.2.1.1=n5):ow b r=some (b.1++[r.1],r.2.1.2):=Ag h
def UN(h:r.2.1.1≠n5):ow b r=none:=Ah h
structure Bd (W:Wd):Prop where
 tl:∀s∈W.ss,∀p∈s.2,Kb W.gs.length W.as.length p
 fnd:∀(x:Str)(sc st:Int)(bs:Y'),(0<=sc/\sc<W.ss.length)->(0<=st/\st<W.sts.length)->Dw W sc st bs->(DY W x bs).length<=62
 owd:∀(sc st:Int)(bs:Y'),(0<=sc/\sc<W.ss.length)->(0<=st/\st<W.sts.length)->Dw W sc st bs->(Gb W bs).length<=62
def FK (ss:List Bo) (m:Ao):Str:=match ss[m.1.toNat]? with
 |some s=>if m.2.1=o1 then(match s.1[m.2.2.toNat]? with
   |some p=>p.1
   |none=>default) else(match s.2[m.2.2.toNat]? with
   |some p=>p.1
   |none=>default)
 |none=>default
def EK (ss:List Bo) (m:Ao):Prop:=∃(n k:Nat)(s:Bo),m.1=(n:Int)/\m.2.2=(k:Int)/\ss[n]?=some s/\((m.2.1=o1/\k<s.1.length)\/(m.2.1=o6/\k<s.2.length))
def XQ{m:Ao}{k:Nat}{p:Ci}(a:m.1=(n:Int))(b:m.2.2=(k:Int))(c:ss[n]?=some s)(d:m.2.1=o1)(e:s.1[k]?=some p):FK ss m=p.1:=by unfold FK;rw[a,b,Bn,Bn,c];dsimp only;rw[Ag d,e]
def XR{m:Ao}{k:Nat}{p:Dg}(a:m.1=(n:Int))(b:m.2.2=(k:Int))(c:ss[n]?=some s)(d:m.2.1≠o1)(e:s.2[k]?=some p):FK ss m=p.1:=by unfold FK;rw[a,b,Bn,Bn,c];dsimp only;rw[Ah d,e]
def UO:o6≠o1:=by decide +kernel
open Classical in
noncomputable def BH (ss:List Bo) (ord:A'):X'->X'->Bool
 |m::ms,q::qs=>if m=q then BH ss ord ms qs else dec ((FK ss m,FK ss q)∈ord)
 |_,_=>false
def LG(ss:List Bo)(ord:A')(m:Ao)(a qs:X'):BH ss ord (m::a) (m::qs)=BH ss ord a qs:=by rw[BH];exact Ag rfl
def Jr(ss:List Bo)(ord:A'){m q:Ao}(a qs:X')(h:m≠q):BH ss ord (m::a) (q::qs)=dec ((FK ss m,FK ss q)∈ord):=by rw[BH];exact Ah h
theorem Js(ss:List Bo)(ord:A'):∀{l m:X'},l=[]\/m=[]->BH ss ord l m=false
 |[],_,_=>by rw[BH];intros;simp at *
 |_::_,[],_=>by rw[BH];intros;simp at *
 |_::_,_::_,h=>by simp at h
def XS(ok:BS W)(u:0<=sc/\sc<W.ss.length)(v:0<=st/\st<W.sts.length)(h:AN W sc st b):∀m∈b.1,EK W.ss m:=by
 induction h with
 |root=>intro m c;cases c
 |@kid d x i k l=>
  obtain⟨r,o,_,_,rfl⟩:=AL.mp k;intro m c;rcases B0.mp c with c|c;exact l m c;rw[AR.mp c];have q:=i.ok ok u v;have s:=q.rng d.2.1 (by unfold A5;simp);obtain⟨j,p,a,e,_,rfl⟩:=LD o;obtain⟨n,f⟩:=Ea s.1;have w:n<W.ss.length:=(by lia);have g:=AD w;have t:BN W d.2.1=W.ss[n].1:=by unfold BN;rw[f,Bn,g]
  rw[t] at e;exact⟨n,j,_,f,rfl,g,.inl ⟨rfl,(AV.mp e).1⟩⟩
def Rx(ok:BS W)(h:0<=sc/\sc<W.ss.length)(i:0<=st/\st<W.sts.length){bs:Y'}(k:Dw W sc st bs){w:X'}(l:w∈DY W x bs):(∀m∈w,EK W.ss m)/\w.length<=100:=by
 obtain⟨b,o,j,q,d,_,_,rfl⟩:=UL l;have e:=(k.mem b).mp o;have c:=e.ok ok h i;have p:=c.rng b.2.1 (by unfold A5;simp);refine⟨λm a=>?_,?_⟩;rcases B0.mp a with a|a;exact XS ok h i e m a;rw[AR.mp a];obtain⟨n,f⟩:=Ea p.1;have s:n<W.ss.length:=(by lia);have g:=AD s;have r:EI W b.2.1=W.ss[n].2:=by unfold EI;rw[f,Bn,g]
 rw[r] at d;exact⟨n,j,_,f,rfl,g,.inr ⟨rfl,(AV.mp d).1⟩⟩;have:=Kf W.ss.length (A5 b) c.nd c.rng;rw[show(A5 b).length=b.1.length+1 by unfold A5;simp] at this;have:=ok.s5;rw[A1,D8];lia
def XT(ok:BS W)(i:0<=sc/\sc<W.ss.length)(k:0<=st/\st<W.sts.length){bs:Y'}(l:Dw W sc st bs){w:Ow}(o:w∈Gb W bs):(∀m∈w.1,EK W.ss m)/\w.1.length<=100:=by
 obtain⟨b,q,j,p,a,e,_,_,rfl⟩:=UM o;have f:=(l.mem b).mp q;have d:=f.ok ok i k;have r:=d.rng b.2.1 (by unfold A5;simp);refine⟨λm c=>?_,?_⟩;rcases B0.mp c with c|c;exact XS ok i k f m c;rw[AR.mp c];obtain⟨n,g⟩:=Ea r.1;have t:n<W.ss.length:=(by lia);have h:=AD t;have s:BN W b.2.1=W.ss[n].1:=by unfold BN;rw[g,Bn,h]
 rw[s] at e;exact⟨n,j,_,g,rfl,h,.inl ⟨rfl,(AV.mp e).1⟩⟩;have:=Kf W.ss.length (A5 b) d.nd d.rng;rw[show(A5 b).length=b.1.length+1 by unfold A5;simp] at this;have:=ok.s5;show(b.1++[(b.2.1,o1,(j:Int))]).length<=100;rw[A1,D8];lia
def eA(h:n<=40000):n<sizeLine:=Nat.lt_of_le_of_lt h (by decide)
def Ki (ss:List Bo) (w:X'):Prop:=(∀m∈w,EK ss m)/\w.length<=100
end L2
namespace PySem
section
variable {prog:Program} {w:World} {K:Type} [DecidableEq K] {knd:HeapKind prog w K} {A:Around} {E:D'} {s:Shared}
def eF{d a:Addr}{xs:List (K×Addr×Value)}{k:K}{v:Value}{Q:D'}(l:knd.room A)(i:knd.is s.heap k a)(r:s.heap.DictOfH knd d xs)
 (t:∀p,atKey xs k=some p->Q p.2 {s with toks:=s.toks+knd.draws k})
 (u:atKey xs k=none->∀h',h'.DictOfH knd d (storedH xs k a v)->Heap.SameBut d s.heap h'->Q v {s with heap:=h',toks:=s.toks+knd.draws k})
 (hsz:xs.length<=sizeLine:=by size_fits) :
 wpAny (model prog w) A (dictSetDefault d (.ref a) v) Q E s:=by
 obtain⟨o,D,z,c,B,hd,g,q,h⟩:=r;unfold dictSetDefault
 try with_reducible refine FD ?_
 refine Ad (knd.pyHash l i ?_);refine Ad (wpAny_dictFind_heap (s:={s with toks:=s.toks+knd.draws k}) l i c hd g q h ?_ ?_);intro f;have C:k∉xs.map (·.1):=not_mem_keys_of_get f
 refine Ad (HH (Ad (wpAny_updateDictKeys (hz:=by have e:=size_of_entries g;lia) (s:={s with toks:=s.toks+knd.draws k}) c hd (Ax (u (atKey_none_of_get f) _ ⟨_,_,z+1,t5 _ c (Obj.isFreed_of_dict (Obj.data_mapDictKeys hd _)),
  B.mapDictKeys _,Obj.data_mapDictKeys hd _,?_,?_,?_⟩ (t6 ..))))))
 rw[storedH_new (atKey_none_of_get f)];simp[g,entryOfKey];rw[storedH_new (atKey_none_of_get f)];intro x b;rcases B0.mp b with b|b;exact knd.keeps (q x b) c hd (t6 ..);simp only[AR] at b;subst b;exact knd.keeps i c hd (t6 ..);rw[storedH_new (atKey_none_of_get f)];rw[Ba,List.nodup_append];refine⟨h,by simp,?_⟩;intro x b y m;simp only[D6,NY,AR] at m;subst m;exact λe=>C (e▸b);intro j p n;refine Ad (wpAny_dictEntries (s:={s with toks:=s.toks+knd.draws k}) c hd ?_);rw[entry_at g j,n];exact Ad (HH (Ax (t p (atKey_of_get h n))))
def eH(d a:Addr)(hd:(d==sysModules)=false)(b:Value) :
 MeetsIn prog w (Builtin.«dict.setdefault» ⟨[.ref d,.ref a,b],[]⟩) (λA R s=>knd.room A.in1/\∃k xs,knd.is s.heap k a/\s.heap.DictOfH knd d xs/\xs.length<=sizeLine /\
  (∀p,atKey xs k=some p->R (.ok (.ret p.2)) {s with toks:=s.toks+knd.draws k}) /\
  (atKey xs k=none->∀h',h'.DictOfH knd d (storedH xs k a b)->Heap.SameBut d s.heap h'->R (.ok (.ret b)) {s with heap:=h',toks:=s.toks+knd.draws k})):=
 .of_wp λA R s l=>by obtain⟨e,k,xs,o,c,f,g,h⟩:=l;unfold Builtin.«dict.setdefault»;refine Ad ?_;unfold Builtin.Dict.keyAndDefault;refine Ad (wpAny_notOrdered_dict c.typeIs ?_);show wpAny _ _ (pure (d,Value.ref a,some b)) _ _ s;refine Ax ?_;show wpAny _ _ (if(d==sysModules)=true then _ else(dictSetDefault d (.ref a) b >>= _)) _ _ s;rw[Ah (by rw[hd];exact CA)];exact Ad (eF (hsz:=f) e o c (λp i=>Ax ⟨p.2,rfl,g p i⟩) λj h' m n=>Ax ⟨b,rfl,h j h' m n⟩)
end
section
variable {prog:Program} {w:World} {A:Around} {E:D'} {s:Shared}
variable {d:Addr}{es:Array DictEntry}{ep:Nat}
theorem eI{o:Obj}{Q:D'}(hd:(d==sysModules)=false)(a:s.heap.get? d=some o)(e:o.ExactDict)(c:o.data=.dict es ep)
 (f:Q (.ref s.heap.objs.size) {s with heap:=s.heap.push {cls:=.type "dict_keyiterator",data:=.fields #[.ref d,.int 0 0,.int es.size 0,.int ep 0]}}) :
 wpAny (model prog w) A (pyIter (.ref d)) Q E s:=by
 have b:s.TypeIs (.ref d) "dict" :=⟨o,a,e.1⟩;refine wpAny_pyIter_slot b F.slot_dict_iter (wpAny_call_entry F.slot_dict_iter b F.entry_dict_iter ?_ (F.args_dict_iter_1 _));unfold Builtin.«dict.__iter__»;refine Ad ?_;unfold Builtin.Dict.dictSlotNone;refine Ad (wpAny_notOrdered_dict b ?_);show wpAny _ _ (pure (Value.ref d)) _ _ s;refine Ax ?_;show wpAny _ _ (Builtin.Dict.showsAll d >>= _) _ _ s;unfold Builtin.Dict.showsAll;rw[Ah (by rw[hd];exact CA)];refine Ad (Ax ?_);refine Ad (wpAny_dictEntries a c ?_);refine Ad (wpAny_dictEpoch a c ?_);refine Ad (wpAny_newObj_type (Ax ⟨_,rfl, "dict_keyiterator",_,⟨_,B9 _ rfl,rfl⟩,F.slot_dict_keyiterator_next.lookup,?_⟩));simpa [rawInt] using f
theorem eJ{it:Addr}{i:Nat}{b:Obj}{Q:L'->Shared->Prop}(hit:s.heap.IsKeyIter it d i es.size ep)
 (c:s.heap.get? d=some b) (e:b.data=.dict es ep) (j:i<es.size)
 (g:∀h',h'.IsKeyIter it d (i+1) es.size ep->Heap.SameBut it s.heap h'->Q (some es[i].key) {s with heap:=h'}) :
 wpAny (model prog w) A (pyNext (.ref it)) Q E s:=by
 obtain⟨o,a,h,hd⟩:=id hit;unfold pyNext
 refine Ad (wpAny_attempt (wpAny_callSpecial?_slot (name:=Str.ofString "__next__") hit.typeIs F.slot_dict_keyiterator_next
  (wpAny_call_entry F.slot_dict_keyiterator_next hit.typeIs F.entry_dict_keyiterator_next ?_ (F.args_dict_keyiterator_next_1 _))))
 refine Ad (Ax ?_);refine Ad ?_;refine Ad ?_
 first|refine Ad (wpAny_typeNameOfWhole_keyiter hit.typeIs (Ax ?_))|refine Ad (wpAny_typeNameOf_keyiter hit.typeIs (Ax ?_))
 refine Ad (wpAny_fieldsOf a hd ?_);have k:Builtin.Dict_items.ownsTuple "dict_keyiterator" = false:=(by decide);simp only[k,FC,if_false];show wpAny _ _ (if(Value.ref d==Value.none)=true then _ else _) _ _ s;rw[Ah (show ¬((Value.ref d==Value.none)=true) from CA)];refine Ad (Ax ?_);refine Ad (wpAny_dictEntries c e ?_);rw[Ah (by simp)];refine Ad (Ax ?_);refine Ad (wpAny_dictEpoch c e ?_);rw[Ah (by simp)];refine Ax ?_;simp only[show ¬((i:Int)<0) from by lia,if_false,Bn,Array.getElem?_eq_getElem j];refine Ad ?_
 first|refine Ad (wpAny_typeNameOfWhole_keyiter hit.typeIs (Ax ?_))|refine Ad (wpAny_typeNameOf_keyiter hit.typeIs (Ax ?_))
 refine Ad (wpAny_isOneOf_keyiter hit.typeIs ?_);show wpAny _ _ (setField (.ref it) 1 (rawInt ((i:Int)+1)) >>= _) _ _ s;refine Ad (wpAny_setField a hd (by simp) ?_)
 have f:(s.heap.update it (Obj.mapFields (·.setIfInBounds 1 (rawInt ((i:Int)+1))))).IsKeyIter it d (i+1) es.size ep:=
  ⟨_,t5 _ a (Obj.isFreed_of_fields (Obj.data_mapFields hd _)),(Obj.cls_mapFields ..).trans h,by rw[Obj.data_mapFields hd];simp[rawInt]⟩
 refine Ad (FD ?_);refine Ad (wpAny_isOneOf_keyiter (s:={s with heap:=s.heap.update it (Obj.mapFields (·.setIfInBounds 1 (rawInt ((i:Int)+1))))}) f.typeIs ?_);show wpAny _ _ (pure es[i].key) _ _ _;exact Ax (Ax ⟨_,rfl,Ax (g _ f (t6 ..))⟩)
theorem eQ{it:Addr}{i:Nat}{c:Obj}{Q:L'->Shared->Prop}(h:A.handled=none)(hit:s.heap.IsKeyIter it d i es.size ep)
 (f:s.heap.get? d=some c) (g:c.data=.dict es ep) (k:es.size<=i)
 (j:∀h',Heap.ExtBut it s.heap h'->Q none {s with heap:=h'}):wpAny (model prog w) A (pyNext (.ref it)) Q E s:=by
 obtain⟨o,e,n,hd⟩:=id hit;unfold pyNext
 refine Ad (wpAny_attempt (wpAny_callSpecial?_slot (name:=Str.ofString "__next__") hit.typeIs F.slot_dict_keyiterator_next
  (wpAny_call_entry F.slot_dict_keyiterator_next hit.typeIs F.entry_dict_keyiterator_next ?_ (F.args_dict_keyiterator_next_1 _))))
 refine Ad (Ax ?_);refine Ad ?_;refine Ad ?_
 first|refine Ad (wpAny_typeNameOfWhole_keyiter hit.typeIs (Ax ?_))|refine Ad (wpAny_typeNameOf_keyiter hit.typeIs (Ax ?_))
 refine Ad (wpAny_fieldsOf e hd ?_);have l:Builtin.Dict_items.ownsTuple "dict_keyiterator" = false:=(by decide);simp only[l,FC,if_false];show wpAny _ _ (if(Value.ref d==Value.none)=true then _ else _) _ _ s;rw[Ah (show ¬((Value.ref d==Value.none)=true) from CA)];refine Ad (Ax ?_);refine Ad (wpAny_dictEntries f g ?_);rw[Ah (by simp)];refine Ad (Ax ?_);refine Ad (wpAny_dictEpoch f g ?_);rw[Ah (by simp)];refine Ax ?_;simp only[show ¬((i:Int)<0) from by lia,if_false,Bn,Array.getElem?_eq_none k];refine Ad ?_
 first|refine Ad (wpAny_typeNameOfWhole_keyiter hit.typeIs (Ax ?_))|refine Ad (wpAny_typeNameOf_keyiter hit.typeIs (Ax ?_))
 show wpAny _ _ (setField (.ref it) 0 .none >>= _) _ _ s;refine Ad (wpAny_setField e hd (by simp) ?_);show wpAny _ _ (newExc (.type "StopIteration") [] >>= _) _ _ _;refine Ad ?_;simp only[newExc,newTuple];refine Ad (wpAny_newObj_type ?_ (by size_fits));refine Ad (m:=firstArgMember _ _) (wpAny_of_eq (a:=Value.none) (by first|rfl|(simp only[firstArgMember];rfl)) ?_);refine wpAny_newObj_type ?_ (by size_fits);simp only[raiseNew];refine Ad (wpAny_handled ?_);rw[show A.in1.handled=none from h];refine Ad (Ax (wpAny_throw ?_));refine Ad (wpAny_isInstance (T:= "StopIteration") (b:=true) ⟨_,B9 _ rfl,rfl⟩ isSubtype_stop ?_);exact Ax (j _ (((t6 ..).extBut.push _).push _))
end
end PySem
namespace L2
open PySem PySem.Spec PyProof.Rows
section
variable {X:Cx}
def PU:V->U'->Hp->VK->Prop:=λx vs H Q=>∃a kvs k b d,x=.ref a/\vs=[.ref b,d]/\H a=some (.dT kvs)/\H b=some (.tup (k.map kV))/\kvs.length<sizeLine/\(∀v,AG kvs k=some v->Q v H)/\(AG kvs k=none->Q d (upd H a (.dT (AM kvs k d))))
def eV(A:X.A.units+1<cLine):Og X "dict.setdefault" PU:=by
 intro Z s σ H x T v U Q I B C h;obtain⟨a,g,k,b,d,rfl,rfl,hd,l,V,D,E⟩:=h;cases B;obtain⟨u,r,rfl,F,m⟩:=Lq C;cases(show u=Value.ref b from F);obtain⟨z,n,o,j,p⟩:=HY I.hok hd;have i:o.length<=sizeLine:=by rw[<-Paired.length j];exact z
 have f:=j.val k
 refine call_meetsIn PySem.F.slot_dict_setdefault p.typeIs PySem.F.entry_dict_setdefault (PySem.F.args_dict_setdefault_3 _ _ _) (eH (knd:=tupleKind (EC X.prog X.w)) a b n r)
  ⟨tupleKind_room_in1 A,k,o,ME I.hok l,p,i,λy G=>?_,λJ W S K=>?_⟩
 rw[G] at f
 cases e:AG g k with
 |none=>rw[e] at f;exact False.elim f
 |some v0=>rw[e] at f;exact⟨v0,H,I.tok _,f,D v0 e⟩
 rw[J] at f
 cases e:AG g k with
 |some v0=>rw[e] at f;exact False.elim f
 |none=>
  have i:(AM g k d).length<=sizeLine:=by have:=Ol g k d;lia
  obtain⟨q,L,M,t,N,O,P,_,R⟩:=S;refine⟨d,_,Op (ob:=.dT (AM g k d)) I (by rw[hd];exact True.intro) K ⟨q,t⟩ ⟨i,n,_,(j.put k l m).keeps λc Y w=>?_,q,L,M,t,N,O,P,R⟩,m,E e⟩;rw[AC (N8 w hd (λz=>nomatch z))];exact w
def Ry (H Y H2:Hp):Prop:=∀b,H2 b=Y b\/H b=none/\∃kvs o,Y b=some (.dT kvs)/\H2 b=some (.frz o (.dT kvs))
def Inv.frz{pins:B'}{s:Shared}{σ:St}{H d:Hp}(I:Inv X pins σ H s)(h:∀b,d b=H b\/∃a o,s.heap.get? b=some o/\H b=some (.dT a)/\d b=some (.frz o (.dT a))):Inv X pins σ d s:=by
 have same:∀b u,H b=some u->(∀a,u≠.dT a)->d b=some u:=λb u e n=>by
  rcases h b with z|⟨a,o,_,z,_⟩;rw[z];exact e;rw[e] at z;cases z;exact absurd rfl (n a)
 refine I.step (g':=s.gens) (t':=s.toks) (d':=s.drawn) (h':=s.heap) (ch:=[]) (λb i=>nomatch i) (λb o _ _ _ z _=>z) (λb o _ _ _ z _=>⟨o.slots,z⟩) (λb o _ _ n=>?_) (λb o _ z=>⟨o,z⟩)
  (λb j z=>same b _ z λ_ q=>nomatch q) (λb o u z=>same b _ z λ_ q=>nomatch q) (λb p z=>⟨#[],by rw[same b _ z λ_ q=>nomatch q];simp⟩) (λm k=>k) (λb u z=>?_) I.bare
 rcases h b with z|⟨a,o,_,z,_⟩;rw[z];exact n;rw[n] at z;cases z;have f:∀{v:HO},H b=some v->AB X.prog X.w d s.heap b v:=λ{v}e=>(I.hok b v e).stay (λ_ _ _ q=>q) (λc q=>same c _ q λ_ q=>nomatch q) λc j q=>same c _ q λ_ q=>nomatch q;rcases h b with y|⟨a,o,g,y,l⟩;rw[y] at z;exact f z;rw[l] at z;cases z;exact⟨g,f y⟩
def UP (t:TE):TE:=λσ H Q=>t σ H λv Y=>∀H2,Ry H Y H2->(∀b kvs,H b=none->Y b=some (.dT kvs)->∃o,H2 b=some (.frz o (.dT kvs)))->Q v H2
set_option tactic.hygienic true in
def Iq{e:Expr}{t:TE}(n:PE X e t):PE X e (UP t):=by
 intro v s σ H Q I h;refine AX (n v s σ H _ I h) λu j⟨x,Y,l,p,q⟩=>?_
 classical
 let d:Hp:=λb=>if H b=none then(match Y b,j.heap.get? b with
  |some (.dT a),some o=>some (.frz o (.dT a))
  |z,_=>z) else Y b
 have k:∀b,d b=Y b\/H b=none /\ ∃a o,j.heap.get? b=some o/\Y b=some (.dT a)/\d b=some (.frz o (.dT a)):=λb=>by
  by_cases c:H b=none
  have e:d b=(match Y b,j.heap.get? b with
   |some (.dT a),some o=>some (.frz o (.dT a))
   |z,_=>z):=Ag c
  by_cases hd:∃a o,Y b=some (.dT a)/\j.heap.get? b=some o;obtain⟨a,o,f,i⟩:=hd;rw[f,i] at e;exact .inr ⟨c,a,o,i,f,e⟩;refine .inl ?_;rw[e];split;rename_i a o f i;exact absurd ⟨a,o,f,i⟩ hd;rfl;exact .inl (Ah c)
 refine⟨x,d,l.frz λb=>(k b).imp id λ⟨_,z⟩=>z,p,q d (λb=>(k b).imp id λ⟨c,a,o,_,f,i⟩=>⟨c,a,o,f,i⟩) λb a c z=>?_⟩;rcases k b with y|⟨_,w,o,_,m,r⟩;exfalso;obtain⟨_,_,_,_,o,A,B,g,_⟩:=(show AB X.prog X.w Y j.heap b (.dT a) from l.hok b _ z);have e:d b=some (.frz o (.dT a)):=(by show(if H b=none then _ else _)=_;rw[Ag c,z,g]);rw[e,z] at y;cases y;rw[z] at m;cases m;exact⟨o,r⟩
def UQ (a:Addr) (o:Obj) (kvs:List (List AJ×V)):It:=
 ⟨λi H=>H a=some (.frz o (.dT kvs))/\i<kvs.length,λi H x H'=>H'=H/\∃k v b,kvs[i]?=some (k,v)/\x=.ref b/\H b=some (.tup (k.map kV)),λi H=>H a=some (.frz o (.dT kvs))/\kvs.length<=i⟩
def MZ{α β:Type}{F:α->β->Prop}{l:List α}{m:List β}(h:Paired F l m):∀{i:Nat}(a:i<l.length),∃y,m[i]?=some y/\F l[i] y:=by
 induction h with
 |nil=>intro i a;exact absurd a (Nat.not_lt_zero _)
 |cons r t b=>
  intro i a;cases i with|zero=>exact⟨_,rfl,r⟩|succ i=>exact b (i:=i) (by simpa using a)
def eW{P:Program}{w:World}{K:Aj}{S:Expr}{a it:Addr}{o:Obj}{n:List (List AJ×V)}{es:Array DictEntry}{ep:Nat}(hd:o.data=.dict es ep) :
 F4 P w K S (UQ a o n) [it] it (λi h=>h.IsKeyIter it a i es.size ep) where
 mem:=by simp
 obj:=λi h f b j=>by have e:b=it:=(by simpa using j);subst e;obtain⟨o,e,c,d⟩:=f;exact⟨o,e,λah z=>by rw[d] at z;cases z⟩
 keep:=λi h p f k=>f.at λo e=>k it (by simp) o e
 item:=by intro X t u v N i R s σ H E I r f x;subst t u v;obtain⟨A,B⟩:=x;obtain⟨l,z,y,T,M,U,ab,ae,g,W,m,C,Y⟩:=(show AB X.prog X.w H s.heap a (.frz o (.dT n)) from I.hok a _ A);rw[l] at g;cases g;rw[hd] at m;cases m;obtain⟨q,Z,e1,e2,e3⟩:=MZ M B;have O:=entry_at (knd:=tupleKind (EC X.prog X.w)) C i;rw[Z] at O;obtain⟨af,ag⟩:=Array.getElem?_eq_some_iff.mp O;obtain⟨D,F,aa,G,J,L⟩:=r it (by simp);refine eJ f l hd af λp Q sb=>?_;have I1:Inv X R σ H {s with heap:=p}:=I.turned (t':=s.toks) (λb o j e=>(sb.2 b j).trans e) D F G J L;obtain⟨oi,e,c,d⟩:=id Q;refine⟨_,rfl,Re (s:={s with heap:=p}) e c d (by decide) ⟨.ref q.2.1,H,I1,?_,⟨rfl,n[i].1,n[i].2,q.2.1,by simp[B],rfl,e2⟩,Q,λb j=>(r b j).1⟩⟩;rw[ag];rfl
 done:=by intro X t u v N i R s σ H E I r f x;subst t u v;obtain⟨A,B⟩:=x;obtain⟨l,z,y,T,M,U,ab,ae,g,W,m,C,Y⟩:=(show AB X.prog X.w H s.heap a (.frz o (.dT n)) from I.hok a _ A);rw[l] at g;cases g;rw[hd] at m;cases m;have ai:=size_of_entries C;have hl:=Paired.length M;obtain⟨D,F,aa,G,J,L⟩:=r it (by simp);exact eQ (I.ok.hd N) f l hd (by lia) λp eb=>⟨rfl,I.turned (t':=s.toks) (λb o j e=>eb b o j e) D F G J L⟩
 self:=λ_ _ _ _ _ f h=>wpAny_pyIter_keyiter f h
def PV (tl:TE):TI:=λσ H R=>tl σ H λx Y=>∃a kvs,x=.ref a/\Rd Y a (.dT kvs)/\∀o,(Y a=some (.dT kvs)\/Y a=some (.frz o (.dT kvs)))->R (UQ a o kvs) (upd Y a (.frz o (.dT kvs)))
def Kj{r l:Expr}{k:TE}(t:PE X l k):PI X r l (PV k):=by
 intro p s σ H R I h;refine AX (t p s σ H _ I h) λv c⟨x,Y,i,u,w⟩=>?_;obtain⟨a,d,e,m,q⟩:=w;subst e;cases u;obtain⟨_,y,C,_,o,D,E,g,A,n,_⟩:=(show AB X.prog X.w Y c.heap a (.dT d) from HW i.hok m)
 have f:Y a=some (.dT d)\/Y a=some (.frz o (.dT d)):=by
  rcases m with z|⟨B,z⟩;exact .inl z;have:=(show AB X.prog X.w Y c.heap a (.frz B (.dT d)) from i.hok a _ z).1;rw[g] at this;cases this;exact .inr z
 have j:Inv X p σ (upd Y a (.frz o (.dT d))) c:=i.frz λb=>by
  by_cases e:b=a;subst e;rcases f with z|z;exact .inr ⟨d,o,g,z,Aa⟩;exact .inl (Aa.trans z.symm);exact .inl (AC e)
 refine eI y g A n ?_;refine⟨c.heap.objs.size,[c.heap.objs.size],_,_,_,rfl,j.kept (t':=c.toks) λb o e=>Bb _ e,eW n,⟨_,B9 _ rfl,rfl,rfl⟩,λb f=>?_,q o f⟩;have e:b=c.heap.objs.size:=(by simpa using f);subst e;exact j.fpOk (AF _) (j.hok.fresh (AF _))
def eX{a:Addr}{o:Obj}{c:List (List AJ×V)}{g:TG}{tb:TS}{D:Ends}{σ:St}{H:Hp}(Pv:Nat->St->Hp->Prop)(f:Pv 0 σ H)(e:∀i σ H,i<=c.length->Pv i σ H->H a=some (.frz o (.dT c)))
 (h:∀i k v b σ H,c[i]?=some (k,v)->H b=some (.tup (k.map kV))->Pv i σ H->g (.ref b) σ H λσ2 j=>tb {D with nx:=Pv (i+1),ct:=Pv (i+1),bk:=D.nx} σ2 j) (hd:∀σ H,Pv c.length σ H->D.nx σ H):FF (UQ a o c) g tb D σ H:=Oc c.length Pv f (λi σ H p d=>⟨e i σ H (Cf d) p,d⟩) (λσ H p=>⟨e _ σ H (AF _) p,AF _⟩) (λi x σ H n p d y=>by obtain⟨rfl,k,v,b,l,rfl,m⟩:=y;exact h i k v b σ _ l m p) hd
end
end L2
namespace PySem
section
variable {prog:Program} {w:World} {A:Around} {E:D'} {s:Shared}
theorem XU{a:Addr}{o:Obj}{xs:O'}{k:Nat}{Q:L'->Shared->Prop}
 (f:s.heap.get? a=some o) (i:o.cls=.type "list") (n:o.data=.seq xs k) (hd:o.dict=none) (p:A.handled=none)
 (h:∀h' tk,(∀b o,s.heap.get? b=some o->h'.get? b=some o)->Q none {s with heap:=h',toks:=tk}):wpAny (model prog w) A (getAttr? (.ref a) "keys") Q E s:=by
 obtain⟨c,dct,G,q⟩:=o;simp only at i n hd;subst i n hd;obtain⟨r,g,d,tk,t⟩:=s;have j:∀l,(⟨r,g,d,l,t⟩:Shared).TypeIs (.ref a) "list" :=λ_=>⟨_,f,rfl⟩;have v:=sub_AttributeError;have x:=F.slot_list_getattribute.lookup;have y:=F.slot_list_getattribute.bind (.ref a);have z:=am_list_getattr_none;have u:typeLookup (.type "list") "keys" = pure none:=by rw[typeLookup_type,builtinLookup_eq_fast];kernel_rfl
 unfold getAttr? getAttrBy? getAttrBy
 repeat (any_goals (first|assumption|exact j _|((with_reducible show wpAny _ _ (call (Value.builtin "list.__getattribute__") _ _) _ _ _);refine call_meets F.slot_list_getattribute (j _) am_entry_list_getattribute (F.args_list_getattribute_2 _ _) (meets_getattribute_miss_list a xs k q "keys" _ u (by decide) (by size_fits)) ⟨f,p,λh' l e m=>?_⟩)|wp_step))
 obtain⟨B,C,D⟩:=m.there;show wpAny _ _ (getattributeRaised _ _ _ _ _ _ _) _ _ _;unfold getattributeRaised
 repeat (any_goals (first|assumption|wp_step))
 exact h _ _ m.keeps
namespace F
def args_minD(a v:Value):argsOk "min" ⟨[a],[(Str.ofString "default",v)]⟩:=by unfold argsOk;kernel_rfl
def entry_upd_loop:entryFor table "dict.update.loop" = some Builtin.«dict.update.loop»:=entryFor_of_tree (by kernel_rfl)
def plain_upd_loop:plainId "dict.update.loop" = true:=by decide +kernel
end F
variable {R:Result->Shared->Prop} {I:Addr} {fp u:I'} {n:Nat} {P:Nat->Value->Prop} {St:Nat->Heap->Prop}
def Rz:(toString "min" ++ toString ".loop" : String) = "min.loop" :=by decide
theorem UR(W:Walks prog w A.in1 I fp u n P St)(bt:Nat->Nat->Bool)(D:CmpOf prog w A.in1 .Lt P bt)(S:Addr)(l:S∉fp)(q:List (Str×Value)) :
 ∀(k j:Nat)(s:Shared)(a:Value)(c:Nat),n=j+1+k->St (j+1) s.heap->P (argBest bt j) a->s.heap.get? S=some {cls:=.type "list",data:=.seq #[a,a] c} ->
 (∀v h' tk,P (argBest bt (n-1)) v->(∀b o,b∉u->b≠S->s.heap.get? b=some o->h'.get? b=some o)->R (.ok (.ret v)) {s with heap:=h',toks:=tk}) ->
 codeAny (model prog w) A (.builtin "min.loop" ⟨[.ref I,.none,.ref S],q⟩) R s
 |0,j,s,a,c,E,x,p,i,m=>by subst E;refine codeAny_builtin F.entry_min_loop ?_;rw[t8 F.plain_min_loop _];show wpAny _ A.in1 (seqItems? (.ref S) >>= _) _ _ s;refine Ad (Gy i rfl ?_);show wpAny _ A.in1 (tryCatch (pyNext (.ref I)) _ >>= _) _ _ s;refine Ad (wpAny_tryCatch (W.done s _ _ x λh' tk f=>?_));show wpAny _ A.in1 (updateSeq S (λ_=>#[]) >>= _) _ _ _;refine Ad (wpAny_updateSeq (f S _ (λh=>l (W.sub _ h)) i) rfl (Ad (wpAny_letGo (Ax (m a _ tk p λb o d g e=>?_)))));exact(Heap.get?_update_other _ _ (Ne.symm g)).trans (f b o d e)
 | k + 1,j,s,a,c,E,x,p,i,m=>by
   refine codeAny_builtin F.entry_min_loop ?_;rw[t8 F.plain_min_loop _];show wpAny _ A.in1 (seqItems? (.ref S) >>= _) _ _ s;refine Ad (Gy i rfl ?_);show wpAny _ A.in1 (tryCatch (pyNext (.ref I)) _ >>= _) _ _ s;refine Ad (wpAny_tryCatch (W.item (j+1) s _ _ (by lia) x λv h' tk G J f=>?_));have y:=f S _ (λh=>l (W.sub _ h)) i;show wpAny _ A.in1 (tryCatch (holding [v,v] (richCompare .Lt v a >>= _)) _ >>= _) _ _ _;refine Ad (wpAny_tryCatch (FD (Ad (D (j+1) (argBest bt j) v a _ _ _ G p (Ad (FD (Gw (Ad (wpAny_letGo (Ax ?_))))))))))
   cases H:bt (j+1) (argBest bt j) with
   |true=>simp only[if_true];refine Ad (wpAny_updateSeq y rfl (Ad (wpAny_letGo ?_)));rw[Rz];refine Ax ⟨plainId_quiet F.plain_min_loop _,UR W bt D S l q k (j+1) _ v _ (by lia) (W.frame _ _ _ J λb K o e=>?_) (by simp only[argBest,H,if_true];exact G) (t5 _ y rfl) λr t z B C=>?_⟩;exact(Heap.get?_update_other _ _ (λh:S=b=>l (by rw[h];exact K))).trans e;exact m r t z B λb o d g e=>C b o d g ((Heap.get?_update_other _ _ (Ne.symm g)).trans (f b o d e))
   |false=>
    simp only[FC,if_false];refine Ad (wpAny_letGo ?_);rw[Rz]
    exact Ax ⟨plainId_quiet F.plain_min_loop _,UR W bt D S l q k (j+1) _ a c (by lia) J (by simp only[argBest,H,FC,if_false];exact p) y λr t z B C =>
     m r t z B λb o d g e=>C b o d g (f b o d e)⟩
theorem eY{x d:Value}{Q:D'}
 (h:wpAny (model prog w) A.in1 (pyIter x) (λit c=>∃I fp u n P St bt,it=.ref I/\Walks prog w A.in1 I fp u n P St/\St 0 c.heap/\(∀b∈fp,b<c.heap.objs.size)/\CmpOf prog w A.in1 .Lt P bt /\
  ∀v h' tk,(if n=0 then v=d else P (argBest bt (n-1)) v)->(∀b o,b∉u->c.heap.get? b=some o->h'.get? b=some o)->Q v {c with heap:=h',toks:=tk}) E s) :
 wpAny (model prog w) A (call (.builtin "min") [x] [(Str.ofString "default",d)]) Q E s:=by
 refine wpAny_call (codeAny_call_builtin F.plain_min F.entry_min (wpAny_of_eq (a:=()) (by
  have i:=F.args_minD x d;simp only[checkBuiltinCall,F.kind_min];unfold argsOk at i
  cases M:Manifest.signature? "min" with
  |none=>rfl
  |some R=>rw[M] at i;exact i) ?_))
 show wpAny _ A.in1 (Builtin.Builtins.bindParams "min" ["key", "default"] 0 ⟨[],[(Str.ofString "default",d)]⟩ >>= _) _ _ s;refine Ad (wpAny_of_eq (show Builtin.Builtins.bindParams "min" ["key", "default"] 0 ⟨[],[(Str.ofString "default",d)]⟩=pure [none,some d] from rfl) ?_);refine Ad (Ax ?_);refine Ad (F3 h (λit c r=>?_) λ_ _ e=>e);obtain⟨I,fp,u,n,P,St,bt,rfl,W,C,D,N,k⟩:=r;refine Ad (wpAny_newObj_type ?_);have j:c.heap.objs.size∉fp:=λt=>HF _ (D _ t);have G:c.heap.objs.size∉u:=λh=>j (W.sub _ h);rw[Rz];have l:(c.heap.push {cls:=.type "list",data:=.seq #[]}).get? c.heap.objs.size=some {cls:=.type "list",data:=.seq #[]}:=B9 _ rfl;have q:=W.frame _ _ (c.heap.push {cls:=.type "list",data:=.seq #[]}) C λb _ o e=>Bb _ e;refine Ax ⟨plainId_quiet F.plain_min_loop _,codeAny_builtin F.entry_min_loop ?_⟩;rw[t8 F.plain_min_loop _];show wpAny _ A.in1 (seqItems? (.ref c.heap.objs.size) >>= _) _ _ _;refine Ad (Gy l rfl ?_);show wpAny _ A.in1 (tryCatch (pyNext (.ref I)) _ >>= _) _ _ _;cases n with|zero=>refine Ad (wpAny_tryCatch (W.done _ _ _ q λh' tk f=>?_));exact Ad (HH (Ax (k d _ tk (by rw[Ag rfl]) λb o g e=>f b o g (Bb _ e))))|succ n=>refine Ad (wpAny_tryCatch (W.item 0 _ _ _ (Nat.succ_pos _) q λv h' tk y O f=>?_));have p:=f _ _ G l;show wpAny _ A.in1 (updateSeq c.heap.objs.size (λ_=>#[v,v]) >>= _) _ _ _;refine Ad (wpAny_updateSeq p rfl ?_);rw[Rz];refine Ax ⟨plainId_quiet F.plain_min_loop _,UR W bt N _ j _ n 0 _ v _ (by lia) (W.frame _ _ _ O λb H o e=>?_) y (t5 _ p rfl) λz B J K L=>?_⟩;exact(Heap.get?_update_other _ _ (λh:c.heap.objs.size=b=>j (by rw[h];exact H))).trans e;refine k z B J (by rw[Ah (Nat.succ_ne_zero n)];exact K) λb o g e=>?_;have m:b≠c.heap.objs.size:=Cz (Bq e);exact L b o g m ((Heap.get?_update_other _ _ (Ne.symm m)).trans (f b o g (Bb _ e)))
end
end PySem
namespace L2
open PySem PySem.Spec PyProof.Rows
section
variable {X:Cx}
def OB:F'->V
 |[]=>.non
 |n::ns=>.int (ns.foldl min n)
theorem US(f:Nat->Int):∀n,f (argBest (λi j=>decide (f i<f j)) n)=((List.range n).map λi=>f (i+1)).foldl min (f 0)
 |0=>rfl
 |n+1=>by
   have a:=US f n;rw[List.range_succ,Ba,OU];show f (if _ then _ else _)=min _ (f (n+1));rw[<-a];by_cases h:f (n+1)<f (argBest (λi j=>decide (f i<f j)) n);rw[Ag (Bs h)];lia;rw[Ah (by simpa using h)];lia
def XV(n:Int)(ns:F'):((List.range ns.length).map λi=>(n::ns).getD (i+1) 0)=ns:=by apply t4;intro i;rw[AQ];by_cases h:i<ns.length;rw[p8 h,Option.map_some,CU,List.getElem?_cons_succ,AD h];rfl;rw[Ek (by simpa using h),Ek (by lia)];rfl
def PX (ta:TA):TE:=λσ H Q=>ta σ H λvs Y=>∃p ns,vs=[.ref p]/\Y p=some (.lst (ns.map V.int))/\Q (OB ns) Y
def Kk{e:Expr}{r:TA}{p pos B J:Pos}{j:Nat}(C:X.calm=true)(D:Gl X "min")(E:X.mg "min" = none)(F:PA X [e] r)
 (f:backTo pos (starEach [e] X.env)=(false,eval e X.env)::backTo pos (starEach [] X.env):=by rfl) (P:(backTo pos (starEach [e] X.env)).any (·.1)=false:=by rfl) :
 PE X (.Call (.Name "min" p) [e] [⟨some "default",.Constant .none j B,J⟩] pos) (PX r):=by
 intro S s σ H Q I h;refine wpAny_Call_Name_kw (Lm I D E (u:=.builtin "min") (by decide +kernel) (callWith_kw (AX (F pos S s σ H _ I h) λU c⟨W,Y,k,G,K⟩=>kws_cons (Constant_none (kws_nil ?_))) f P));obtain⟨l,a,rfl,L,q⟩:=K;obtain⟨u,rfl,M⟩:=FG G;cases M;obtain⟨z,g,n,w,e⟩:=(show AB X.prog X.w Y c.heap l (.lst (a.map V.int)) from k.hok l _ L);have x:=WM w;have y:c.heap.IsList l g.toArray:=⟨_,e,rfl,n,rfl⟩;have T:g.length=a.length:=by have:=w.length;rw[Am] at this;exact this.symm
 refine eY (wpAny_pyIter_list y ⟨_,[c.heap.objs.size,l],[c.heap.objs.size],_,λi v=>g.toArray[i]?=some v,λi h=>h.IsListIter c.heap.objs.size l i/\h.IsList l g.toArray,λi j=>decide (a.getD i 0<a.getD j 0),rfl,Walks.list (A:=X.A.in1) (k.ok.hd C) c.heap.objs.size l (Cz (Bq e)) g.toArray,
  ⟨⟨_,B9 _ rfl,rfl,rfl⟩,y.push _⟩,λb f=>?_,CmpOf.ints_lt (λi=>a.getD i 0) (λi v d=>x.int_at i v (by simpa using d)),λv N tk d O=>?_⟩)
 show b<(c.heap.push _).objs.size;rw[r9];rcases B1.mp f with rfl|f;exact OV _;rw[AR.mp f];exact Nat.lt_succ_of_lt (Bq e);have R:∀b o,c.heap.get? b=some o->N.get? b=some o:=λb o z=>O b o (by simpa using Cz (Bq z)) (Bb _ z);refine⟨OB a,Y,k.kept R,?_,q⟩;rw[Co,T] at d;cases a with|nil=>exact d|cons m a=>rw[D9,Ah (Nat.succ_ne_zero _),Nat.add_sub_cancel] at d;obtain⟨t,rfl⟩:=x.int_at (argBest (λi j=>decide ((m::a).getD i 0<(m::a).getD j 0)) a.length) v (by rw[<-List.getElem?_toArray];exact d);refine⟨t,?_⟩;rw[US λi=>(m::a).getD i 0,XV];rfl
def LH (acc:List (List AJ×V)) (ps:List (List AJ×V)):List (List AJ×V):=ps.foldl (λa kv=>AM a kv.1 kv.2) acc
def Fh (H:Hp) (xs:U') (ps:List (List AJ×V)):Prop:=Paired (λx(p:List AJ×V)=>∃t b,x=.ref t/\H t=some (.tup [.ref b,p.2])/\H b=some (.tup (p.1.map kV))) xs ps
def e9{pins:B'}{σ:St}{A:Around}{R:Result->Shared->Prop}{H:Hp}{p l it:Addr}(Z:A.units+1<cLine)(hh:A.in1.handled=none)(j:H p=none)(E:it≠p) :
 ∀(xs:U')(ps:List (List AJ×V))(d:U')(acc:List (List AJ×V))(s:Shared),Fh H xs ps->H l=some (.lst (d++xs))->acc.length+xs.length<=sizeLine->Inv X pins σ (upd H p (.dT acc)) s ->
 s.heap.IsListIter it l d.length->Dc X pins H it->(∀L,Inv X pins σ (upd H p (.dT (LH acc ps))) L->R (.ok (.ret .none)) L)->∀n:Int,
 codeAny (model X.prog X.w) A (.builtin "dict.update.loop" ⟨[.ref p,.ref it,rawInt n,.none],[]⟩) R s:=by
 intro xs ps d acc s hx
 induction hx generalizing d acc s with
 |nil=>intro f J I r k u n;have F:upd H p (.dT acc) l=some (.lst (d++[])):=(AC (A3 f j)).trans f;obtain⟨v,w,aa,y,B,C⟩:=k;have G:upd H p (.dT acc) it=none:=(AC E).trans v;obtain⟨z,U,c,D,e⟩:=(show AB X.prog X.w _ s.heap l (.lst (d++[])) from I.hok l _ F);have an:=D.length;rw[FA] at an;refine codeAny_builtin PySem.F.entry_upd_loop ?_;rw[t8 PySem.F.plain_upd_loop _];show wpAny _ A.in1 (pyNext (.ref it) >>= _) _ _ s;refine Ad (wpAny_pyNext_list_end hh r ⟨_,e,rfl,c,rfl⟩ (by simp;lia) λh eb=>?_);exact Ad (Ax (Ax (u _ (I.turned (t':=s.toks) (λb o g e=>eb b o g e) G w y B C))))
 |@cons x q xs ps hq tl ih=>
  intro f J I r k u n;obtain⟨t,b,rfl,K,g⟩:=hq;have F:upd H p (.dT acc) l=some (.lst (d++.ref t::xs)):=(AC (A3 f j)).trans f;have af:upd H p (.dT acc) t=some (.tup [.ref b,q.2]):=(AC (A3 K j)).trans K;have W:upd H p (.dT acc) b=some (.tup (q.1.map kV)):=(AC (A3 g j)).trans g;obtain⟨v,w,aa,y,B,C⟩:=id k;have G:upd H p (.dT acc) it=none:=(AC E).trans v;obtain⟨z,U,c,D,e⟩:=(show AB X.prog X.w _ s.heap l (.lst (d++.ref t::xs)) from I.hok l _ F);obtain⟨ao,ag,ru⟩:=D.get (i:=d.length) (x:=.ref t) (by simp);cases ru;refine codeAny_builtin PySem.F.entry_upd_loop ?_;rw[t8 PySem.F.plain_upd_loop _];show wpAny _ A.in1 (pyNext (.ref it) >>= _) _ _ s;refine Ad (wpAny_pyNext_list_item r (⟨_,e,rfl,c,rfl⟩:s.heap.IsList l U.toArray) (x:=.ref t) (by simpa using ag) λh ah sb=>?_);have m:Inv X pins σ (upd H p (.dT acc)) {s with heap:=h}:=I.turned (t':=s.toks) (λb o g e=>(sb.2 b g).trans e) G w y B C;obtain⟨_,ts,rt,ot,M,ct,nt,dt⟩:=(show AB X.prog X.w _ h t (.tup [.ref b,q.2]) from m.hok t _ af);obtain⟨u1,N,rfl,r1,r2⟩:=Lq rt;cases(show u1=Value.ref b from r1);obtain⟨zd,hm,es,Y,dd⟩:=HY m.hok (Aa (H:=H) (a:=p) (o:=.dT acc));have ai:es.length<=sizeLine:=by rw[<-Paired.length Y];exact zd
  have aq:(AM acc q.1 q.2).length<=acc.length+1:=Ol acc q.1 q.2;rw[D9] at J;refine Ad (FD (Ad (wpAny_tryCatch ?_)));show wpAny _ A.in1 (Builtin.Dict.pairItems (.ref t)) _ _ _;unfold Builtin.Dict.pairItems;refine Ad (N1 (s:={s with heap:=h}) (T:= "tuple") ⟨ot,M,ct⟩ ?_);rw[Ag (by decide)];refine Ad (Gy (s:={s with heap:=h}) M dt (Ax ?_));show wpAny _ A.in1 (holding [Value.ref b,N] (dictSet p (.ref b) N)) _ _ _;refine FD (wpAny_dictSet_heap (hsz:=ai) (knd:=tupleKind (EC X.prog X.w)) (tupleKind_room_in1 Z) (ME m.hok W) dd λh2 aj O=>?_);obtain⟨P,ak,al,Q,ab,ae,g4,_,g5⟩:=aj;have I2:Inv X pins σ (upd H p (.dT (AM acc q.1 q.2))) {s with heap:=h2,toks:=s.toks+(tupleKind (EC X.prog X.w)).draws q.1}:=(by have:=Op (t':=s.toks+(tupleKind (EC X.prog X.w)).draws q.1) (ob:=.dT (AM acc q.1 q.2)) m (by rw[Aa];exact True.intro) O ⟨P,Q⟩ ⟨by lia,hm,_,(Y.put q.1 W r2).keeps λc ys S=>?_,P,ak,al,Q,ab,ae,g4,g5⟩;rw[Wv] at this;exact this;rw[AC (N8 S Aa (λz=>nomatch z))];exact S);refine Ax ⟨plainId_quiet PySem.F.plain_upd_loop _,?_⟩;have:=ih (d++[.ref t]) (AM acc q.1 q.2) _ (by rw[Gu];exact f) (by lia) I2 (by rw[A1];exact ah.at λo e=>(O.2 it E).trans e) k u (n+1);exact this
def Kl:U'->Hp->VK->Prop:=λvs H Q=>∃l xs ps,vs=[.ref l]/\H l=some (.lst xs)/\xs.length<sizeLine/\Fh H xs ps/\∀p,H p=none->Q (.ref p) (upd H p (.dT (LH [] ps)))
def fA(j:X.calm=true)(y:X.A.units+2<cLine):Bc X (.type "dict") Kl:=by
 intro pins s σ H K M Q I r h;obtain⟨l,k,B,rfl,m,N,C,q⟩:=h;obtain⟨u,rfl,D⟩:=FG r;cases D;have n:H s.heap.objs.size=none:=I.hok.fresh (AF _);refine callType_codes (Q₁:=λw p=>w=.ref s.heap.objs.size/\p={s with heap:=s.heap.push {cls:=.type "dict",data:=.dict #[]}}) PySem.F.kt_called_dict (PySem.F.kt_typeCall_dict_1 _) PySem.F.entry_dict_init (kt_code_dict_new _ ⟨rfl,rfl⟩) ?_;rintro w p ⟨rfl,rfl⟩;have E:=I.laid (a:=s.heap.objs.size) (o:=.dT []) (t':=s.toks) (h':=s.heap.push {cls:=.type "dict",data:=.dict #[]}) (λ_ _ q=>Bb _ q) (AF _) (WX s.heap I.big);obtain⟨z,P,c,O,e⟩:=(show AB X.prog X.w _ s.heap l (.lst k) from I.hok l _ m);have f:=Bb {cls:=.type "dict",data:=.dict #[]} e;have t:Shared.TypeIs {s with heap:=s.heap.push {cls:=.type "dict",data:=.dict #[]}} (.ref s.heap.objs.size) "dict" :=⟨_,B9 _ rfl,rfl⟩;refine⟨t,PySem.F.args_dict_init_2 _ _,?_⟩;unfold Builtin.«dict.__init__»;refine Ad ?_;unfold Builtin.Dict.selfAndRest;refine Ad (wpAny_notOrdered_dict t ?_);show wpAny _ _ (pure (s.heap.objs.size,[Value.ref l])) _ _ _;refine Ax ?_;show wpAny _ _ (Builtin.Dict.updateFrom "dict.__init__" s.heap.objs.size (.ref l) [] .none) _ _ _;unfold Builtin.Dict.updateFrom;refine Ad (N1 (T:= "list") ⟨_,f,rfl⟩ ?_);rw[Ag (by decide)];refine Ad (XU f rfl rfl rfl (I.ok.hd j) λd tk v=>?_);rw[Ag (show(none:L').isNone=true from rfl)];have g:=E.kept (t':=tk) v;refine Ad (HH (Ad (wpAny_pyIter_list (s:={s with heap:=d,toks:=tk}) ⟨_,v _ _ f,rfl,c,rfl⟩ ?_)));have F:=g.kept (t':=tk) (h':=d.push {cls:=.type "list_iterator",data:=.fields #[.ref l,.int 0 0]}) λb o e=>Bb _ e;obtain⟨i,G⟩:=g.fpOk (AF d.objs.size) (g.hok.fresh (AF _));have x:d.objs.size≠s.heap.objs.size:=λz=>by rw[z,Aa] at i;cases i
 refine Ax ⟨plainId_quiet PySem.F.plain_upd_loop _,e9 (A:=X.A.in1) (X:=X) (pins:=pins) (σ:=σ) (l:=l) (H:=H) y (I.ok.hd j) n x k B [] [] _ C m (by rw[Hc];lia) F ⟨_,B9 _ rfl,rfl,rfl⟩ ⟨(AC x).symm.trans i,G⟩ (λL J=>⟨rfl,.ref _,_,J,rfl,q _ n⟩) 0⟩
end
open Ord
def fB{bs:List Bool}:(List.range bs.length).any (λi=>bs.getD i false)=bs.any id:=by rw[Bool.eq_iff_iff,Gv,Gv];constructor;rintro⟨i,a,h⟩;have c:=List.mem_range.mp a;rw[CU,AD c] at h;exact⟨_,Ez c,h⟩;rintro⟨b,d,h⟩;obtain⟨i,a,e⟩:=QW.mp d;refine⟨i,List.mem_range.mpr a,?_⟩;rw[CU,AD a,e];exact h
def UT (K:Aj):U'->Hp->VK->Prop:=λvs H Q=>∃(a:Addr)(bs:List Bool),vs=[.ref a]/\Ae K H a (bs.map V.bl)/\Q (.bl (bs.any id)) H
def XW{X:Cx}(g:X.calm=true):Bc X (.builtin "any") (UT X.K):=by
 intro B s σ H t w Q I r h;obtain⟨a,bs,rfl,j,q⟩:=h;obtain⟨u,rfl,k⟩:=FG r;obtain rfl:u=Value.ref a:=k;obtain⟨c,d,p,x⟩:=I.list j;have f:=d.length;rw[Am] at f;have n:a<s.heap.objs.size:=by obtain⟨_,e,_⟩:=p.isList;exact Bq e
 refine call_any_walk (wpAny_pyIter_list p.isList ?_);refine⟨s.heap.objs.size,[s.heap.objs.size,a],[s.heap.objs.size],c.toArray.size,(λi v=>c.toArray[i]?=some v),(λi h=>h.IsListIter s.heap.objs.size a i/\h.IsList a c.toArray),(λi=>bs.getD i false),rfl,Walks.list (A:=X.A.in1) (I.ok.hd g) s.heap.objs.size a (Cz n) c.toArray,⟨⟨_,B9 _ rfl,rfl,rfl⟩,p.isList.push _⟩,W1 d,λy tk l=>?_⟩;refine⟨.bl (bs.any id),H,I.kept λb o e=>l b o (λz=>?_) (Bb _ e),?_,q⟩;have m:b=s.heap.objs.size:=(by simpa using z);exact absurd (Bq e) (by rw[m];exact HF _);have e:c.toArray.size=bs.length:=(by rw[Co,f]);show Value.bool _=Value.bool _;rw[e,fB]
section
variable {prog:Program} {w:World} {A:Around} {E:D'} {s:Shared}
end
section
variable {X:Cx}
end
end L2
namespace TreeM
def UU{β:Type}{P:List β->Prop}(nil:P [])(snoc:∀l x,P l->P (l++[x]))(l:List β):P l:=by
 have:∀l:List β,P l.reverse:=λl=>by
  induction l with|nil=>exact nil|cons x l a=>rw[List.reverse_cons];exact snoc _ _ a
 rw[<-List.reverse_reverse l];exact this _
variable {α:Type} [DecidableEq α]
abbrev Ws (α:Type):=List (Nat×List α)
def nxt (p:List α) (w:List α):Option α:=if p <+: w then w[p.length]? else none
def keysAt (ws:Ws α) (p:List α):List (α×Nat):=ws.foldl (λks kw=>match nxt p kw.2 with
 |some m=>if m∈ks.map (·.1) then ks else ks++[(m,kw.1)]
 |none=>ks) []
theorem LI(ws:Ws α)(k:Nat)(w p:List α):keysAt (ws++[(k,w)]) p=match nxt p w with
 |some m=>if m∈(keysAt ws p).map (·.1) then keysAt ws p else keysAt ws p++[(m,k)]
 |none=>keysAt ws p:=by
 unfold keysAt;rw[OU];rfl
def Km(p:List α):nxt p p=none:=by unfold nxt;rw[Ag (List.prefix_refl p)];exact Ek (AF _)
def fC(p:List α)(m:α):nxt p (p++[m])=some m:=by unfold nxt;rw[Ag (Jh p [m]),EA (AF _),Nat.sub_self];rfl
variable {p:List α}{m:α}
def fE{q:List α}(h:p≠q):nxt p (q++[m])=nxt p q:=by
 unfold nxt;by_cases a:p <+: q;rw[Ag a,Ag (a.trans (Jh q [m]))];have l:p.length<q.length:=(by rcases t7 p.length q.length with x|x;exact x;exact absurd (a.eq_of_length_le x) h);exact D7 l;rw[Ah a];by_cases b:p <+: q++[m];rw[Ag b];rcases List.prefix_concat_iff.mp b with e|e;rw[e];exact Ek (AF _);exact absurd e a;rw[Ah b]
def fF(ws:Ws α)(k:Nat)(p:List α):keysAt (ws++[(k,[])]) p=keysAt ws p:=by
 rw[LI];have:nxt p ([]:List α)=none:=(by unfold nxt;by_cases a:p <+: [];rw[Ag a];rfl;rw[Ah a]);rw[this]
variable {ws:Ws α}
def UV{k:Nat}{q:List α}(h:p≠q):keysAt (ws++[(k,q++[m])]) p=keysAt (ws++[(k,q)]) p:=by rw[LI,LI,fE h]
def XX(ws:Ws α)(k:Nat)(q:List α)(m:α):keysAt (ws++[(k,q++[m])]) q =
 if m∈(keysAt (ws++[(k,q)]) q).map (·.1) then keysAt (ws++[(k,q)]) q else keysAt (ws++[(k,q)]) q++[(m,k)]:=by
 rw[LI,LI,fC,Km]
def Gc{w:List α}:nxt p w=some m↔p++[m] <+: w:=by
 unfold nxt;by_cases a:p <+: w;rw[Ag a];obtain⟨t,rfl⟩:=a;rw[EA (AF _),Nat.sub_self]
 cases t with
 |nil=>refine⟨λe=>(nomatch e),λe=>?_⟩;have:=e.length_le;rw[FA,A1] at this;exact absurd this (by show ¬p.length+1<=p.length;lia)
 |cons x t=>refine⟨λe=>?_,λe=>?_⟩;cases e;exact⟨t,by simp⟩;obtain⟨u,e⟩:=e;rw[Gu] at e;have:=List.append_cancel_left e;simp at this;rw[this.1];rfl
 rw[Ah a];exact⟨λe=>(nomatch e),λe=>absurd ((Jh p [m]).trans e) a⟩
def keysAt_mem:m∈(keysAt ws p).map (·.1)↔∃a∈ws,p++[m] <+: a.2:=by
 induction ws using UU with
 |nil=>exact⟨λh=>(nomatch h),λ⟨_,h,_⟩=>(nomatch h)⟩
 |snoc ws a c=>
  obtain⟨k,w⟩:=a;rw[LI];have both:(∃a∈ws++[(k,w)],p++[m] <+: a.2)↔(∃a∈ws,p++[m] <+: a.2)\/p++[m] <+: w:=(by constructor;rintro⟨x,b,e⟩;rcases B0.mp b with y|y;exact .inl ⟨x,y,e⟩;rw[AR.mp y] at e;exact .inr e;rintro(⟨x,b,e⟩|e);exact⟨x,Et _ b,e⟩;exact⟨_,Db _ (AR.mpr rfl),e⟩);rw[both,<-c,<-Gc];cases b:nxt p w with|none=>exact⟨.inl,λz=>z.elim id λe=>(nomatch e)⟩|some x=>dsimp only;by_cases d:x∈(keysAt ws p).map (·.1);rw[Ag d];exact⟨.inl,λz=>z.elim id λe=>by cases e;exact d⟩;rw[Ah d,Ba,B0];refine or_congr Iff.rfl ?_;simp[eq_comm]
def XY{k:Nat}(l:(ws.map (·.1)).Pairwise (· < ·))(h:(m,k)∈keysAt ws p):(∃w,(k,w)∈ws/\p++[m] <+: w)/\∀j w,(j,w)∈ws->p++[m] <+: w->k<=j:=by
 induction ws using UU with
 |nil=>cases h
 |snoc ws o q=>
  obtain⟨n,v⟩:=o;rw[Ba,List.pairwise_append] at l;obtain⟨r,-,s⟩:=l;have z:∀j w,(j,w)∈ws->j<n:=λj w e=>s j (AW.mpr ⟨_,e,rfl⟩) n (AR.mpr rfl);rw[LI] at h
  have i:(m,k)∈keysAt ws p->(∃w,(k,w)∈ws++[(n,v)]/\p++[m] <+: w)/\∀j w,(j,w)∈ws++[(n,v)]->p++[m] <+: w->k<=j:=λt=>by
   obtain⟨⟨w,a,b⟩,c⟩:=q r t;refine⟨⟨w,Et _ a,b⟩,λj u e f=>?_⟩;rcases B0.mp e with y|y;exact c j u y f;cases AR.mp y;exact Cf (z _ _ a)
  cases g:nxt p v with
  |none=>rw[g] at h;exact i h
  |some x=>rw[g] at h;dsimp only at h;by_cases d:x∈(keysAt ws p).map (·.1);rw[Ag d] at h;exact i h;rw[Ah d] at h;rcases B0.mp h with y|y;exact i y;cases AR.mp y;refine⟨⟨v,Db _ (AR.mpr rfl),Gc.mp g⟩,λj u e f=>?_⟩;rcases B0.mp e with y|y;exact absurd (keysAt_mem.mpr ⟨_,y,f⟩) d;cases AR.mp y;exact AF _
section
variable (bet:α->α->Bool)
def AO:List α->List α->Bool
 |x::s,m::t=>if x=m then AO s t else bet x m
 |_,_=>false
def gat (ws:Ws α):List α->List α->R'
 |_,[]=>[]
 |a,m::t=>((keysAt ws a).filter λxk=>bet xk.1 m).map (·.2)++gat ws (a++[m]) t
end
variable {bet:α->α->Bool}
def M0{a b:List α}{x:α}{t:List α}(h:a++[x] <+: b)(c:x≠m):AO bet b (a++m::t)=bet x m:=by
 obtain⟨u,rfl⟩:=h
 induction a with|nil=>show(if x=m then _ else bet x m)=_;rw[Ah c]|cons y a d=>show(if y=y then _ else _)=_;rw[Ag rfl];exact d
theorem XZ{ws:Ws α}(g:(ws.map (·.1)).Pairwise (· < ·))(i:∀m,bet m m=false):∀(b a:List α)(k:Nat),k∈gat bet ws a b->∃w,(k,w)∈ws/\AO bet w (a++b)=true
 |[],_,_,h=>nomatch h
 |m::t,a,k,h=>by rcases B0.mp h with y|y;obtain⟨⟨x,j⟩,z,rfl⟩:=AW.mp y;obtain⟨l,d⟩:=JC.mp z;obtain⟨⟨w,f,c⟩,-⟩:=XY g l;refine⟨w,f,?_⟩;rw[M0 c (λe=>?_)];exact d;rw[e,i] at d;cases d;obtain⟨w,f,c⟩:=XZ g i t (a++[m]) k y;refine⟨w,f,?_⟩;rw[Gu] at c;exact c
theorem X0:∀{b w:List α},AO bet w b=true->∃a x m t,b=a++m::t/\a++[x] <+: w/\x≠m/\bet x m=true
 |m::t,x::s,h=>by by_cases e:x=m;subst e;have h':AO bet s t=true:=(by simpa [AO] using h);obtain⟨a,y,n,u,rfl,c,d,f⟩:=X0 h';exact⟨x::a,y,n,u,rfl,List.cons_prefix_cons.mpr ⟨rfl,c⟩,d,f⟩;have h':bet x m=true:=(by simpa [AO,e] using h);exact⟨[],x,m,t,rfl,List.cons_prefix_cons.mpr ⟨rfl,List.nil_prefix⟩,e,h'⟩
 |[],[],h=>nomatch h
 |[],_::_,h=>nomatch h
 |_::_,[],h=>nomatch h
theorem X1{ws:Ws α}:∀{a b c:List α}{m x:α}{t:List α}{k:Nat},(x,k)∈keysAt ws (c++a)->bet x m=true->b=a++m::t->k∈gat bet ws c b
 |[],b,c,m,x,t,k,d,e,f=>by subst f;rw[FA] at d;exact Et _ (AW.mpr ⟨_,JC.mpr ⟨d,e⟩,rfl⟩)
 |y::a,b,c,m,x,t,k,d,e,f=>by subst f;refine Db _ (X1 (a:=a) (m:=m) (x:=x) (t:=t) ?_ e rfl);rw[Gu];exact d
def fG(i:(ws.map (·.1)).Pairwise (· < ·)){b w:List α}{j:Nat}(h:(j,w)∈ws)(l:AO bet w b=true):∃k∈gat bet ws [] b,k<=j:=by obtain⟨a,x,m,t,e,d,-,n⟩:=X0 l;obtain⟨⟨y,k⟩,f,g⟩:=AW.mp (keysAt_mem.mpr ⟨_,h,d⟩);dsimp only at g;subst g;exact⟨k,X1 (a:=a) (c:=[]) f n e,(XY i f).2 j w h d⟩
end TreeM
namespace L2
open PySem PySem.Spec PyProof.Rows Ord TreeM
variable {A:Around}
def M1{k:Nat}(a:B2 k A):A.units+2<cLine:=Nat.lt_of_le_of_lt (Nat.add_le_add_left (by decide:2<=64) _) a.units
abbrev Gp (m:Ao):List AJ:=[.inl m.1,.inr m.2.1,.inl m.2.2]
def fH{a b:Ao}(h:Gp a=Gp b):a=b:=by obtain⟨c,d,e⟩:=a;obtain⟨f,g,i⟩:=b;simp only[Gp,List.cons.injEq,Sum.inl.injEq,Sum.inr.injEq,and_true] at h;rw[h.1,h.2.1,h.2.2]
def DZ (ws:Ws Ao) (c:X'->Ao->Addr) (p:X'):List (List AJ×V):=(keysAt ws p).map λmk=>(Gp mk.1,V.ref (c p mk.1))
theorem X2{c:Ao->Addr}{m:Ao}:∀{ks:List (Ao×Nat)},AG (ks.map λmk=>(Gp mk.1,V.ref (c mk.1))) (Gp m)=if m∈ks.map (·.1) then some (.ref (c m)) else none
 |[]=>rfl
 | (x,k) :: ks=>by
   rw[D6];by_cases h:x=m;subst h;rw[Ht rfl,Ag (by simp)];rw[Hu (λz=>h (fH z)),X2];have:(m∈List.map (·.1) ((x,k)::ks))↔m∈ks.map (·.1):=(by rw[D6,B1];exact⟨λz=>z.elim (λe=>absurd e.symm h) id,.inr⟩);by_cases a:m∈ks.map (·.1);rw[Ag a,Ag (this.mpr a)];rw[Ah a,Ah (λz=>a (this.mp z))]
variable {ws:Ws Ao}{c:X'->Ao->Addr}{p:X'}{m:Ao}
def PY:AG (DZ ws c p) (Gp m)=if m∈(keysAt ws p).map (·.1) then some (.ref (c p m)) else none:=X2 (c:=c p)
def Ep (ws:Ws Ao) (p:X'):Prop:=p=[]\/∃kw∈ws,p <+: kw.2
def X3(h:¬Ep ws p):keysAt ws p=[]:=by
 cases e:keysAt ws p with|nil=>rfl|cons x l=>exfalso;obtain⟨a,b,c⟩:=keysAt_mem.mp (show x.1∈(keysAt ws p).map (·.1) by rw[e];simp);exact h (.inr ⟨a,b,(Jh p _).trans c⟩)
def FL:Ep ws (p++[m])↔m∈(keysAt ws p).map (·.1):=by rw[keysAt_mem];exact⟨λh=>h.elim (λe=>absurd e (by simp)) id,.inr⟩
structure Bj (φ:Hp->Addr->List (List AJ×V)->Prop) (H:Hp) (ws:Ws Ao) (d:X'->Addr) (c:X'->Ao->Addr):Prop where
 dct:∀p,Ep ws p->φ H (d p) (DZ ws c p)
 tup:∀p m k,(m,k)∈keysAt ws p->H (c p m)=some (.tup [.int (k:Int),.ref (d (p++[m]))])
 inj:∀p q,Ep ws p->Ep ws q->d p=d q->p=q
abbrev dW:Hp->Addr->List (List AJ×V)->Prop:=λH a kvs=>H a=some (.dT kvs)
abbrev dF:Hp->Addr->List (List AJ×V)->Prop:=λH a kvs=>∃o,H a=some (.frz o (.dT kvs))
variable {H H':Hp}{d:X'->Addr}
def Bj.same(e:Ac H H')(h:Bj dF H ws d c):Bj dF H' ws d c:=
 ⟨λp a=>let ⟨o,x⟩:=h.dct p a;⟨o,e _ _ x⟩,λp m k b=>e _ _ (h.tup p m k b),h.inj⟩
def Bj.sameW(e:Ac H H')(h:Bj dW H ws d c):Bj dW H' ws d c:=
 ⟨λp a=>e _ _ (h.dct p a),λp m k b=>e _ _ (h.tup p m k b),h.inj⟩
variable {n:Nat}{g:X'}
def RA(d:m∈(keysAt (ws++[(n,g)]) g).map (·.1)):Ep (ws++[(n,g++[m])]) p↔Ep (ws++[(n,g)]) p:=by constructor;rintro(h|⟨b,c,a⟩);exact .inl h;rcases B0.mp c with y|y;exact .inr ⟨b,Et _ y,a⟩;rw[AR.mp y] at a;rcases List.prefix_concat_iff.mp a with e|e;rw[e];exact FL.mpr d;exact .inr ⟨_,Db _ (AR.mpr rfl),e⟩;rintro(h|⟨b,c,a⟩);exact .inl h;rcases B0.mp c with y|y;exact .inr ⟨b,Et _ y,a⟩;rw[AR.mp y] at a;exact .inr ⟨_,Db _ (AR.mpr rfl),a.trans (Jh g [m])⟩
def Bj.stay{φ:Hp->Addr->List (List AJ×V)->Prop}(h:Bj φ H (ws++[(n,g)]) d c)(a:m∈(keysAt (ws++[(n,g)]) g).map (·.1)):Bj φ H (ws++[(n,g++[m])]) d c:=by
 have f:∀p,keysAt (ws++[(n,g++[m])]) p=keysAt (ws++[(n,g)]) p:=λp=>by
  by_cases e:p=g;subst e;rw[XX,Ag a];exact UV e
 refine⟨λp b=>?_,λp x k i=>h.tup p x k (by rw[<-f];exact i),λp q b j=>h.inj p q ((RA a).mp b) ((RA a).mp j)⟩;have:=h.dct p ((RA a).mp b);unfold DZ at this ⊢;rw[f];exact this
variable {v:V}
def fI{a:List (List AJ×V)}{k:List AJ}(h:AG a k=none):AM a k v=a++[(k,v)]:=by unfold AM;rw[Ah (by rw[Po,h];simp)]
variable {e T:Addr}
def Bj.grow{u:Hp}(h:Bj dW H (ws++[(n,g)]) d c)(j:m∉(keysAt (ws++[(n,g)]) g).map (·.1))
 (G:H e=none) (I:∀p,Ep (ws++[(n,g)]) p->u (d p)=none) (U:u e=none) (s:Ac H H') (J:H' e=some (.dT [])) (C:H' T=some (.tup [.int (n:Int),.ref e])) :
 ∃d' K,Bj dW (upd H' (d g) (.dT (AM (DZ (ws++[(n,g)]) c g) (Gp m) (.ref T)))) (ws++[(n,g++[m])]) d' K/\d' (g++[m])=e/\(∀p,Ep (ws++[(n,g++[m])]) p->u (d' p)=none)/\d' []=d []:=by
 have r:Ep (ws++[(n,g)]) g:=.inr ⟨_,Db _ (AR.mpr rfl),List.prefix_refl g⟩;have L:AG (DZ (ws++[(n,g)]) c g) (Gp m)=none:=(by rw[PY,Ah j])
 have w:∀{p},Ep (ws++[(n,g++[m])]) p->p=g++[m]\/p≠g++[m]/\Ep (ws++[(n,g)]) p:=λ{p}a=>by
  by_cases e:p=g++[m];exact .inl e;refine .inr ⟨e,?_⟩;rcases a with z|⟨M,N,A⟩;exact .inl z;rcases B0.mp N with y|y;exact .inr ⟨M,Et _ y,A⟩;rw[AR.mp y] at A;rcases List.prefix_concat_iff.mp A with z|z;exact absurd z e;exact .inr ⟨_,Db _ (AR.mpr rfl),z⟩
 have B:∀p,Ep (ws++[(n,g)]) p->d p≠e:=λp a z=>by have this:H (d p)=some _:=h.dct p a;rw[z,G] at this;cases this
 have W:T≠d g:=λz=>by
  have:=s _ _ (h.dct g r);rw[<-z,C] at this;cases this
 have O:¬Ep (ws++[(n,g)]) (g++[m]):=λz=>j (FL.mp z);have P:keysAt (ws++[(n,g++[m])]) (g++[m])=[]:=(by rw[UV (by simp)];exact X3 O);have D:∀p,p≠g->keysAt (ws++[(n,g++[m])]) p=keysAt (ws++[(n,g)]) p:=λp a=>UV a;have F:keysAt (ws++[(n,g++[m])]) g=keysAt (ws++[(n,g)]) g++[(m,n)]:=(by rw[XX,Ah j]);refine⟨λp=>if p=g++[m] then e else d p,λp x=>if p=g/\x=m then T else c p x,⟨λp a=>?_,λp x k o=>?_,λp q a Q X=>?_⟩,Ag rfl,λp a=>?_,Ah (by simp)⟩;show upd _ _ _ (if p=g++[m] then e else d p)=some _;rcases w a with z|⟨z,f⟩;subst z;rw[Ag rfl,AC (Ne.symm (B g r)),J];unfold DZ;rw[P];rfl;rw[Ah z];by_cases b:p=g;subst b;rw[Aa,fI L];unfold DZ;rw[F,Ba]
 have:∀l:List (Ao×Nat),m∉l.map (·.1)->(l.map λmk=>(Gp mk.1,V.ref (c p mk.1)))=l.map λmk=>(Gp mk.1,V.ref (if p=p/\mk.1=m then T else c p mk.1)):=λl R=>List.map_congr_left λmk Y=>by
  rw[Ah (λz=>R (AW.mpr ⟨mk,Y,z.2⟩))]
 rw[this _ j,D6,NY];dsimp only;rw[Ag ⟨rfl,rfl⟩];rw[AC (λS=>b (h.inj p g f r S))];have:=s _ _ (h.dct p f);unfold DZ at this ⊢;rw[D p b,this]
 congr 2
 exact List.map_congr_left λmk _=>by
  show _=(Gp mk.1,V.ref (if p=g/\mk.1=m then T else c p mk.1));rw[Ah (λz=>b z.1)]
 show upd _ _ _ (if p=g/\x=m then T else c p x)=some (.tup [_,.ref (if p++[x]=g++[m] then e else d (p++[x]))]);by_cases b:p=g;subst b;rw[F] at o;by_cases v:x=m;subst v;rw[Ag ⟨rfl,rfl⟩,Ag rfl,AC W,C];rcases B0.mp o with y|y;exact absurd (AW.mpr ⟨_,y,rfl⟩) j;cases AR.mp y;rfl;rcases B0.mp o with y|y;rw[Ah (λz=>v z.2),Ah (λz=>v (by simpa using z))];have t:=h.tup p x k y;rw[AC (λz=>by have this:H (d p)=some _:=h.dct p r;rw[<-z,t] at this;cases this)];exact s _ _ t;cases AR.mp y;exact absurd rfl v;rw[D p b] at o;rw[Ah (λz=>b z.1),Ah (show ¬(p++[x]=g++[m]) from λz=>b (List.append_inj_left' z rfl))];have t:=h.tup p x k o;rw[AC (λz=>by have this:H (d g)=some _:=h.dct g r;rw[<-z,t] at this;cases this)];exact s _ _ t;have i:(if p=g++[m] then e else d p)=(if q=g++[m] then e else d q):=X;rcases w a with z|⟨z,f⟩<;>rcases w Q with y|⟨y,E⟩;rw[z,y];rw[Ag z,Ah y] at i;exact absurd i.symm (B q E);rw[Ah z,Ag y] at i;exact absurd i (B p f);rw[Ah z,Ah y] at i;exact h.inj p q f E i;show u (if p=g++[m] then e else d p)=none;rcases w a with z|⟨z,f⟩;rw[Ag z];exact U;rw[Ah z];exact I p f
def X4(ws:Ws Ao)(n:Nat)(p:X'):keysAt (ws++[(n,[])]) p=keysAt ws p:=fF ws n p
def Bj.begin{φ:Hp->Addr->List (List AJ×V)->Prop}(h:Bj φ H ws d c):Bj φ H (ws++[(n,[])]) d c:=by
 have i:∀{p},Ep (ws++[(n,[])]) p->Ep ws p:=λ{p}a=>by
  rcases a with z|⟨e,f,b⟩;exact .inl z;rcases B0.mp f with y|y;exact .inr ⟨e,y,b⟩;rw[AR.mp y] at b;exact .inl (List.prefix_nil.mp b)
 refine⟨λp a=>?_,λp m k g=>h.tup p m k (by rw[<-X4];exact g),λp q a j=>h.inj p q (i a) (i j)⟩;have:=h.dct p (i a);unfold DZ at this ⊢;rw[X4];exact this
def Bj.frz{H Y a:Hp}{ws:Ws Ao}{d:X'->Addr}{c:X'->Ao->Addr}(h:Bj dW Y ws d c)(i:∀p,Ep ws p->H (d p)=none)(f:Ry H Y a)(j:∀b e,H b=none->Y b=some (.dT e)->∃o,a b=some (.frz o (.dT e))):Bj dF a ws d c:=by refine⟨λp g=>j _ _ (i p g) (h.dct p g),λp m k l=>?_,h.inj⟩;have t:=h.tup p m k l;rcases f (c p m) with z|⟨_,e,o,z,_⟩;rw[z];exact t;rw[t] at z;cases z
variable {Y:Hp}
def Ry.same{a:Hp}(s:Ac H Y)(f:Ry H Y a):Ac H a:=λb o e=>by rcases f b with z|⟨z,_⟩;rw[z];exact s _ _ e;rw[e] at z;cases z
def UW(ws:Ws Ao)(p:X'):(keysAt ws p).length<=ws.length:=by
 induction ws using UU with|nil=>exact AF _|snoc ws a b=>obtain⟨k,w⟩:=a;rw[LI,A1];split;split;lia;rw[A1];simp;exact b;lia
abbrev FM (p:Str×Str):List AJ:=[.inr p.1,.inr p.2]
def Fh.tups(e:∀b xs,H b=some (.tup xs)->H' b=some (.tup xs)):∀{xs:U'}{ps:List (List AJ×V)},Fh H xs ps->Fh H' xs ps:=λh =>
 Paired.mapP h λ_ _⟨t,b,a,c,d⟩=>⟨t,b,a,e _ _ c,e _ _ d⟩
theorem X5{k:List AJ}:∀{ps acc:List (List AJ×V)},(AG (LH acc ps) k).isSome=true↔(AG acc k).isSome=true\/k∈ps.map (·.1)
 |[],acc=>by simp[LH]
 |p::ps,acc=>by show(AG (LH (AM acc p.1 p.2) ps) k).isSome=true↔_;rw[X5,Oj,D6,B1];by_cases h:k=p.1;rw[Ag h];simp[h];rw[Ah h];simp[h]
def Ir (H:Hp) (p:Addr) (ord:A'):Prop:=∃kvs,H p=some (.dT kvs)/\∀a b,(AG kvs (FM (a,b))).isSome=dec ((a,b)∈ord)
variable {ord:A'}
def Ir.same{p:Addr}(e:Ac H H')(h:Ir H p ord):Ir H' p ord:=let ⟨k,a,b⟩:=h;⟨k,e _ _ a,b⟩
def fJ(a b:Str):(AG (LH [] (ord.map λp=>(FM p,V.bl true))) (FM (a,b))).isSome=dec ((a,b)∈ord):=by
 have:(AG (LH [] (ord.map λp=>(FM p,V.bl true))) (FM (a,b))).isSome=true ↔ (a,b)∈ord:=(by rw[X5];constructor;rintro(h|h);simp[AG] at h;rw[DK] at h;obtain⟨q,c,e⟩:=AW.mp h;obtain⟨d,f⟩:=q;simp at e;rw[<-e.1,<-e.2];exact c;intro h;refine .inr ?_;rw[DK];exact AW.mpr ⟨_,h,rfl⟩);by_cases h:(a,b)∈ord;rw[Eu h];exact this.mpr h;rw[EV h];cases e:(AG (LH [] (ord.map λp=>(FM p,V.bl true))) (FM (a,b))).isSome with|false=>rfl|true=>exact absurd (this.mp e) h
def Be (l:W'):Ws Ao:=l.zipIdx.map λp=>(p.2,p.1)
def fK(l:W')(w:X'):Be (l++[w])=Be l++[(l.length,w)]:=by
 unfold Be;rw[List.zipIdx_append,Ba];simp
variable {l:W'}{i:Nat}{w:X'}
def fL(h:l[i]?=some w):Be (l.take (i+1))=Be (l.take i)++[(i,w)]:=by have a:=(AV.mp h).1;rw[E8,h];show Be (l.take i++[w])=_;rw[fK,FQ,Nat.min_eq_left (Cf a)]
def X6(l:W'):((Be l).map (·.1)).Pairwise (· < ·):=by
 have:(Be l).map (·.1)=List.range l.length:=(by unfold Be;rw[DK,List.range_eq_range'];exact List.zipIdx_map_snd 0 l);rw[this];exact List.pairwise_lt_range
def Dy{k:Nat}:(k,w)∈Be l↔l[k]?=some w:=by unfold Be;rw[AW];constructor;rintro⟨⟨a,b⟩,h,e⟩;cases e;exact List.mem_zipIdx_iff_getElem?.mp h;intro h;exact⟨(w,k),List.mem_zipIdx_iff_getElem?.mpr h,rfl⟩
noncomputable def Cj (ss:List Bo) (ord:A') (x m:Ao):Bool:=dec ((FK ss x,FK ss m)∈ord)
variable {ss:List Bo}
def fM(h:∀x,(x,x)∉ord)(m:Ao):Cj ss ord m m=false:=EV (h _)
theorem UX(ss:List Bo)(ord:A'):∀(a b:X'),AO (Cj ss ord) a b=BH ss ord a b
 |x::s,m::t=>by
   show(if x=m then _ else Cj ss ord x m)=_;by_cases e:x=m;subst e;rw[Ag rfl,LG];exact UX ss ord s t;rw[Ah e,Jr ss ord s t e];rfl
 |[],m=>by rw[Js ss ord (.inl rfl)];rfl
 |_::_,[]=>by rw[Js ss ord (.inr rfl)];rfl
def Ko(h:∀x,(x,x)∉ord):gat (Cj ss ord) (Be l) [] w=[]↔∀v∈l,BH ss ord v w=false:=by
 constructor;intro e v b;obtain⟨k,d⟩:=List.mem_iff_getElem?.mp b
 cases a:BH ss ord v w with
 |false=>rfl
 |true=>obtain⟨j,c,_⟩:=fG (X6 l) (Dy.mpr d) (by rw[UX];exact a);rw[e] at c;cases c
 intro f;cases e:gat (Cj ss ord) (Be l) [] w with|nil=>rfl|cons k g=>exfalso;obtain⟨v,b,a⟩:=XZ (X6 l) (fM h) w [] k (by rw[e];simp);rw[List.nil_append,UX] at a;rw[f v (List.mem_iff_getElem?.mpr ⟨k,Dy.mp b⟩)] at a;cases a
noncomputable def Cg (ss:List Bo) (ord:A') (all l:W'):W':=l.filter λw=>!all.any λv=>BH ss ord v w
def X7{all:W'}(h:l[i]?=some w):Cg ss ord all (l.take (i+1))=if(all.any λv=>BH ss ord v w)=true then Cg ss ord all (l.take i) else Cg ss ord all (l.take i)++[w]:=by
 unfold Cg;rw[E8,h,N0];show _++List.filter _ [w]=_;rw[NW];cases all.any λv=>BH ss ord v w with|true=>rw[Ag rfl];simp|false=>simp
def fN{all:W'}:(Cg ss ord all l).length<=l.length:=QX _ _
def CS{ks:R'}:OB (ks.map λk:Nat=>(k:Int))=.non↔ks=[]:=by
 cases ks with|nil=>exact⟨λ_=>rfl,λ_=>rfl⟩|cons k ks=>exact⟨λh=>(nomatch h),λh=>(nomatch h)⟩
def RB(h:∀x,(x,x)∉ord):gat (Cj ss ord) (Be l) [] w=[]↔(l.any λv=>BH ss ord v w)=false:=by rw[Ko h,t9];exact⟨λz v a=>by rw[z v a];simp,λz v a=>by have:=z v a;simpa using this⟩
variable {caps:R'}{te:TE}{σ:St}{Q:Addr->Hp->Prop}
def fO{k:Nat}{g:TG}{tc:TT}{lo:Int}(Pv:Addr->Nat->U'->Hp->Prop)
 (h:∀D,Y D=none->Pv D 0 [] (upd Y D (.lst [])))
 (j:∀(D:Addr)(i:Nat)(ys:U')(a:Hp)(R:VK)(d:Hp->Prop),Y D=none->i<n->Pv D i ys a->(∀y e,e D=some (.lst ys)->ys.length<sizeLine->Pv D (i+1) (ys++[y]) (upd e D (.lst (ys++[y])))->R y e)->(∀c,Pv D (i+1) ys c->d c)->g (.int (lo+i)) (FI k caps σ) a λσ4 l=>tc σ4 l λb c=>if b=true then te σ4 c R else d c)
 (hd:∀D ys a,Y D=none->Pv D n ys a->Q D a):Jo (Ob lo n) k caps g tc te σ Y Q:=ML n Pv h (λD i ys a p f=>f) (λD ys a p=>AF _) (λD i ys a x q R d m f p y k o=>by obtain⟨rfl,rfl⟩:=y;exact j D i ys _ R d m f p k o) hd
section
variable {prog:Program} {w:World} {A:Around} {E:D'} {s:Shared}
theorem RC{j p:Addr}{k:Nat}{vs:O'}{y:Value}{Q:D'}(c:s.heap.IsTupleIter j p k)(d:s.heap.IsTuple p vs)(e:vs[k]?=some y)
 (q:∀g,g.IsTupleIter j p (k+1)->Heap.SameBut j s.heap g->Q y {s with heap:=g}):wpAny (model prog w) A (Builtin.SmallTypes.nextOf (.ref j)) Q E s:=by
 obtain⟨l,b,f,a⟩:=id c;obtain⟨m,h,_,_,i⟩:=d;unfold Builtin.SmallTypes.nextOf;refine Ad (wpAny_callSpecial?_slot (name:=Str.ofString "__next__") c.typeIs F.slot_tuple_iterator_next (wpAny_call_entry F.slot_tuple_iterator_next c.typeIs F.entry_tuple_iterator_next ?_ (F.args_tuple_iterator_next_1 _)));show wpAny _ _ (field (.ref j) 0 >>= _) _ _ s;refine Ad (wpAny_field b a (x:=.ref p) rfl ?_);show wpAny _ _ (if(Value.ref p==Value.none)=true then _ else _) _ _ s;rw[Ah (show ¬((Value.ref p==Value.none)=true) from CA)];show wpAny _ _ (field (.ref j) 1 >>= _) _ _ s;refine Ad (wpAny_field b a (x:=.int k 0) rfl ?_);show wpAny _ _ (seqItems? (.ref p) >>= _) _ _ s;refine Ad (Gy h i ?_);simp only[Bn,e];refine Ad (wpAny_setField b a (by simp) (Ax ⟨y,rfl,Ax (q _ ⟨_,t5 _ b (Obj.isFreed_of_fields (Obj.data_mapFields a _)),(Obj.cls_mapFields ..).trans f,by rw[Obj.data_mapFields a];simp[rawInt]⟩ (t6 ..))⟩))
theorem UY{j p:Addr}{k:Nat}{vs:O'}{Q:D'}(e:A.handled=none)(b:s.heap.IsTupleIter j p k)(f:s.heap.IsTuple p vs)(h:vs[k]?=none)
 (q:∀g x,Heap.ExtBut j s.heap g->(∃o,g.get? x=some o/\o.cls=.type "StopIteration")->E (.ref x) {s with heap:=g}):wpAny (model prog w) A (Builtin.SmallTypes.nextOf (.ref j)) Q E s:=by
 obtain⟨n,c,r,d⟩:=id b;obtain⟨t,i,_,_,l⟩:=f;unfold Builtin.SmallTypes.nextOf;refine Ad (wpAny_callSpecial?_slot (name:=Str.ofString "__next__") b.typeIs F.slot_tuple_iterator_next (wpAny_call_entry F.slot_tuple_iterator_next b.typeIs F.entry_tuple_iterator_next ?_ (F.args_tuple_iterator_next_1 _)));show wpAny _ _ (field (.ref j) 0 >>= _) _ _ s;refine Ad (wpAny_field c d (x:=.ref p) rfl ?_);show wpAny _ _ (if(Value.ref p==Value.none)=true then _ else _) _ _ s;rw[Ah (show ¬((Value.ref p==Value.none)=true) from CA)];show wpAny _ _ (field (.ref j) 1 >>= _) _ _ s;refine Ad (wpAny_field c d (x:=.int k 0) rfl ?_);show wpAny _ _ (seqItems? (.ref p) >>= _) _ _ s;refine Ad (Gy i l ?_);simp only[Bn,h];refine Ad (HH (Ad (wpAny_setField c d (by simp) ?_)));show wpAny _ _ (newExc (.type "StopIteration") [] >>= _) _ _ _;refine Ad ?_;simp only[newExc,newTuple];refine Ad (wpAny_newObj_type (Ad (m:=firstArgMember _ _) (wpAny_of_eq (a:=Value.none) (by first|rfl|(simp only[firstArgMember];rfl)) (wpAny_newObj_type ?_ (by size_fits)))) (by size_fits));simp only[raiseNew];refine Ad (wpAny_handled ?_)
 first|rw[show A.in1.handled=none from e]|rw[e]
 exact Ad (Ax (wpAny_throw (q _ _ (((t6 ..).extBut.push _).push _) ⟨_,B9 _ rfl,rfl⟩)))
end
variable {prog:Program}
def Iu{w:World}(c:A.handled=none)(j p:Addr)(d:p≠j)(vs:O'):Draws prog w A j [j,p] vs.size (λi v=>vs[i]?=some v) (λi h=>h.IsTupleIter j p i/\h.IsTuple p vs) where
 live _ _ st:=let ⟨o,e,_⟩:=st.1;⟨o,e⟩
 frame _ _ _ st k:=by obtain⟨⟨o,f,l⟩,u,m,n⟩:=st;exact⟨⟨o,k j (by simp) _ f,l⟩,u,k p (by simp) _ m,n⟩
 item i s Q E a st q:=RC st.1 st.2 (y:=vs[i]) (by simp[a]) λg r b=>q _ g s.toks (by simp[a]) ⟨r,st.2.extBut b.extBut d⟩ b
 done s Q E st q:=UY c st.1 st.2 (by simp) q
set_option tactic.hygienic true in
def fP(p:Addr)(vs:O')(n:Nat)(dct:Option Addr)(e:Array (L')) :
 Meets (Builtin.«enumerate.__new__» ⟨[.type "enumerate",.ref p],[]⟩) (λ_ R s=>s.heap.get? p=some {cls:=.type "tuple",dict:=dct,data:=.seq vs n,slots:=e}/\R (.ok (.ret (.ref (s.heap.push {cls:=.type "tuple_iterator",data:=.fields #[.ref p,.int 0 0]}).objs.size))) {s with heap:=(s.heap.push {cls:=.type "tuple_iterator",data:=.fields #[.ref p,.int 0 0]}).push {cls:=.type "enumerate",data:=.fields #[.none,.bool false,.ref s.heap.objs.size,rawInt 0,.none,.none]}}):=
 .of_wp λprog w A R s h=>by
  obtain⟨f,g,d,tk,i⟩:=s;obtain⟨a,h⟩:=h;have k:=sub_enumerate;have b:Heap.IsTuple (Shared.heap ⟨f,g,d,tk,i⟩) p vs:=⟨_,a,rfl,n,rfl⟩
  wp_walk using AutoSeq1.wpAny_loadPart' a
  refine wpAny_stack_any λj=>Ax ?_;split;rename_i c _ _ _ _ _;cases(c==Value.type "enumerate")<;>(wp_walk using AutoSeq1.wpAny_loadPart' a,wpAny_pyIter_tuple b;exact⟨_,rfl,h⟩)
  wp_walk using AutoSeq1.wpAny_loadPart' a,wpAny_pyIter_tuple b
  exact⟨_,rfl,h⟩
variable {E:D'}{s:Shared}
theorem fQ{w:World}{p:Addr}{vs:O'}{Q:D'}(i:s.heap.IsTuple p vs)
 (h:∀g,IsEnum g (s.heap.objs.size+1) s.heap.objs.size 0 .none->g.IsTupleIter s.heap.objs.size p 0->g.objs.size=s.heap.objs.size+2->(∀b o,s.heap.get? b=some o->g.get? b=some o)->Q (.ref (s.heap.objs.size+1)) {s with heap:=g}) :
 wpAny (model prog w) A (call (.type "enumerate") [.ref p]) Q E s:=by
 obtain⟨⟨c,dct,dt,j⟩,k,a,n,hd⟩:=i;replace a:c=.type "tuple" :=a;replace hd:dt=.seq vs n:=hd;subst a hd;refine callType_new F.called_enumerate (by decide) (F.typeCall_enumerate_1 _) (F.newCall_enumerate_1 _) (λl=>F.args_object_init_2 l _) F.entry_enumerate_new (fP p vs n dct j) ⟨k,?_⟩;have d:(s.heap.push {cls:=.type "tuple_iterator",data:=.fields #[.ref p,.int 0 0]}).objs.size=s.heap.objs.size+1:=r9 ..;show _/\_;rw[d]
 have f:IsEnum ((s.heap.push {cls:=.type "tuple_iterator",data:=.fields #[.ref p,.int 0 0]}).push {cls:=.type "enumerate",data:=.fields #[.none,.bool false,.ref s.heap.objs.size,rawInt 0,.none,.none]}) (s.heap.objs.size+1) s.heap.objs.size 0 .none:=by
  have e:=B9 (s.heap.push {cls:=.type "tuple_iterator",data:=.fields #[.ref p,.int 0 0]}) (o:={cls:=.type "enumerate",data:=.fields #[.none,.bool false,.ref s.heap.objs.size,rawInt 0,.none,.none]}) rfl
  rwa [d] at e
 exact⟨⟨_,f,rfl⟩,h _ f ⟨_,Bb _ (B9 _ rfl),rfl,rfl⟩ (by rw[r9,d]) λb o x=>Bb _ (Bb _ x)⟩
section
variable {X:Cx}
end
section
variable {prog:Program} {w:World} {A:Around} {E:D'} {s:Shared}
def fR{z a o i j p q:Addr}{k m:Nat}{xs ys:O'}{x y u v:Value}{Q:D'}(D:ZipApart z a o i j p q)(B:IsZip s.heap z a o .none)(ea:IsPair s.heap a (.ref i) (.ref j))(eo:IsPair s.heap o u v)
 (ei:s.heap.IsTupleIter i p k) (ej:s.heap.IsTupleIter j q m) (tp:s.heap.IsTuple p xs) (tq:s.heap.IsTuple q ys) (hx:xs[k]?=some x) (hy:ys[m]?=some y)
 (ah:∀g,IsZip g z a o (rawInt s.heap.objs.size)->IsPair g o x y->g.IsTupleIter i p (k+1)->g.IsTupleIter j q (m+1)->IsPair g s.heap.objs.size x y->g.objs.size=s.heap.objs.size+1->(∀c d,c≠z->c≠o->c≠i->c≠j->s.heap.get? c=some d->g.get? c=some d)->Q (.ref s.heap.objs.size) {s with heap:=g}) :
 wpAny (model prog w) A (Builtin.«zip.__next__» ⟨[.ref z],[]⟩) (λf t=>∃v,f=.done (.ret v)/\Q v t) E s:=by
 show wpAny _ _ (field (.ref z) 2 >>= _) _ _ _;refine Ad (wpAny_field B rfl (x:=.bool false) rfl ?_);show wpAny _ _ (field (.ref z) 3 >>= _) _ _ _;refine Ad (wpAny_field B rfl (x:=.ref a) rfl (Ad (Gy ea rfl ?_)));show wpAny _ _ (Builtin.SmallTypes.ownedTupleIsFree (.ref z) >>= _) _ _ _;refine Ad ?_;unfold Builtin.SmallTypes.ownedTupleIsFree;refine Ad (wpAny_field B rfl (x:=.none) rfl (Ax ?_));simp only[if_true];refine Ad (HH (Ad (wpAny_field B rfl (x:=.ref o) rfl (Ad (wpAny_setField_rec B (by simp) λaa M h=>?_)))));replace M:IsZip aa z a o .ellipsis:=M;refine Ad ?_;simp only[List.zipIdx_cons,List.zipIdx_nil,List.forIn_cons,List.forIn_nil];refine Ad (Ad (wpAny_onRaise ?_));show wpAny _ _ (Builtin.SmallTypes.nextOf (.ref i) >>= _) _ _ _;refine Ad (RC (ei.extBut h.extBut D.i1z) (tp.extBut h.extBut D.l1z) hx λab i2 l=>Ax ?_);have U:IsPair ab o u v:=l.extBut _ _ D.TOi1 (h.extBut _ _ D.TOz eo);refine Ad (Gy U rfl (Ad (wpAny_updateSeq_pair U λae N r=>Ad (wpAny_letGo (Ax ?_)))));replace N:IsPair ae o x v:=N;refine Ad (Ad (wpAny_onRaise ?_));show wpAny _ _ (Builtin.SmallTypes.nextOf (.ref j) >>= _) _ _ _;refine Ad (RC (((ej.extBut h.extBut D.i2z).extBut l.extBut D.i12.symm).extBut r.extBut D.TOi2.symm) (((tq.extBut h.extBut D.l2z).extBut l.extBut D.l2i1).extBut r.extBut D.l2TO) hy λg4 j4 C=>Ax ?_);have V:IsPair g4 o x v:=C.extBut _ _ D.TOi2 N;refine Ad (Gy V rfl (Ad (wpAny_updateSeq_pair V λb H F=>Ad (wpAny_letGo (Ax (Ax ?_))))));replace H:IsPair b o x y:=H;refine Ad (Gy H rfl (Ad (wpAny_newTuple ?_)));have sz:b.objs.size=s.heap.objs.size:=(by rw[F.1,C.1,r.1,l.1,h.1]);have W:IsZip b z a o .ellipsis:=F.extBut _ _ D.TOz.symm (C.extBut _ _ D.i2z.symm (r.extBut _ _ D.TOz.symm (l.extBut _ _ D.i1z.symm M)));have k5:∀c d,c≠z->c≠o->c≠i->c≠j->s.heap.get? c=some d->b.get? c=some d:=λc d I J O P e=>F.extBut _ _ J (C.extBut _ _ P (r.extBut _ _ J (l.extBut _ _ O (h.extBut _ _ I e))));have i5:b.IsTupleIter i p (k+1):=((i2.extBut r.extBut D.TOi1.symm).extBut C.extBut D.i12).extBut F.extBut D.TOi1.symm;have j5:b.IsTupleIter j q (m+1):=j4.extBut F.extBut D.TOi2.symm;have X:z<b.objs.size:=Bq W;show wpAny _ _ (Builtin.SmallTypes.ownedTupleHandOut (.ref z) (.ref b.objs.size) >>= _) _ _ _;refine Ad ?_;unfold Builtin.SmallTypes.ownedTupleHandOut;have z6:IsZip (b.push {cls:=.type "tuple",data:=.seq #[x,y]}) z a o .ellipsis:=Bb _ W;refine Ad (wpAny_setField_rec z6 (by simp) λg7 R S=>?_);replace R:IsZip g7 z a o (rawInt b.objs.size):=R;refine wpAny_setField_rec R (by simp) λG K T=>?_;replace K:IsZip G z a o (rawInt b.objs.size):=K;have L:∀c d,c≠z->b.get? c=some d->G.get? c=some d:=λc d n e=>T.extBut _ _ n (S.extBut _ _ n (Bb _ e));have Y:IsPair G b.objs.size x y:=T.extBut _ _ (Nat.ne_of_gt X) (S.extBut _ _ (Nat.ne_of_gt X) (B9 _ rfl));have Z:G.objs.size=b.objs.size+1:=(by rw[T.1,S.1,r9]);rw[sz] at K Y Z;refine Ax ⟨_,rfl,?_⟩;show Q (.ref b.objs.size) _;rw[sz];obtain⟨oi,e1,e2⟩:=i5;obtain⟨oj,af,ag⟩:=j5;exact ah G K (L _ _ D.TOz H) ⟨oi,L _ _ D.i1z e1,e2⟩ ⟨oj,L _ _ D.i2z af,ag⟩ Y Z λc d I J O P e=>L c d I (k5 c d I J O P e)
def fS{z a o i j p q:Addr}{k m:Nat}{xs ys:O'}{u v:Value}{Q:PySem.Fin->Shared->Prop}(J:A.handled=none)(D:ZipApart z a o i j p q)(r:IsZip s.heap z a o .none)(U:IsPair s.heap a (.ref i) (.ref j))(V:IsPair s.heap o u v)
 (K:s.heap.IsTupleIter i p k) (W:s.heap.IsTupleIter j q m) (L:s.heap.IsTuple p xs) (X:s.heap.IsTuple q ys) (aa:xs[k]?=none\/ys[m]?=none)
 (T:∀g e,(∀c d,c≠z->c≠o->c≠i->c≠j->s.heap.get? c=some d->g.get? c=some d)->(∃d,g.get? e=some d/\d.cls=.type "StopIteration")->E (.ref e) {s with heap:=g}) :
 wpAny (model prog w) A (Builtin.«zip.__next__» ⟨[.ref z],[]⟩) Q E s:=by
 show wpAny _ _ (field (.ref z) 2 >>= _) _ _ _;refine Ad (wpAny_field r rfl (x:=.bool false) rfl ?_);show wpAny _ _ (field (.ref z) 3 >>= _) _ _ _;refine Ad (wpAny_field r rfl (x:=.ref a) rfl (Ad (Gy U rfl ?_)));show wpAny _ _ (Builtin.SmallTypes.ownedTupleIsFree (.ref z) >>= _) _ _ _;refine Ad ?_;unfold Builtin.SmallTypes.ownedTupleIsFree;refine Ad (wpAny_field r rfl (x:=.none) rfl (Ax ?_));simp only[if_true];refine Ad (HH (Ad (wpAny_field r rfl (x:=.ref o) rfl (Ad (wpAny_setField_rec r (by simp) λY C b=>?_)))));replace C:IsZip Y z a o .ellipsis:=C;refine Ad ?_;simp only[List.zipIdx_cons,List.zipIdx_nil,List.forIn_cons,List.forIn_nil];refine Ad (Ad (wpAny_onRaise ?_));show wpAny _ _ (Builtin.SmallTypes.nextOf (.ref i) >>= _) _ _ _
 cases F:xs[k]? with
 |none=>
  refine Ad (UY J (K.extBut b.extBut D.i1z) (L.extBut b.extBut D.l1z) F λG e f H=>?_);obtain⟨d,l,y⟩:=H;have M:IsZip G z a o .ellipsis:=f _ _ D.i1z.symm C;have ne:e≠z:=λt=>by subst t;rw[M] at l;cases l;simp at y
  exact wpAny_setField_rec M (by simp) λN _ n=>T N e (λc d B _ I _ t=>n.extBut _ _ B (f _ _ I (b.extBut _ _ B t))) ⟨d,n.extBut _ _ ne l,y⟩
 |some x=>
  have Z:ys[m]?=none:=(by rcases aa with h|h;rw[F] at h;cases h;exact h);refine Ad (RC (K.extBut b.extBut D.i1z) (L.extBut b.extBut D.l1z) F λG i2 f=>Ax ?_);have O:IsPair G o u v:=f.extBut _ _ D.TOi1 (b.extBut _ _ D.TOz V);refine Ad (Gy O rfl (Ad (wpAny_updateSeq_pair O λN o3 n=>Ad (wpAny_letGo (Ax ?_)))));refine Ad (Ad (wpAny_onRaise ?_));show wpAny _ _ (Builtin.SmallTypes.nextOf (.ref j) >>= _) _ _ _;refine Ad (UY J (((W.extBut b.extBut D.i2z).extBut f.extBut D.i12.symm).extBut n.extBut D.TOi2.symm) (((X.extBut b.extBut D.l2z).extBut f.extBut D.l2i1).extBut n.extBut D.l2TO) Z λg4 e P H=>?_);obtain⟨d,l,y⟩:=H;have R:IsZip g4 z a o .ellipsis:=P _ _ D.i2z.symm (n.extBut _ _ D.TOz.symm (f.extBut _ _ D.i1z.symm C));have ne:e≠z:=λt=>by subst t;rw[R] at l;cases l;simp at y
  exact wpAny_setField_rec R (by simp) λg5 _ S=>T g5 e (λc d B n2 I n4 t=>S.extBut _ _ B (P _ _ n4 (n.extBut _ _ n2 (f.extBut _ _ I (b.extBut _ _ B t))))) ⟨d,S.extBut _ _ ne l,y⟩
end
abbrev RD (h:Heap) (p:Addr):Heap:=h.push {cls:=.type "tuple_iterator",data:=.fields #[.ref p,.int 0 0]}
abbrev RE (h:Heap) (p q:Addr):Heap:=(RD h p).push {cls:=.type "tuple_iterator",data:=.fields #[.ref q,.int 0 0]}
abbrev RF (h:Heap) (p q:Addr):Heap:=(RE h p q).push {cls:=.type "tuple",data:=.seq #[.ref h.objs.size,.ref (RD h p).objs.size]}
abbrev RG (h:Heap) (p q:Addr):Heap:=(RF h p q).push {cls:=.type "tuple",data:=.seq #[.none,.none]}
abbrev M3 (h:Heap) (p q:Addr):Heap:=(RG h p q).push {cls:=.type "zip",data:=.fields #[.none,.bool false,.bool false,.ref (RE h p q).objs.size,.ref (RF h p q).objs.size]}
def fT(p q:Addr)(xs ys:O'):Meets (Builtin.«zip.__new__» ⟨[.type "zip",.ref p,.ref q],[]⟩) (λ_ R s=>s.heap.IsTuple p xs/\s.heap.IsTuple q ys/\R (.ok (.ret (.ref (RG s.heap p q).objs.size))) {s with heap:=M3 s.heap p q}):=
 .of_wp λprog w A R s h=>by
  obtain⟨a,g,d,tk,b⟩:=s;obtain⟨c,e,h⟩:=h;have j:=sub_zip;have f:Heap.IsTuple (Shared.heap ⟨a,g,d,tk,b⟩) p xs:=c;have i:Heap.IsTuple (Shared.heap ⟨a.push {cls:=.type "tuple_iterator",data:=.fields #[.ref p,.int 0 0]},g,d,tk,b⟩) q ys:=Heap.IsTuple.push e _
  wp_walk using wpAny_pyIter_tuple f,wpAny_pyIter_tuple i
  exact⟨_,rfl,h⟩
theorem fU{w:World}{p q:Addr}{xs ys:O'}{Q:D'}(m:s.heap.IsTuple p xs)(n:s.heap.IsTuple q ys)
 (h:∀g,IsZip g (s.heap.objs.size+4) (s.heap.objs.size+2) (s.heap.objs.size+3) .none->IsPair g (s.heap.objs.size+2) (.ref s.heap.objs.size) (.ref (s.heap.objs.size+1))->IsPair g (s.heap.objs.size+3) .none .none->g.IsTupleIter s.heap.objs.size p 0->g.IsTupleIter (s.heap.objs.size+1) q 0->g.objs.size=s.heap.objs.size+5->(∀c o,s.heap.get? c=some o->g.get? c=some o)->Q (.ref (s.heap.objs.size+4)) {s with heap:=g}) :
 wpAny (model prog w) A (call (.type "zip") [.ref p,.ref q]) Q E s:=by
 refine callType_new F.called_zip (by decide) (F.typeCall_zip_2 _ _) (F.newCall_zip_2 _ _) (λu=>F.args_object_init_3 u _ _) F.entry_zip_new (fT p q xs ys) ⟨m,n,?_⟩;have a:(RD s.heap p).objs.size=s.heap.objs.size+1:=r9 ..;have b:(RE s.heap p q).objs.size=s.heap.objs.size+2:=(by rw[r9,a]);have d:(RF s.heap p q).objs.size=s.heap.objs.size+3:=(by rw[r9,b]);have f:(RG s.heap p q).objs.size=s.heap.objs.size+4:=(by rw[r9,d]);have r:(M3 s.heap p q).objs.size=s.heap.objs.size+5:=(by rw[r9,f]);have i:(M3 s.heap p q).get? (RG s.heap p q).objs.size=some _:=B9 _ rfl;have j:(M3 s.heap p q).get? (RF s.heap p q).objs.size=some _:=Bb _ (B9 _ rfl);have k:(M3 s.heap p q).get? (RE s.heap p q).objs.size=some _:=Bb _ (Bb _ (B9 _ rfl));have l:(M3 s.heap p q).get? (RD s.heap p).objs.size=some _:=Bb _ (Bb _ (Bb _ (B9 _ rfl)));have t:(M3 s.heap p q).get? s.heap.objs.size=some _:=Bb _ (Bb _ (Bb _ (Bb _ (B9 _ rfl))));show _/\_;rw[b,d,f] at i;rw[a,b] at k;rw[d] at j;rw[a] at l;rw[f];exact⟨⟨_,i,rfl⟩,h _ i k j ⟨_,t,rfl,rfl⟩ ⟨_,l,rfl,rfl⟩ r λc o e=>Bb _ (Bb _ (Bb _ (Bb _ (Bb _ e))))⟩
section
variable {X:Cx} {pins:B'} {σ:St} {H:Hp} {s:Shared} {h':Heap} {t':Nat} {fp:I'}
def Inv.turnL(I:Inv X pins σ H s)(d:∀b∈fp,Dc X pins H b)(keep:∀b o,b∉fp->s.heap.get? b=some o->h'.get? b=some o):Inv X pins σ H {s with heap:=h',toks:=t'}:=by
 have g:∀b u,H b=some u->b∉fp:=λb u e z=>by rw[(d b z).1] at e;cases e
 refine I.step (g':=s.gens) (d':=s.drawn) (ch:=fp) (λb a=>⟨(d b a).2.2.2.1,(d b a).2.1,(d b a).2.2.2.2⟩) (λb o _ _ a e _=>keep b o a e) (λb o _ _ a e _=>⟨o.slots,keep b o a e⟩) (λ_ _ _ _ n=>n) (λb o a e=>⟨o,keep b o a e⟩) (λ_ _ e=>e) (λ_ _ _ e=>e) (λb l e=>⟨#[],by rw[e];simp⟩)
  (λm h=>?_) (λb u e=>(I.hok b u e).stay (λc v f q=>keep c v ?_ q) (λ_ q=>q) λ_ _ q=>q) I.bare
 obtain⟨o,i,j,k,r⟩:=h;exact⟨o,i,j,keep _ o (λz=>(d _ z).2.1 rfl) k,r⟩;rcases f with rfl|f;exact g _ _ e;exact g _ _ f
def Inv.turnP{a c:Value}{x y:V}(I:Inv X pins σ H s)(d:∀b∈fp,Dc X pins H b)(keep:∀b o,b∉fp->s.heap.get? b=some o->h'.get? b=some o)(ob:∀b∈fp,∃o,s.heap.get? b=some o/\∀v,o.data≠.cell v)
 (f:h'.get? s.heap.objs.size=some {cls:=.type "tuple",data:=.seq #[a,c]}) (i:RelV x a) (j:RelV y c) :
 Inv X pins σ (upd H s.heap.objs.size (.tup [x,y])) {s with heap:=h',toks:=t'}/\H s.heap.objs.size=none/\∀b∈fp,upd H s.heap.objs.size (.tup [x,y]) b=none:=by
 have h:H s.heap.objs.size=none:=I.hok.fresh (AF _);refine⟨(I.turnL (t':=t') d keep).track (I.fpOk (AF _) h) ⟨_,f⟩ ⟨by show 2<=sizeLine;decide,[a,c],.cons i (.cons j .nil),⟨_,f,rfl,_,rfl⟩⟩,h,λb g=>?_⟩;obtain⟨o,e,_⟩:=ob b g;rw[AC (Cz (Bq e))];exact(d b g).1
def Inv.newFp(I:Inv X pins σ H s)(a:∀b∈fp,s.heap.objs.size<=b):∀b∈fp,Dc X pins H b:=λb z=>I.fpOk (a b z) (I.hok.fresh (a b z))
end
structure UZ where
 sq:Aj->Hp->Addr->U'->Prop
 ent:Aj->Hp->Addr->U'->Prop
 it:Heap->Addr->Addr->Nat->Prop
 is:Heap->Addr->O'->Prop
 obj:∀{h:Heap}{i l:Addr}{n:Nat},it h i l n->∃o,h.get? i=some o/\∀v,o.data≠.cell v
 keep:∀{h h':Heap}{i l:Addr}{n:Nat},it h i l n->(∀o,h.get? i=some o->h'.get? i=some o)->it h' i l n
 get:∀{X:Cx}{pins:B'}{σ:St}{H:Hp}{s:Shared}{l:Addr}{xs:U'},Inv X pins σ H s->sq X.K H l xs->∃its:G',Av xs its/\is s.heap l its.toArray/\l<s.heap.objs.size
 uniq:∀{X:Cx}{pins:B'}{σ:St}{H:Hp}{s:Shared}{l:Addr}{xs ys:U'},Inv X pins σ H s->sq X.K H l xs->sq X.K H l ys->xs=ys
 entS:∀{K:Aj}{H:Hp}{l:Addr}{xs:U'},ent K H l xs->sq K H l xs
 zitem:∀{prog:Program}{w:World}{A:Around}{E:D'}{s:Shared}{z a o i j p q:Addr}{k m:Nat}{xs ys:O'}{x y u v:Value}{Q:L'->Shared->Prop},ZipApart z a o i j p q->IsZip s.heap z a o .none->IsPair s.heap a (.ref i) (.ref j)->IsPair s.heap o u v->it s.heap i p k->it s.heap j q m->is s.heap p xs->is s.heap q ys->xs[k]?=some x->ys[m]?=some y ->
  (∀g,IsZip g z a o (rawInt s.heap.objs.size)->IsPair g o x y->it g i p (k+1)->it g j q (m+1)->IsPair g s.heap.objs.size x y->g.objs.size=s.heap.objs.size+1->(∀c d,c≠z->c≠o->c≠i->c≠j->s.heap.get? c=some d->g.get? c=some d)->Q (some (.ref s.heap.objs.size)) {s with heap:=g})->wpAny (model prog w) A (pyNext (.ref z)) Q E s
 zend:∀{prog:Program}{w:World}{A:Around}{E:D'}{s:Shared}{z a o i j p q:Addr}{k m:Nat}{xs ys:O'}{u v:Value}{Q:L'->Shared->Prop},A.handled=none->ZipApart z a o i j p q->IsZip s.heap z a o .none->IsPair s.heap a (.ref i) (.ref j)->IsPair s.heap o u v->it s.heap i p k->it s.heap j q m->is s.heap p xs->is s.heap q ys->xs[k]?=none\/ys[m]?=none ->
  (∀g,(∀c d,c≠z->c≠o->c≠i->c≠j->s.heap.get? c=some d->g.get? c=some d)->Q none {s with heap:=g})->wpAny (model prog w) A (pyNext (.ref z)) Q E s
 zcall:∀{prog:Program}{w:World}{A:Around}{E:D'}{s:Shared}{p q:Addr}{xs ys:O'}{Q:D'},is s.heap p xs->is s.heap q ys ->
  (∀g,IsZip g (s.heap.objs.size+4) (s.heap.objs.size+2) (s.heap.objs.size+3) .none->IsPair g (s.heap.objs.size+2) (.ref s.heap.objs.size) (.ref (s.heap.objs.size+1))->IsPair g (s.heap.objs.size+3) .none .none->it g s.heap.objs.size p 0->it g (s.heap.objs.size+1) q 0->g.objs.size=s.heap.objs.size+5->(∀c o,s.heap.get? c=some o->g.get? c=some o)->Q (.ref (s.heap.objs.size+4)) {s with heap:=g})->wpAny (model prog w) A (call (.type "zip") [.ref p,.ref q]) Q E s
 eitem:∀{prog:Program}{w:World}{A:Around}{E:D'}{s:Shared}{e j l:Addr}{i:Nat}{xs:O'}{x old:Value}{Q:L'->Shared->Prop},A.handled=none->e≠j->e≠l->l≠j->IsEnum s.heap e j i old->it s.heap j l i->is s.heap l xs->xs[i]?=some x ->
  (∀g tk,IsEnumOut g e j ((i:Int)+1) x s.heap.objs.size->it g j l (i+1)->g.get? s.heap.objs.size=some {cls:=.type "tuple",data:=.seq #[.int i tk,x]}->(∀b o,b≠e->b≠j->s.heap.get? b=some o->g.get? b=some o)->Q (some (.ref s.heap.objs.size)) {s with heap:=g,toks:=tk+1})->wpAny (model prog w) A (pyNext (.ref e)) Q E s
 eend:∀{prog:Program}{w:World}{A:Around}{E:D'}{s:Shared}{e j l:Addr}{xs:O'}{old:Value}{Q:L'->Shared->Prop},A.handled=none->l≠j->IsEnum s.heap e j xs.size old->it s.heap j l xs.size->is s.heap l xs->(∀g,Heap.ExtBut j s.heap g->Q none {s with heap:=g})->wpAny (model prog w) A (pyNext (.ref e)) Q E s
 ecall:∀{X:Cx}{pins:B'}{σ:St}{H:Hp}{s:Shared}{A:Around}{E:D'}{l:Addr}{xs:U'}{Q:D'},Inv X pins σ H s->ent X.K H l xs ->
  (∀g,IsEnum g (s.heap.objs.size+1) s.heap.objs.size 0 .none->it g s.heap.objs.size l 0->g.objs.size=s.heap.objs.size+2->(∀b o,s.heap.get? b=some o->g.get? b=some o)->Q (.ref (s.heap.objs.size+1)) {s with heap:=g})->wpAny (model X.prog X.w) A (call (.type "enumerate") [.ref l]) Q E s
def LK:UZ where
 sq:=Ae
 ent:=λ_ H l xs=>H l=some (.lst xs)
 it:=Heap.IsListIter
 is:=Heap.IsList
 obj:=λ⟨o,e,_,d⟩=>⟨o,e,λv q=>by rw[d] at q;cases q⟩
 keep:=λh k=>h.at k
 get:=λI h=>let ⟨its,r,p,_⟩:=I.list h;⟨its,r,p.isList,let ⟨_,e,_⟩:=p.isList;Bq e⟩
 uniq:=λI h h'=>I.list_inj h h'
 entS:=Ae.of
 zitem:=wpAny_pyNext_zip_item
 zend:=wpAny_pyNext_zip_end
 zcall:=call_zip_2
 eitem:=λ_ n1 _ _ he hi hl hx q=>wpAny_pyNext_enum_item he hi hl hx n1 λg a b c _ k=>q g _ a b c k
 eend:=λhh _ he hi hl q=>wpAny_pyNext_enum_end hh he hi hl (by simp) q
 ecall:=λI hq q=>let ⟨_,_,_,_,e⟩:=I.hok _ _ hq;call_enumerate_1 e q
def TK:UZ where
 sq:=Ar
 ent:=Ar
 it:=Heap.IsTupleIter
 is:=Heap.IsTuple
 obj:=λ⟨o,e,_,d⟩=>⟨o,e,λv q=>by rw[d] at q;cases q⟩
 keep:=λ⟨o,e,r⟩k=>⟨o,k o e,r⟩
 get:=λI h=>let ⟨its,r,p,_⟩:=I.tuple h;⟨its,r,p,let ⟨_,e,_⟩:=p;Bq e⟩
 uniq:=λI h h'=>I.tuple_inj h h'
 entS:=id
 zitem:=λ{_ _ _ _ s z _ _ _ _ _ _ _ _ _ _ _ _ _ _ _}D ez ea eo ei ej tp tq hx hy fin=>by have tz:s.TypeIs (.ref z) "zip" :=⟨_,ez,rfl⟩;unfold pyNext;exact Ad (wpAny_attempt (wpAny_callSpecial?_slot (name:=Str.ofString "__next__") tz F.slot_zip_next (wpAny_call_entry F.slot_zip_next tz F.entry_zip_next (fR D ez ea eo ei ej tp tq hx hy λg a1 a2 a3 a4 a5 a6 a7=>Ax (fin g a1 a2 a3 a4 a5 a6 a7)) (F.args_zip_next_1 _))))
 zend:=λ{_ _ _ _ s z _ _ _ _ _ _ _ _ _ _ _ _ _}hh D ez ea eo ei ej tp tq hend fin=>by have tz:s.TypeIs (.ref z) "zip" :=⟨_,ez,rfl⟩;unfold pyNext;refine Ad (wpAny_attempt (wpAny_callSpecial?_slot (name:=Str.ofString "__next__") tz F.slot_zip_next (wpAny_call_entry F.slot_zip_next tz F.entry_zip_next (fS hh D ez ea eo ei ej tp tq hend λg e hk he=>?_) (F.args_zip_next_1 _))));obtain⟨d,h1,h2⟩:=he;exact Ad (wpAny_isInstance (T:= "StopIteration") (b:=true) ⟨d,h1,h2⟩ isSubtype_stop (Ax (fin _ hk)))
 zcall:=fU
 eitem:=λ{_ _ A _ _ e j l i xs x _ _}hh n1 n2 n3 he hi hl hx q=>by refine wpAny_pyNext_enum_itemD (Iu (A:=A.in1) hh j l n3 xs) he ⟨hi,hl⟩ (Array.getElem?_eq_some_iff.mp hx).1 n1 (by simp;exact⟨n1,n2⟩) λy g tk hy a b c _ k=>?_;rw[hx] at hy;cases hy;exact q g tk a b.1 c k
 eend:=λ{_ _ A _ _ _ j l xs _ _}hh n3 he hi hl q=>wpAny_pyNext_enum_endD (Iu (A:=A.in1) hh j l n3 xs) he ⟨hi,hl⟩ q
 ecall:=λI hq q=>let ⟨_,_,p,_⟩:=I.tuple hq;fQ p q
section
variable (k:UZ)
def Iv (K:Aj) (f lq:Addr):It:=
 ⟨λi H=>∃xs ys x y,k.sq K H f xs/\k.sq K H lq ys/\xs[i]?=some x/\ys[i]?=some y,
  λi H v H'=>∃T x y,H T=none/\v=.ref T/\H'=upd H T (.tup [x,y])/\(∀xs,k.sq K H f xs->xs[i]?=some x)/\∀ys,k.sq K H lq ys->ys[i]?=some y,
  λi H=>∃xs ys,k.sq K H f xs/\k.sq K H lq ys/\(xs.length<=i\/ys.length<=i)⟩
def PZ (z TI TO i1 i2 f lq:Addr) (i:Nat) (h:Heap):Prop:=IsZip h z TI TO .none/\IsPair h TI (.ref i1) (.ref i2)/\(∃a b,IsPair h TO a b)/\k.it h i1 f i/\k.it h i2 lq i
def Iw (K:Aj) (l:Addr):It:=
 ⟨λi H=>∃xs x,k.sq K H l xs/\xs[i]?=some x,
  λi H v H'=>∃T x,H T=none/\v=.ref T/\H'=upd H T (.tup [.int i,x])/\∀xs,k.sq K H l xs->xs[i]?=some x,
  λi H=>∃xs,k.sq K H l xs/\xs.length=i⟩
def P0 (e it l:Addr) (i:Nat) (h:Heap):Prop:=(∃old,IsEnum h e it i old)/\k.it h it l i
variable {k}
variable {f lq:Addr}
def X8{z TI TO d e:Addr}{h:Heap}(st:PZ k z TI TO d e f lq i h):∀b∈[z,TI,TO,d,e],∃o,h.get? b=some o/\∀v,o.data≠.cell v:=λb g=>by obtain⟨j,n,⟨a,c,p⟩,l,m⟩:=st;simp at g;rcases g with rfl|rfl|rfl|rfl|rfl;exact⟨_,j,λv q=>by cases q⟩;exact⟨_,n,λv q=>by cases q⟩;exact⟨_,p,λv q=>by cases q⟩;exact k.obj l;exact k.obj m
def X9{it l:Addr}{h:Heap}(st:P0 k e it l i h):∀b∈[e,it],∃o,h.get? b=some o/\∀v,o.data≠.cell v:=λb a=>by obtain⟨⟨f,c⟩,d⟩:=st;simp at a;rcases a with rfl|rfl;exact⟨_,c,λv q=>by cases q⟩;exact k.obj d
variable {P:Program} {w:World} {K:Aj} {es:P'} {L:Nat} {pos:Pos}
def fV{z TI TO r t:Addr}(D:ZipApart z TI TO r t f lq):F4 P w K (.Tuple es L pos) (Iv k K f lq) [z,TI,TO,r,t] z (PZ k z TI TO r t f lq) where
 mem:=by simp
 obj:=λ_ _ g b d=>X8 g b d
 keep:=λi h h' g L=>by obtain⟨j,l,⟨a,c,q⟩,n,p⟩:=g;exact⟨L z (by simp) _ j,L TI (by simp) _ l,⟨a,c,L TO (by simp) _ q⟩,k.keep n λo e=>L r (by simp) o e,k.keep p λo e=>L t (by simp) o e⟩
 item:=by
  intro X B C F S i ai s σ H E I G g M;subst B C F;obtain⟨Y,Z,x,y,v,A,T,U⟩:=M;have ob:=X8 g;obtain⟨j,l,⟨a,c,q⟩,n,p⟩:=g;obtain⟨aj,O,N,_⟩:=k.get I v;obtain⟨ak,Q,J,_⟩:=k.get I A;obtain⟨V,aa,ab⟩:=O.get T;obtain⟨W,ae,af⟩:=Q.get U;refine k.zitem D j l q n p N J (x:=V) (y:=W) (by simpa using aa) (by simpa using ae) λh' a1 a2 a3 a4 a5 a6 u=>?_;refine⟨_,rfl,wpAny_letOwnedTupleGo_zip (s:={s with heap:=h'}) a1 λag al m=>?_⟩;obtain⟨I2,ah,fr⟩:=I.turnP (t':=s.toks) (h':=ag) G (λb o d e=>by simp at d;exact(m.2 b d.1).trans (u b o d.1 d.2.2.1 d.2.2.2.1 d.2.2.2.2 e)) ob ((m.2 _ (Nat.ne_of_gt (Bq j))).trans a5) ab af
  exact⟨.ref s.heap.objs.size,_,I2,rfl,⟨s.heap.objs.size,x,y,ah,rfl,rfl,λzs R=>by rw[k.uniq I R v];exact T,λzs R=>by rw[k.uniq I R A];exact U⟩,
   ⟨al,m.extBut _ _ D.TIz (u _ _ D.TIz D.TITO D.TIi1 D.TIi2 l),⟨V,W,m.extBut _ _ D.TOz a2⟩,k.keep a3 λo e=>m.extBut _ _ D.i1z e,k.keep a4 λo e=>m.extBut _ _ D.i2z e⟩,fr⟩
 done:=by intro X B C F S i ai s σ H E I G g M;subst B C F;obtain⟨Y,Z,v,A,aq⟩:=M;obtain⟨j,l,⟨a,c,q⟩,n,p⟩:=g;obtain⟨aj,O,N,_⟩:=k.get I v;obtain⟨ak,Q,J,_⟩:=k.get I A;have an:=O.length;have ao:=Q.length;exact k.zend (I.ok.hd S) D j l q n p N J (by simp;lia) λh' u=>⟨rfl,I.turnL (t':=s.toks) G λb o d e=>by simp at d;exact u b o d.1 d.2.2.1 d.2.2.2.1 d.2.2.2.2 e⟩
 self:=λ_ _ _ _ _ g h=>wpAny_pyIter_zip g.1 h
def fW{it l:Addr}(D:e≠it)(U:e≠l)(F:l≠it):F4 P w K (.Tuple es L pos) (Iw k K l) [e,it] e (P0 k e it l) where
 mem:=by simp
 obj:=λ_ _ a b c=>X9 a b c
 keep:=λi h h' a L=>by obtain⟨⟨g,d⟩,f⟩:=a;exact⟨⟨g,L e (by simp) _ d⟩,k.keep f λo x=>L it (by simp) o x⟩
 item:=by intro X m n p q i ab s σ H E I r a t;subst m n p;obtain⟨A,x,j,B⟩:=t;have J:=X9 a;obtain⟨⟨g,d⟩,f⟩:=a;obtain⟨G,v,u,_⟩:=k.get I j;obtain⟨C,V,W⟩:=v.get B;refine k.eitem (I.ok.hd q) D U F d f u (x:=C) (by simpa using V) λh' tk M N O Q=>?_;refine⟨_,rfl,wpAny_letOwnedTupleGo_enum (s:={s with heap:=h',toks:=tk+1}) M λY ae z=>?_⟩;obtain⟨R,Z,S⟩:=I.turnP (t':=tk+1) (h':=Y) (x:=.int i) (y:=x) r (λb o c e=>by simp at c;exact(z.2 b c.1).trans (Q b o c.1 c.2 e)) J ((z.2 _ (Nat.ne_of_gt (Bq d))).trans O) ⟨_,rfl⟩ W;exact⟨.ref s.heap.objs.size,_,R,rfl,⟨s.heap.objs.size,x,Z,rfl,rfl,λzs aa=>by rw[k.uniq I aa j];exact B⟩,⟨⟨C,by simpa using ae⟩,k.keep N λo e=>z.extBut _ _ (Ne.symm D) e⟩,S⟩
 done:=by intro X m n p q i ab s σ H E I r a t;subst m n p;obtain⟨A,j,rfl⟩:=t;obtain⟨⟨g,d⟩,f⟩:=a;obtain⟨G,v,u,_⟩:=k.get I j;rw[show A.length=G.toArray.size by rw[v.length];simp] at d f;exact k.eend (I.ok.hd q) F d f u λh' T=>⟨rfl,I.turnL (t':=s.toks) r λb o c e=>by simp at c;exact T b o c.2 e⟩
 self:=λ_ _ _ _ _ a h=>by obtain⟨⟨g,d⟩,_⟩:=a;exact wpAny_pyIter_enum d h
variable (k)
def M5 (K:Aj) (ta:TA):TI:=λσ H R=>ta σ H λvs Y=>∃l,vs=[.ref l]/\(∃xs,k.ent K Y l xs)/\R (Iw k K l) Y
variable {X:Cx}
def OC{j:Pos}{a:Expr}{d:TA}{p:Pos}(i:Gl X "enumerate")(m:X.mg "enumerate" = none)(n:PA X [a] d)(o:starEach [a] X.env=[(false,eval a X.env)]:=by rfl) :
 PI X (.Tuple es L j) (.Call (.Name "enumerate" p) [a] [] pos) (M5 k X.K d):=by
 intro A s σ H R I h;refine Call_ (Lm I i m (u:=.type "enumerate") (by decide +kernel) (PyProof.Rows.callWith_type1 (AX (n pos A s σ H _ I h) λB b⟨C,Y,c,r,t⟩=>?_) (by rw[o];rfl) (by rfl)));obtain⟨l,rfl,⟨D,e⟩,q⟩:=t;obtain⟨v,rfl,z⟩:=FG r;obtain rfl:v=Value.ref l:=z;obtain⟨_,_,_,f⟩:=k.get c (k.entS e);refine k.ecall c e λw g x E y=>?_;refine wpAny_pyIter_enum (s:={b with heap:=w}) g ?_;exact⟨_,[b.heap.objs.size+1,b.heap.objs.size],_,_,Y,rfl,c.kept (t':=b.toks) y,fW (Nat.succ_ne_self _) (Nat.ne_of_gt (Nat.lt_succ_of_lt f)) (Cz f),⟨⟨_,g⟩,x⟩,c.newFp (by simp),q⟩
variable {k}
def Yb{pins:B'}{a:Shared}{c:Expr}{R:It->Hp->Prop}(e:∃es L pos,c=.Tuple es L pos)(b:Inv X pins σ Y a)(g:∃xs,k.sq X.K Y f xs)(h:∃ys,k.sq X.K Y lq ys)(q:R (Iv k X.K f lq) Y) :
 wpAny (model X.prog X.w) X.A (call (.type "zip") [.ref f,.ref lq]) (λv i=>wpAny (model X.prog X.w) X.A (pyIter v) (TF X pins σ c R) E i) E a:=by
 obtain⟨es,L,pos,rfl⟩:=e;obtain⟨xs,p⟩:=g;obtain⟨ys,r⟩:=h;obtain⟨_,_,j,l⟩:=k.get b p;obtain⟨_,_,J,m⟩:=k.get b r;refine k.zcall j J λn d t u w x y o=>?_;refine wpAny_pyIter_zip (s:={a with heap:=n}) d ?_;exact⟨_,[a.heap.objs.size+4,a.heap.objs.size+2,a.heap.objs.size+3,a.heap.objs.size,a.heap.objs.size+1],_,_,Y,rfl,b.kept (t':=a.toks) o,fV (zipApart_new l m),⟨d,t,⟨_,_,u⟩,w,x⟩,b.newFp (by simp),q⟩
def P1 (K:Aj) (ta:TA):TI:=λσ H R=>ta σ H λvs Y=>∃f lq,vs=[.ref f,.ref lq]/\(((∃xs,Ae K Y f xs)/\(∃ys,Ae K Y lq ys)/\R (Iv LK K f lq) Y)\/((∃xs,Ar K Y f xs)/\(∃ys,Ar K Y lq ys)/\R (Iv TK K f lq) Y))
def Kp{j:Pos}{a b:Expr}{e:TA}{p:Pos}(l:Gl X "zip")(m:X.mg "zip" = none)(n:PA X [a,b] e)(o:starEach [a,b] X.env=[(false,eval a X.env),(false,eval b X.env)]:=by rfl)(i:starEach [b] X.env=[(false,eval b X.env)]:=by rfl) :
 PI X (.Tuple es L j) (.Call (.Name "zip" p) [a,b] [] pos) (P1 X.K e):=by
 intro A s σ H R I h;refine Call_ (Lm I l m (u:=.type "zip") (by decide +kernel) (PyProof.Rows.callWith_type1 (AX (n pos A s σ H _ I h) λB C⟨D,Y,g,r,t⟩=>?_) (by rw[o,i]) (by rw[i];rfl)));obtain⟨f,lq,rfl,v⟩:=t;obtain⟨w,x,rfl,y,z⟩:=Lq r;obtain rfl:w=Value.ref f:=y;obtain rfl:x=Value.ref lq:=z;rcases v with⟨c,d,q⟩|⟨c,d,q⟩;exact Yb (k:=LK) ⟨_,_,_,rfl⟩ g c d q;exact Yb (k:=TK) ⟨_,_,_,rfl⟩ g c d q
variable {g:TG} {tb:TS} {D:Ends} {σ:St} {H:Hp}
variable (k)
def Yc{xs ys:U'}(Pv:Nat->St->Hp->Prop)(b:Pv 0 σ H)(a:∀i σ H,Pv i σ H->k.sq K H f xs/\k.sq K H lq ys)
 (c:∀i x y T σ H,xs[i]?=some x->ys[i]?=some y->H T=none->Pv i σ H->g (.ref T) σ (upd H T (.tup [x,y])) λσ2 d=>tb {D with nx:=Pv (i+1),ct:=Pv (i+1),bk:=D.nx} σ2 d) (hd:∀σ H,Pv (min xs.length ys.length) σ H->D.nx σ H):FF (Iv k K f lq) g tb D σ H:=by
 refine Oc (min xs.length ys.length) Pv b (λi σ H p e=>?_) (λσ H p=>⟨xs,ys,(a _ σ H p).1,(a _ σ H p).2,by lia⟩) (λi v σ H H' p e y=>?_) hd;have h:i<xs.length:=(by lia);have j:i<ys.length:=(by lia);exact⟨xs,ys,xs[i],ys[i],(a i σ H p).1,(a i σ H p).2,by simp[h],by simp[j]⟩;obtain⟨T,x,l,m,rfl,rfl,n,o⟩:=y;exact c i x l T σ H (n xs (a i σ H p).1) (o ys (a i σ H p).2) m p
def RH{l:Addr}{xs:U'}(Pv:Nat->St->Hp->Prop)(c:Pv 0 σ H)(a:∀i σ H,Pv i σ H->k.sq K H l xs)
 (d:∀i x T σ H,xs[i]?=some x->H T=none->Pv i σ H->g (.ref T) σ (upd H T (.tup [.int i,x])) λσ2 e=>tb {D with nx:=Pv (i+1),ct:=Pv (i+1),bk:=D.nx} σ2 e) (hd:∀σ H,Pv xs.length σ H->D.nx σ H):FF (Iw k K l) g tb D σ H:=by
 refine Oc xs.length Pv c (λi σ H p b=>⟨xs,xs[i],a i σ H p,by simp[b]⟩) (λσ H p=>⟨xs,a _ σ H p,rfl⟩) (λi v σ H H' p b y=>?_) hd;obtain⟨T,x,f,rfl,rfl,h⟩:=y;exact d i x T σ H (h xs (a i σ H p)) f p
end
mutual
inductive A9 (F:Addr->Prop) (H:Hp):V->Dt->Prop where
 | non:A9 F H .non .non
 | bl (b:Bool):A9 F H (.bl b) (.bl b)
 | int (i:Int):A9 F H (.int i) (.int i)
 | str (x:Str):A9 F H (.str x) (.str x)
 | tup {a:Addr} {vs:U'} {ds:List Dt} (h:H a=some (.tup vs)) (t:AA F H vs ds):A9 F H (.ref a) (.tup ds)
 | lst {a:Addr} {vs:U'} {ds:List Dt} (h:H a=some (.lst vs)) (f:F a) (t:AA F H vs ds):A9 F H (.ref a) (.lst ds)
inductive AA (F:Addr->Prop) (H:Hp):U'->List Dt->Prop where
 | nil:AA F H [] []
 | cons {v:V} {d:Dt} {vs:U'} {ds:List Dt} (h:A9 F H v d) (t:AA F H vs ds):AA F H (v :: vs) (d :: ds)
end
mutual
theorem A9.go {F G:Addr->Prop}{H H':Hp} (e:∀ a vs,H a=some (.tup vs)->H' a=some (.tup vs)) (l:∀ a vs,H a=some (.lst vs)->F a->H' a=some (.lst vs)/\G a) {v:V} {d:Dt} (h:A9 F H v d):A9 G H' v d:=by
 cases h with| non=>exact .non| bl b=>exact .bl b| int i=>exact .int i| str x=>exact .str x| tup h t=>exact .tup (e _ _ h) (AA.go e l t)| lst h f t=>exact .lst (l _ _ h f).1 (l _ _ h f).2 (AA.go e l t)
theorem AA.go {F G:Addr->Prop}{H H':Hp} (e:∀ a vs,H a=some (.tup vs)->H' a=some (.tup vs)) (l:∀ a vs,H a=some (.lst vs)->F a->H' a=some (.lst vs)/\G a) {vs:U'} {b:List Dt} (h:AA F H vs b):AA G H' vs b:=by
 cases h with| nil=>exact .nil| cons h t=>exact .cons (A9.go e l h) (AA.go e l t)
end
mutual
theorem A9.dt {K:Aj}{F:Addr->Prop}{H:Hp}{v:V}{d:Dt} (h:A9 F H v d):Aq K H v d:=by
 cases h with| non=>exact .non| bl b=>exact .bl b| int i=>exact .int i| str x=>exact .str x| tup h t=>exact .tup (Ar.of h) (AA.dts t)| lst h f t=>exact .lst (Ae.of h) (AA.dts t)
theorem AA.dts {K:Aj}{F:Addr->Prop}{H:Hp}{vs:U'}{a:List Dt} (h:AA F H vs a):Ak K H vs a:=by
 cases h with| nil=>exact .nil| cons h t=>exact .cons (A9.dt h) (AA.dts t)
end
section
variable {F G M:Addr->Prop} {H H':Hp} {v:V} {d:Dt} {vs us:U'} {ds es:List Dt}
def A9.same(s:Ac H H')(h:A9 F H v d):A9 F H' v d:=h.go (λ_ _ q=>s _ _ q) λ_ _ q f=>⟨s _ _ q,f⟩
def AA.same(s:Ac H H')(h:AA F H vs ds):AA F H' vs ds:=h.go (λ_ _ q=>s _ _ q) λ_ _ q f=>⟨s _ _ q,f⟩
def AA.keeps(k:Keeps M H H')(a:∀x,F x->¬M x)(h:AA F H vs ds):AA F H' vs ds:=h.go (λ_ _ q=>k.tup q) λ_ _ q f=>⟨k.at_ _ _ q (a _ f),f⟩
def A9.mono(e:∀x o,H x=some o->F x->G x)(h:A9 F H v d):A9 G H v d:=h.go (λ_ _ q=>q) λ_ _ q f=>⟨q,e _ _ q f⟩
def AA.mono(e:∀x o,H x=some o->F x->G x)(h:AA F H vs ds):AA G H vs ds:=h.go (λ_ _ q=>q) λ_ _ q f=>⟨q,e _ _ q f⟩
theorem AA.length:∀{vs:U'}{ds:List Dt},AA F H vs ds->vs.length=ds.length
 |_,_,.nil=>rfl
 |_,_,.cons _ t=>by rw[D9,D9,AA.length t]
theorem AA.snoc:∀{vs:U'}{ds:List Dt},AA F H vs ds->A9 F H v d->AA F H (vs++[v]) (ds++[d])
 |_,_,.nil,h=>.cons h .nil
 |_,_,.cons a t,h=>.cons a (AA.snoc t h)
theorem AA.get:∀{vs:U'}{ds:List Dt}{i:Nat}{v:V},AA F H vs ds->vs[i]?=some v->∃d,ds[i]?=some d/\A9 F H v d
 |_,_,i,v,.nil,e=>by simp at e
 |_,_,0,v,.cons a t,e=>by simp at e;subst e;exact⟨_,rfl,a⟩
 |_,_,i+1,v,.cons a t,e=>by obtain⟨d,b,c⟩:=AA.get (i:=i) t (by simpa using e);exact⟨d,by simpa using b,c⟩
theorem AA.of_all{α:Type}{f:α->V}{g:α->Dt}:∀{l:List α},(∀x∈l,A9 F H (f x) (g x))->AA F H (l.map f) (l.map g)
 |[],_=>.nil
 |x::l,h=>.cons (h x Bg) (AA.of_all λy a=>h y (BQ _ a))
end
theorem U0{α:Type}{f:α->U'}{D:α->Dt}{F:Addr->Prop}{H:Hp}(d:∀(r:α)(t:Addr),H t=some (.tup (f r))->A9 F H (.ref t) (D r)):∀{ts:I'}{c:List α},RT f H ts c->AA F H (ts.map V.ref) (c.map D)
 |[],[],_=>.nil
 |[],_::_,h=>by have:=h.len;simp at this
 |_::_,[],h=>by have:=h.len;simp at this
 |t::ts,r::c,h=>.cons (d r t (h.at_ 0 t r rfl rfl)) (U0 d ⟨by simpa using h.len,λn a b e g=>h.at_ (n+1) a b (by simpa using e) (by simpa using g)⟩)
variable {F:Addr->Prop}
def Ix(r:Ao)(t:Addr)(h:H t=some (.tup (Hg r))):A9 F H (.ref t) (Ru r):=.tup h (.cons (.int _) (.cons (.str _) (.cons (.int _) .nil)))
def CQ.own{t:Addr}(h:CQ F H t w):A9 F H (.ref t) (CD.D w):=by obtain⟨d,a,b,c⟩:=h;exact .lst a c (U0 Ix b)
variable {b:AK}
def DP.own{t:Addr}(h:DP F H t b):A9 F H (.ref t) (DX.D b):=by obtain⟨l,f,a,c,d,e⟩:=h;exact .tup a (.cons (.lst c e (U0 Ix d)) (.cons (.int _) (.cons (.int _) .nil)))
def LJ (ss:List Bo) (m:Ao):Dg:=match ss[m.1.toNat]? with
 |some s=>(match s.2[m.2.2.toNat]? with
   |some p=>p
   |none=>default)
 |none=>default
def RI{k:Nat}{s:Bo}{p:Dg}(a:m.1=(n:Int))(b:m.2.2=(k:Int))(c:ss[n]?=some s)(d:s.2[k]?=some p):LJ ss m=p:=by unfold LJ;rw[a,b,Bn,Bn,c];dsimp only;rw[d]
def Cp (ss:List Bo) (w:X'):Dg:=match w.getLast? with
 |some m=>LJ ss m
 |none=>default
def CV (ss:List Bo) (w:X'):Prop:=∃(v:X')(m:Ao),w=v++[m]/\EK ss m/\m.2.1=o6
def OD(ss:List Bo)(v:X')(m:Ao):Cp ss (v++[m])=LJ ss m:=by unfold Cp;rw[List.getLast?_concat]
def D0 (W:Wd) (w:X'):M':=if(Cp W.ss w).2.2.1=n7/\W.as[(Cp W.ss w).2.2.2.toNat]?=some none then some (Cp W.ss w).2.2.2 else none
def Fi (W:Wd):W'->Option Ow
 |[]=>none
 |w::ws=>match D0 W w with
   |some q=>some (w,q)
   |none=>Fi W ws
def Bh (W:Wd) (w:X'):M':=if(Cp W.ss w).2.2.1=f' then some (Cp W.ss w).2.2.2 else match W.as[(Cp W.ss w).2.2.2.toNat]? with
 |some (some p)=>if p.1=f' then some p.2 else none
 |_=>none
noncomputable def E6 (ss:List Bo) (ord:A') (ws:W'):Δ->Option Ow
 |[]=>none
 |o::os=>if(ws.any λv=>BH ss ord v o.1)=true then E6 ss ord ws os else some o
abbrev Wt:Type:=Int×List Ao×Int
abbrev Iy:Option Wt->Dt
 |none=>.non
 |some p=>.tup [.int p.1,CD.D p.2.1,.int p.2.2]
def Kq:M'->Dt
 |none=>.non
 |some n=>.int n
noncomputable def DQ (W:Wd) (ord:A') (ws:W') (os:Δ):Option Ow:=match E6 W.ss ord ws os with
 |some o=>some o
 |none=>Fi W (Cg W.ss ord ws ws)
def Cq (W:Wd) (C:W') (at_:Int):Str×Int:=if ∀w∈C,Bh W w=none then("none",at_) else match C with
 |[]=>("none",at_)
 |w::_=>(match Bh W w with
   |some n=>if ∀v∈C,Bh W v=some n then("thing",n) else("torn",at_)
   |none=>("torn",at_))
noncomputable def BC (W:Wd) (ord:A') (ws:W') (os:Δ) (at_:Int):C'×Option Wt:=match DQ W ord ws os with
 |some o=>(none,some (at_,o.1,o.2))
 |none=>(some (Cq W (Cg W.ss ord ws ws) at_),none)
variable {W:Wd}{os:Δ}{at_:Int}{o:Ow}
def LL{ws:W'}(h:DQ W ord ws os=some o):BC W ord ws os at_=(none,some (at_,o.1,o.2)):=by unfold BC;rw[h]
def Iz{ws:W'}(h:DQ W ord ws os=none):BC W ord ws os at_=(some (Cq W (Cg W.ss ord ws ws) at_),none):=by unfold BC;rw[h]
def Yd{ws:W'}(h:DQ W ord ws os=none):Fi W (Cg W.ss ord ws ws)=none:=by
 unfold DQ at h;cases e:E6 W.ss ord ws os with|some o=>rw[e] at h;cases h|none=>rw[e] at h;exact h
variable {C:W'}
def RJ(h:∀w∈C,Bh W w=none):Cq W C at_=(p0,at_):=Ag h
variable {r:W'}
def P4(h:¬∀v∈w::r,Bh W v=none)(k:¬∀v∈w::r,Bh W v=Bh W w):Cq W (w::r) at_=(p2,at_):=by
 unfold Cq;rw[Ah h];dsimp only;cases e:Bh W w with|none=>rfl|some n=>rw[e] at k;exact Ah k
def P5(h:¬∀v∈w::r,Bh W v=none)(k:∀v∈w::r,Bh W v=Bh W w):∃n,Bh W w=some n/\Cq W (w::r) at_=(f',n):=by
 cases e:Bh W w with|none=>exact absurd (λv a=>by rw[k v a,e]) h|some n=>refine⟨n,rfl,?_⟩;unfold Cq;rw[Ah h];dsimp only;rw[e];exact Ag λv a=>by rw[k v a,e]
def Ye{a b:M'}(h:Eo a=Eo b):a=b:=by cases a<;>cases b<;>first|rfl|(cases h;rfl)|cases h
def Kr{a:M'}:Eo a=.non↔a=none:=⟨λh=>Ye (b:=none) h,λh=>by rw[h];rfl⟩
def fX(a b:M'):Mu (Eo a) (Eo b)=true:=by cases a<;>cases b<;>rfl
def Gd:(((l.map λw=>Eo (Bh W w)).map λv=>decide (v=V.non)).all id=true)↔∀w∈l,Bh W w=none:=by simp only[List.all_map,List.all_eq_true,Function.comp,id,decide_eq_true_eq,Kr]
def IA:(((l.map λw=>Eo (Bh W w)).map λv=>!decide (v=Eo (Bh W w))).any id=true)↔¬∀v∈l,Bh W v=Bh W w:=by simp only[List.any_map,Gv,Function.comp,id,Bool.not_eq_true',decide_eq_false_iff_not];refine⟨λ⟨v,a,b⟩h=>b (by rw[h v a]),λh=>?_⟩;refine p9 λn=>h λv c=>?_;exact p9 λm=>n ⟨v,c,λz=>m (Ye z)⟩
abbrev Lk:Type:=List AK×List (List Ao)×List (List Ao)
abbrev Γ:=List Lk
abbrev OE (l:Lk):Dt:=.tup [.lst (l.1.map DX.D),.lst (l.2.1.map CD.D),.lst (l.2.2.map CD.D)]
structure Cr (W:Wd) (ord:A') (sc st:Int) (x:Str) (l:Lk) (os:Δ):Prop where
 b:Dw W sc st l.1
 f:OA W x l.1 l.2.1
 s:l.2.2=Cg W.ss ord l.2.1 l.2.1
 o:PR W l.1 os
abbrev Cd (W:Wd) (n:Int):Str×Int:=match W.gs[n.toNat]? with
 |some p=>Df W.gs W.as p
 |none=>("no",0)
inductive LU (W:Wd) (inn:Int) (ord:A'):Int->Int->J'->Int->C'->Option Wt->Γ->F'->Prop where
 |stop {sc st:Int} {x:Str} {r:J'} {at_:Int} {l:Lk} {os:Δ} {a:C'} {w:Option Wt} (h:Cr W ord sc st x l os) (e:BC W ord l.2.1 os at_=(a,w)) (n:(∀k,a≠some (f',k))\/r=[]):LU W inn ord sc st (x::r) at_ a w [l] []
 |opn {sc st:Int} {x y:Str} {r:J'} {at_:Int} {l:Lk} {os:Δ} {n q:Int} {w:Option Wt} (h:Cr W ord sc st x l os) (e:BC W ord l.2.1 os at_=(some (f',n),w)) (i:Cd W n=(n5,q)):LU W inn ord sc st (x::y::r) at_ none (some (at_,[],q)) [l] [n]
 |no {sc st:Int} {x y:Str} {r:J'} {at_:Int} {l:Lk} {os:Δ} {n q:Int} {w:Option Wt} (h:Cr W ord sc st x l os) (e:BC W ord l.2.1 os at_=(some (f',n),w)) (i:Cd W n=(o4,q)):LU W inn ord sc st (x::y::r) at_ (some ("none",at_+1)) none [l] [n]
 |go {sc st:Int} {x y:Str} {r:J'} {at_:Int} {l:Lk} {os:Δ} {n q:Int} {w w':Option Wt} {a:C'} {ls:Γ} {ts:F'} (h:Cr W ord sc st x l os) (e:BC W ord l.2.1 os at_=(some (f',n),w)) (i:Cd W n=(j',q)) (k:LU W inn ord q inn (y::r) (at_+1) a w' ls ts):LU W inn ord sc st (x::y::r) at_ a w' (l::ls) (n::ts)
variable {sc st:Int}{x:Str}
def U4(ok:BS W)(e:0<=sc/\sc<W.ss.length)(f:0<=st/\st<W.sts.length){bs:Y'}(c:Dw W sc st bs)(a:w∈DY W x bs):CV W.ss w:=by have d:=(Rx ok e f c a).1;obtain⟨b,g,j,q,h,_,_,rfl⟩:=UL a;exact⟨b.1,_,rfl,d _ (by simp),rfl⟩
def OF{all:W'}(h:w∈Cg ss ord all l):w∈l:=(JC.mp h).1
def M6(c:Bd W)(h:CV W.ss w):Kb W.gs.length W.as.length (Cp W.ss w):=by obtain⟨v,m,rfl,⟨n,k,s,d,f,a,g⟩,i⟩:=h;rcases g with⟨e,_⟩|⟨_,b⟩;exact absurd (i.symm.trans e) UO;rw[OD,RI d f a (AD b)];exact c.tl s (Bf a) _ (Ez b)
def Yg{l:Addr}{v:X'}(h:CQ F H l (v++[m])):∃(a:I')(t:Addr),H l=some (.lst (a.map V.ref))/\Bm (a.map V.ref) (-1)=some (.ref t)/\H t=some (.tup (Hg m)):=by
 obtain⟨a,f,b,_⟩:=h;have g:=b.len;rw[A1,D8] at g;have d:v.length<a.length:=(by lia);have i:=AD d;refine⟨a,a[v.length],f,?_,b.at_ v.length _ m i (by simp)⟩
 have e:a.map V.ref=(a.take v.length).map V.ref++[V.ref a[v.length]]:=by
  have:a=a.take v.length++[a[v.length]]:=(by have c:=List.take_append_drop v.length a;rw[NV d,List.drop_eq_nil_of_le (by lia)] at c;exact c.symm)
  conv=>lhs;rw[this]
  rw[Ba];rfl
 rw[e];exact UK _ _
def U7 (F:Addr->Prop) (H:Hp) (v:V):Option Ow->Prop
 |none=>v=.non
 |some o=>∃p l,v=.ref p/\H p=some (.tup [.ref l,.int o.2])/\CQ F H l o.1
def FX.way{t:Addr}{p:Ow}(h:FX F H t p):∃l,H t=some (.tup [.ref l,.int p.2])/\CQ F H l p.1:=by obtain⟨l,a,b,c,d,e⟩:=h;exact⟨l,b,a,c,d,e⟩
variable {α:Type}
def Va{l:List α}{x:α}(h:l[i]?=some x):l.drop i=x::l.drop (i+1):=by obtain⟨a,rfl⟩:=AV.mp h;exact NV a
def RK{ws:W'}(h:(ws.any λv=>BH ss ord v o.1)=false):E6 ss ord ws (o::os)=some o:=by unfold E6;rw[h,Ah CA]
def RL{ws:W'}(h:(ws.any λv=>BH ss ord v o.1)=true):E6 ss ord ws (o::os)=E6 ss ord ws os:=by
 conv=>lhs;unfold E6
 rw[h,Ag rfl]
variable {q:Int}
def Vb{ws:W'}(h:D0 W w=some q):Fi W (w::ws)=some (w,q):=by unfold Fi;rw[h]
def P6{ws:W'}(h:D0 W w=none):Fi W (w::ws)=Fi W ws:=by
 conv=>lhs;unfold Fi
 rw[h]
theorem Vc{W:Wd}:∀{ws:W'},Fi W ws=none->∀w∈ws,D0 W w=none
 |[],_,w,h=>by cases h
 | x :: ws,e,w,h=>by
   cases ex:D0 W x with
   |some q=>rw[Vb ex] at e;cases e
   |none=>rw[P6 ex] at e;rcases B1.mp h with rfl|h;exact ex;exact Vc e w h
def A9.two{m:Addr}{d e:Dt}(h:A9 F H (.ref m) (.tup [d,e])):∃x y,H m=some (.tup [x,y])/\A9 F H x d/\A9 F H y e:=by
 cases h with
 | tup h t=>
  cases t with
  |cons a t=>
   cases t with
   |cons b t=>
    cases t with|nil=>exact⟨_,_,h,a,b⟩
def A9.ansN(h:A9 F H v (B4 none)):v=.non:=by cases h;rfl
def A9.ansS{p:Str×Int}(h:A9 F H v (B4 (some p))):∃t,v=.ref t/\H t=some (.tup [.str p.1,.int p.2]):=by
 have c:A9 F H v (.tup [.str p.1,.int p.2]):=h;cases v with|ref m=>obtain⟨x,y,e,a,b⟩:=c.two;cases a;cases b;exact⟨m,rfl,e⟩|_=>cases c
def P7:p0≠f':=by decide +kernel
def RM:p2≠f':=by decide +kernel
set_option tactic.hygienic true in
def fY{n:Int}(h:Cq W C at_=(f',n)):∃w∈C,Bh W w=some n:=by unfold Cq at h;split at h;exact absurd (Bw Prod.fst h) P7;split at h;exact absurd (Bw Prod.fst h) P7;rename_i w r _;split at h;rename_i m a;split at h;refine⟨w,Bg,?_⟩;have e:m=n:=Bw Prod.snd h;rw[a,e];exact absurd (Bw Prod.fst h) RM;exact absurd (Bw Prod.fst h) RM
set_option tactic.hygienic true in
def fZ(ok:BS W)(b:Bd W)(c:CV W.ss w){n:Int}(h:Bh W w=some n):0<=n/\n<W.gs.length:=by have tk:=M6 b c;unfold Bh at h;split at h;rename_i d;have e:=Bt h;rcases tk with⟨_,f⟩|⟨a,_⟩;rw[<-e];exact f;rw[d] at a;exact absurd a (by decide +kernel);split at h;rename_i p g;split at h;rename_i i;rw[<-Bt h];exact ok.an p (Bf g) i;cases h;cases h
def Jt(ok:BS W)(a:Bd W){ws:W'}{n:Int}{w:Option Wt}(b:∀w∈ws,CV W.ss w)(h:BC W ord ws os at_=(some (f',n),w)):0<=n/\n<W.gs.length:=by unfold BC at h;split at h;cases Bw Prod.fst h;obtain⟨w,c,d⟩:=fY (Bt (Bw Prod.fst h));exact fZ ok a (b w (OF c)) d
def f0(ths:K')(as:List (C'))(q:Int):(Ec ths as q).1=j'\/(Ec ths as q).1=n5\/(Ec ths as q).1=o4:=by unfold Ec;split;split;split;split;exact .inl rfl;exact .inr (.inr rfl);exact .inr (.inr rfl);exact .inr (.inr rfl);exact .inr (.inl rfl);exact .inr (.inr rfl)
def f5(ths:K')(as:List (C'))(p:Str×Int):(Df ths as p).1=j'\/(Df ths as p).1=n5\/(Df ths as p).1=o4:=by unfold Df;split;exact .inl rfl;split;exact f0 ths as p.2;exact .inr (.inr rfl)
structure LC (K:Aj) (F:Addr->Prop) (H:Hp) (nt A t:Addr) (W:Wd) (qs:Z') (inn:Int) (ord:A'):Prop where
 net:∃(S T R:Addr)(us Gs Es ts qt:I'),H nt=some (.tup [.ref S,.ref T,.ref R])/\FJ H S T R us Gs Es ts qt W.ss W.gs qs
 ans:Hy K H A W.as
 tab:Go K F H t W.sts inn ord
structure LM (W:Wd) (qs:Z') (inn:Int) (ord:A'):Prop where
 ok:BS W
 sm:Bd W
 ol:ord.length<=40
 irr:∀x,(x,x)∉ord
 inn:0<=inn/\inn<W.sts.length
 q:∀q∈qs,(0<=q.1/\q.1<W.ss.length)/\(0<=q.2.1/\q.2.1<W.sts.length)/\1<=q.2.2.length/\q.2.2.length<=8
def LC.same{K:Aj}{F:Addr->Prop}{H H':Hp}{a A t:Addr}{W:Wd}{qs:Z'}{inn:Int}{ord:A'}(e:Ac H H')(h:LC K F H a A t W qs inn ord):LC K F H' a A t W qs inn ord:=by obtain⟨⟨S,T,R,d,f,g,i,j,k,l⟩,b,c⟩:=h;exact⟨⟨S,T,R,d,f,g,i,j,e _ _ k,l.same e⟩,b.same e,c.same e⟩
variable {inn:Int}
def LC.caseH{K:Aj}{a A t:Addr}{qs:Z'}(h:LC K F H a A t W qs inn ord):Bv K H a A t W:=by obtain⟨⟨S,T,R,d,e,f,g,i,j,k⟩,b,c⟩:=h;exact⟨⟨S,T,R,d,e,f,g,i,qs,j,k⟩,b,c.caseT⟩
variable {a:C'}{ls:Γ}{ts:F'}
def M7{p:J'}{w:Option Wt}(h:LU W inn ord sc st p at_ a w ls ts):ls.length<=p.length:=by
 induction h with|stop=>simp|opn=>simp|no=>simp|go _ _ _ _ b=>simpa using b
def Dn:Nat->Dt->Prop
 |0,_=>False
 |_+1,.non=>True
 |_+1,.bl _=>False
 |_+1,.int _=>True
 |_+1,.str _=>True
 |n+1,.tup l=>∀d∈l,Dn n d
 |n+1,.lst l=>∀d∈l,Dn n d
structure P8 (W:Wd):Prop where
 st:∀s∈W.ss,s.1.length<=8
 kst:∀s∈W.ss,∀p∈s.1,Ka W.ss.length W.as.length p
 kth:∀p∈W.gs,PK W.ss.length W.as.length p
 an:∀p,some p∈W.as->p.1=f'->0<=p.2/\p.2<W.gs.length
 go:∀s∈W.sts,∀p∈s.1,0<=p.2/\p.2<W.sts.length
theorem Yh{α:Type} [DecidableEq α]:∀{F l:List α},F.Nodup->(∀x∈F,x∈l)->F.length<=l.length
 |[],_,_,_=>Dp _
 |x::F,l,c,h=>by
   have a:=h x Bg;obtain⟨d,f⟩:=F0.mp c
   have:=Yh (l:=l.erase x) f λy b=>by
    have g:y≠x:=λe=>d (e▸b);exact(List.mem_erase_of_ne g).mpr (h y (BQ _ b))
   rw[List.length_erase_of_mem a] at this;have i:0<l.length:=List.length_pos_of_mem a;rw[D9];lia
theorem Yi{α:Type}{f:AK->List α}{k:Nat}:∀(bs:Y'),(∀b∈bs,(f b).length<=k)->(bs.flatMap f).length<=bs.length*k
 |[],_=>by simp
 |b::bs,h=>by rw[List.flatMap_cons,A1,D9,Nat.succ_mul];have:=h b Bg;have:=Yi bs λc a=>h c (BQ _ a);lia
variable {us:Δ}
def RN{l m:Lk}(h:Cr W ord sc st x l os)(k:Cr W ord sc st x m us):l=m/\os=us:=by have a:=h.b.uniq k.b;have b:=h.f;have c:=h.o;rw[a] at b c;have d:=b.uniq k.f;have e:l.2.2=m.2.2:=(by rw[h.s,k.s,d]);exact⟨Prod.ext a (Prod.ext d e),c.uniq k.o⟩
def LU.inv{r:J'}{w:Option Wt}(k:LU W inn ord sc st (x::r) at_ a w ls ts):∃l os,Cr W ord sc st x l os /\
 (∀b d,BC W ord l.2.1 os at_=(b,d)->((∀k,b≠some (f',k))\/r=[])->b=a/\d=w/\ls=[l]/\ts=[]) /\
 ∀n d,BC W ord l.2.1 os at_=(some (f',n),d)->r≠[]->∀s q,Cd W n=(s,q)->(s=n5->a=none/\w=some (at_,[],q)/\ls=[l]/\ts=[n])/\(s=o4->a=some (p0,at_+1)/\w=none/\ls=[l]/\ts=[n])/\(s=j'->∃p t,LU W inn ord q inn r (at_+1) a w p t/\ls=l::p/\ts=n::t):=by
 have g:n5≠o4:=(by decide +kernel);have j:n5≠j':=(by decide +kernel);have o:o4≠j':=(by decide +kernel);cases k with|stop h e n=>exact⟨_,_,h,λb d c _=>(by rw[e] at c;cases c;exact⟨rfl,rfl,rfl,rfl⟩),λm d c u=>(by rw[e] at c;cases c;exact(n.elim (λn=>n _ rfl) u).elim)⟩|opn h e i=>exact⟨_,_,h,λb d c n=>(by rw[e] at c;cases c;exact(n.elim (λn=>n _ rfl) nofun).elim),λm d c _ s q f=>(by rw[e] at c;cases c;rw[i] at f;cases f;exact⟨λ_=>⟨rfl,rfl,rfl,rfl⟩,λz=>absurd z g,λz=>absurd z j⟩)⟩|no h e i=>exact⟨_,_,h,λb d c n=>(by rw[e] at c;cases c;exact(n.elim (λn=>n _ rfl) nofun).elim),λm d c _ s q f=>(by rw[e] at c;cases c;rw[i] at f;cases f;exact⟨λz=>absurd z.symm g,λ_=>⟨rfl,rfl,rfl,rfl⟩,λz=>absurd z o⟩)⟩|go h e i k=>exact⟨_,_,h,λb d c n=>(by rw[e] at c;cases c;exact(n.elim (λn=>n _ rfl) nofun).elim),λm d c _ s q f=>(by rw[e] at c;cases c;rw[i] at f;cases f;exact⟨λz=>absurd z.symm j,λz=>absurd z.symm o,λ_=>⟨_,_,k,rfl,rfl⟩⟩)⟩
def Ks{p:J'}{w:Option Wt}(h:LU W inn ord sc st p at_ a w ls ts):∀{d:C'}{f:Option Wt}{g:Γ}{j:F'},LU W inn ord sc st p at_ d f g j->a=d/\w=f/\ls=g/\ts=j:=by
 induction h with|stop h e n=>intro d f g j k;obtain⟨l,os,b,c,_⟩:=k.inv;obtain⟨rfl,rfl⟩:=RN h b;obtain⟨rfl,rfl,rfl,rfl⟩:=c _ _ e n;exact⟨rfl,rfl,rfl,rfl⟩|opn h e i=>intro d f g j k;obtain⟨l,os,b,_,c⟩:=k.inv;obtain⟨rfl,rfl⟩:=RN h b;obtain⟨rfl,rfl,rfl,rfl⟩:=(c _ _ e nofun _ _ i).1 rfl;exact⟨rfl,rfl,rfl,rfl⟩|no h e i=>intro d f g j k;obtain⟨l,os,b,_,c⟩:=k.inv;obtain⟨rfl,rfl⟩:=RN h b;obtain⟨rfl,rfl,rfl,rfl⟩:=(c _ _ e nofun _ _ i).2.1 rfl;exact⟨rfl,rfl,rfl,rfl⟩|go h e i u m=>intro d f g j k;obtain⟨l,os,b,_,c⟩:=k.inv;obtain⟨rfl,rfl⟩:=RN h b;obtain⟨_,_,o,rfl,rfl⟩:=(c _ _ e nofun _ _ i).2.2 rfl;obtain⟨q,r,s,t⟩:=m o;exact⟨q,r,by rw[s],by rw[t]⟩
section
variable {ss:List Bo} {ord:A'}
def IB{p:Prop}(h:dec p=true):p:=by by_cases e:p;exact e;rw[EV e] at h;cases h
theorem Yj(j:∀x,(x,x)∉ord)(tr:∀x y z,(x,y)∈ord->(y,z)∈ord->(x,z)∈ord):∀(a b c:X'),BH ss ord a b=true->BH ss ord b c=true->BH ss ord a c=true
 |x::s,y::t,z::u,d,f=>by by_cases h:x=y;subst h;rw[LG] at d;by_cases g:x=z;subst g;rw[LG] at f ⊢;exact Yj j tr s t u d f;rw[Jr ss ord _ _ g] at f ⊢;exact f;rw[Jr ss ord _ _ h] at d;by_cases g:y=z;subst g;rw[Jr ss ord _ _ h];exact d;rw[Jr ss ord _ _ g] at f;have i:=tr _ _ _ (IB d) (IB f);have k:x≠z:=λe=>j _ (by rw[<-e] at i;exact i);rw[Jr ss ord _ _ k];exact Eu i
 |[],_,_,d,_=>by rw[Js ss ord (.inl rfl)] at d;cases d
 |_::_,[],_,d,_=>by rw[Js ss ord (.inr rfl)] at d;cases d
 |_::_,_::_,[],_,f=>by rw[Js ss ord (.inr rfl)] at f;cases f
end
structure Later (as as':List (C')):Prop where
 len:as'.length=as.length
 old:∀(n:Nat)(p:Str×Int),as[n]?=some (some p)->as'[n]?=some (some p)
section
variable {ths:K'} {as as':List (C')}
def RO(h:Later as as')(e:as[n]?=none):as'[n]?=none:=by rw[List.getElem?_eq_none_iff] at e ⊢;rw[h.len];exact e
def f6(h:Later as as')(a:(Ec ths as q).1≠n5):Ec ths as' q=Ec ths as q:=by
 unfold Ec at a ⊢
 cases e:as[q.toNat]? with
 |none=>rw[RO h e]
 |some o=>
  cases o with|none=>rw[e] at a;exact absurd rfl a|some p=>rw[h.old _ _ e]
def Yk(h:Later as as'){k:Str×Int}(c:(Df ths as k).1≠n5):Df ths as' k=Df ths as k:=by unfold Df at c ⊢;by_cases a:k.1=o5;rw[Ag a,Ag a];rw[Ah a] at c;rw[Ah a,Ah a];by_cases b:k.1=o8;rw[Ag b] at c;rw[Ag b,Ag b];exact f6 h c;rw[Ah b,Ah b]
def Vd(h:Later as as'){p:Ci}(a:(Bu ths as p).1≠n5):Bu ths as' p=Bu ths as p:=by
 unfold Bu at a ⊢;by_cases b:p.2.1=j';rw[Ag b,Ag b];rw[Ah b] at a;rw[Ah b,Ah b]
 cases e:as[p.2.2.toNat]? with
 |none=>rw[RO h e]
 |some o=>
  cases o with
  |none=>rw[e] at a;exact absurd rfl a
  |some w=>
   rw[h.old _ _ e];rw[e] at a;dsimp only at a ⊢;by_cases c:w.1=f';rw[Ag c] at a;rw[Ag c,Ag c]
   cases d:ths[w.2.toNat]? with
   |none=>rfl
   |some k=>rw[d] at a;exact Yk h a
   rw[Ah c,Ah c]
def f7(h:Later as as'){p:Ci}(a:(Bu ths as' p).1=n5):(Bu ths as p).1=n5:=by by_cases e:(Bu ths as p).1=n5;exact e;rw[Vd h e] at a;exact a
end
abbrev Wd.late (W:Wd) (as':List (C')):Wd:=⟨W.ss,W.gs,as',W.sts⟩
def Ju (W:Wd) (sc st:Int) (o:X'):Prop:=∃b,AN W sc st b/\∃(j:Nat)(p:Ci)(a:Int),(BN W b.2.1)[j]?=some p/\En (Cw W b.2.2) p.1=some a/\(Bu W.gs W.as p).1=n5/\o=b.1++[(b.2.1,o1,(j:Int))]
section
variable {W:Wd} {as':List (C')} {sc st:Int}
def Kt:j'≠n5:=by decide +kernel
def Ve{j:Nat}{p:Ci}{a:Int}{s t:Int}(b:(BN W s)[j]?=some p)(c:En (Cw W t) p.1=some a):((s,o1,(j:Int)),Bu W.gs W.as p,a)∈EX W s t:=
 BR.mpr ⟨j,p,a,b,c,by rw[Nat.zero_add]⟩
def f8(h:Later W.as as')(f:AN W sc st b):AN (W.late as') sc st b:=by
 induction f with|root=>exact .root|@kid b c _ k g=>obtain⟨r,i,d,l,rfl⟩:=AL.mp k;obtain⟨j,p,a,m,n,rfl⟩:=LD i;have e:=Vd h (p:=p) (ths:=W.gs) (by rw[show(Bu W.gs W.as p).1=_ from d];exact Kt);refine .kid g (AL.mpr ⟨_,Ve (W:=W.late as') m n,?_⟩);show(Bu W.gs as' p).1=_/\(Bu W.gs as' p).2∉_/\_=(_,(Bu W.gs as' p).2,_);rw[e];exact⟨d,l,rfl⟩
def Yl(h:Later W.as as')(m:AN (W.late as') sc st b):AN W sc st b\/∃o,Ju W sc st o/\o <+: b.1:=by
 induction m with
 |root=>exact .inl .root
 |@kid b c _ k d=>obtain⟨r,n,q,s,rfl⟩:=AL.mp k;obtain⟨j,p,a,f,g,rfl⟩:=LD n;rcases d with d|⟨o,t,u⟩;by_cases e:(Bu W.gs W.as p).1=n5;exact .inr ⟨_,⟨b,d,j,p,a,f,g,e,rfl⟩,List.prefix_refl _⟩;have v:=Vd h e;refine .inl (.kid d (AL.mpr ⟨_,Ve f g,?_⟩));show(Bu W.gs W.as p).1=_/\(Bu W.gs W.as p).2∉_/\(_,(Bu W.gs as' p).2,_)=(_,(Bu W.gs W.as p).2,_);have i:(Bu W.gs as' p).1=j':=q;have l:(Bu W.gs as' p).2∉A5 b:=s;rw[v] at i l ⊢;exact⟨i,l,rfl⟩;exact .inr ⟨o,t,u.trans (Jh _ _)⟩
def f9(h:Later W.as as'){o:X'}(e:Ju (W.late as') sc st o):∃c,Ju W sc st c/\c <+: o:=by obtain⟨b,d,j,p,a,f,g,i,rfl⟩:=e;rcases Yl h d with d|⟨c,k,l⟩;exact⟨_,⟨b,d,j,p,a,f,g,f7 h i,rfl⟩,List.prefix_refl _⟩;exact⟨c,k,l.trans (Jh _ _)⟩
def Ku (W:Wd) (sc st:Int) (x:Str) (w:X'):Prop:=∃b,AN W sc st b/\∃(j:Nat)(q:Dg),(EI W b.2.1)[j]?=some q/\q.2.1=x/\q.1∈FW W b.2.2/\w=b.1++[(b.2.1,o6,(j:Int))]
def Ym(h:Later W.as as')(a:Ku W sc st x w):Ku (W.late as') sc st x w:=by obtain⟨b,c,r⟩:=a;exact⟨b,f8 h c,r⟩
def gA(h:Later W.as as')(c:Ku (W.late as') sc st x w):Ku W sc st x w\/∃o,Ju W sc st o/\o <+: w:=by obtain⟨b,a,j,q,d,e,f,rfl⟩:=c;rcases Yl h a with a|⟨g,i,k⟩;exact .inl ⟨b,a,j,q,d,e,f,rfl⟩;exact .inr ⟨g,i,k.trans (Jh _ _)⟩
theorem Vf{ss:List Bo}{ord:A'}:∀{f o w:X'},BH ss ord f o=true->o <+: w->BH ss ord f w=true
 |x::f,y::o,w,h,a=>by obtain⟨u,rfl⟩:=a;by_cases e:x=y;subst e;rw[LG] at h;show BH ss ord (x::f) (x::(o++u))=true;rw[LG];exact Vf h (Jh o u);rw[Jr ss ord _ _ e] at h;show BH ss ord (x::f) (y::(o++u))=true;rw[Jr ss ord _ _ e];exact h
 |[],_,_,h,_=>by rw[Js ss ord (.inl rfl)] at h;cases h
 |_::_,[],_,h,_=>by rw[Js ss ord (.inr rfl)] at h;cases h
def gB(t:∀x,(x,x)∉ord)(tr:∀x y z,(x,y)∈ord->(y,z)∈ord->(x,z)∈ord)(h:Later W.as as'){ws i:W'}
 (n:∀w,w∈ws↔Ku W sc st x w) (p:∀w,w∈i↔Ku (W.late as') sc st x w) (s:∀o,Ju W sc st o->∃f∈ws,BH ss ord f o=true) (w:X'):w∈Cg ss ord i i↔w∈Cg ss ord ws ws:=by
 have sub:∀v∈ws,v∈i:=λv m=>(p v).mpr (Ym h ((n v).mp m))
 have r:∀v∈i,v∈ws\/∃f∈ws,BH ss ord f v=true:=λv m=>by
  rcases gA h ((p v).mp m) with e|⟨o,j,c⟩;exact .inl ((n v).mpr e);obtain⟨f,k,g⟩:=s o j;exact .inr ⟨f,k,Vf g c⟩
 have q:∀(l:W')v,v∈Cg ss ord l l↔v∈l/\∀u∈l,BH ss ord u v=false:=λl v=>by
  unfold Cg;rw[JC,Bool.not_eq_true',t9];exact⟨λ⟨a,b⟩=>⟨a,λu d=>by have:=b u d;simpa using this⟩,λ⟨a,b⟩=>⟨a,λu d=>by rw[b u d];simp⟩⟩
 rw[q,q];constructor;rintro⟨j,c⟩;rcases r w j with e|⟨f,k,g⟩;exact⟨e,λu d=>c u (sub u d)⟩;rw[c f (sub f k)] at g;cases g;rintro⟨j,c⟩;refine⟨sub w j,λu d=>?_⟩;rcases r u d with e|⟨f,k,g⟩;exact c u e;cases e:BH ss ord u w with|false=>rfl|true=>have:=Yj t tr f u w g e;rw[c f k] at this;cases this
def gC(h:Later W.as as'){ws a:W'}(sub:∀v∈ws,v∈a)(b:∀o,Ju W sc st o->∃f∈ws,BH ss ord f o=true):∀o,Ju (W.late as') sc st o->∃f∈a,BH ss ord f o=true:=λo c=>by obtain⟨d,e,g⟩:=f9 h c;obtain⟨f,i,j⟩:=b d e;exact⟨f,sub f i,Vf j g⟩
end
section
variable {W:Wd} {sc st:Int}
def Kv(h:AN W sc st b)(e:b.1=[]):b=([],sc,st):=by
 cases h with|root=>rfl|kid _ k=>obtain⟨r,_,_,_,rfl⟩:=AL.mp k;simp at e
def Kw(h:AN W sc st b):∀{c:AK},AN W sc st c->b.1=c.1->b=c:=by
 induction h with
 |root=>intro c a e;exact(Kv a e.symm).symm
 |@kid b p q k i=>
  intro c a e;obtain⟨r,j,_,_,rfl⟩:=AL.mp k;cases a with|root=>simp at e|@kid d _ hd l=>obtain⟨f,o,_,_,rfl⟩:=AL.mp l;have g:b.1++[r.1]=d.1++[f.1]:=e;have m:=List.append_inj_left' g rfl;have n:r.1=f.1:=(by simpa using List.append_inj_right' g rfl);have:=i hd m;subst this;rw[XC j o n]
theorem Yn{b:AK}{x:Str}:∀{l:List Dg}{i j:Nat}{q:Dg},l[j]?=some q->q.2.1=x->q.1∈FW W b.2.2->b.1++[(b.2.1,o6,((i+j:Nat):Int))]∈Dx W b x l i
 |p::l,i,0,q,a,c,d=>by cases a;refine Et _ ?_;unfold EJ;rw[Ag ⟨c,d⟩];exact AR.mpr rfl
 |p::l,i,j+1,q,a,c,d=>by refine Db _ ?_;rw[show i+(j+1)=i+1+j by lia];exact Yn (by simpa using a) c d
def Yo{bs:Y'}(c:∀b,b∈bs↔AN W sc st b)(w:X'):w∈DY W x bs↔Ku W sc st x w:=by constructor;intro h;obtain⟨b,a,r⟩:=UL h;exact⟨b,(c b).mp a,r⟩;rintro⟨b,a,j,q,d,e,f,rfl⟩;refine List.mem_flatMap.mpr ⟨b,(c b).mpr a,?_⟩;have:=Yn (b:=b) (i:=0) d e f;rw[Nat.zero_add] at this;exact this
theorem Yp{b:AK}{x:Str}:∀{l:List Dg}{i:Nat},(Dx W b x l i).Nodup
 |[],_=>List.nodup_nil
 |q::l,i=>by refine List.nodup_append.mpr ⟨?_,Yp,λv hv c a e=>?_⟩;unfold EJ;split;exact List.pairwise_singleton _ _;exact List.nodup_nil;subst e;unfold EJ at hv;split at hv;rw[AR.mp hv] at a;obtain⟨j,d,_,_,_,e⟩:=PQ a;have:=List.append_inj_right' e rfl;simp at this;lia;cases hv
theorem Yq{α β:Type}{f:α->List β}:∀{l:List α},(∀a∈l,(f a).Nodup)->l.Pairwise (λa b=>∀x∈f a,x∉f b)->(l.flatMap f).Nodup
 |[],_,_=>List.nodup_nil
 |a::l,g,h=>by rw[List.flatMap_cons];obtain⟨i,j⟩:=List.pairwise_cons.mp h;refine List.nodup_append.mpr ⟨g a Bg,Yq (λb c=>g b (BQ _ c)) j,λx k y d e=>?_⟩;subst e;obtain⟨b,c,d⟩:=List.mem_flatMap.mp d;exact i b c x k d
def Yr{bs:Y'}(c:Dw W sc st bs):(DY W x bs).Nodup:=by refine Yq (λb _=>Yp) ?_;refine c.nd.imp_of_mem λ{a b}d e i v f k=>?_;obtain⟨j,q,_,_,_,g⟩:=PQ f;obtain⟨l,m,_,_,_,h⟩:=PQ k;exact i (Kw ((c.mem a).mp d) ((c.mem b).mp e) (List.append_inj_left' (g.symm.trans h) rfl))
def Ys{bs:Y'}(h:Dw W sc st bs)(o:X'):Ju W sc st o↔∃r∈Gb W bs,r.1=o:=by constructor;rintro⟨b,c,j,p,a,d,f,g,rfl⟩;refine⟨(_,(Bu W.gs W.as p).2),List.mem_flatMap.mpr ⟨b,(h.mem b).mpr c,List.mem_filterMap.mpr ⟨_,Ve d f,?_⟩⟩,rfl⟩;unfold ow;exact Ag g;rintro⟨r,i,rfl⟩;obtain⟨b,c,j,p,a,d,f,g,e⟩:=UM i;exact⟨b,(h.mem b).mp c,j,p,a,d,f,g,by rw[e]⟩
def Kx{ws a:W'}(b:ws.Nodup)(c:a.Nodup)(d:ws.Pairwise CD.O.kle)(e:a.Pairwise CD.O.kle)(h:∀w,w∈Cg ss ord a a↔w∈Cg ss ord ws ws):Cg ss ord a a=Cg ss ord ws ws:=
 Ov (O:=CD.O) ((List.perm_ext_iff_of_nodup (c.filter _) (b.filter _)).mpr h) (e.filter _) (d.filter _)
end
theorem D1{ss:List Bo}{ord:A'}{ws:W'}:∀{os:Δ},E6 ss ord ws os=none↔∀o∈os,(ws.any λv=>BH ss ord v o.1)=true
 |[]=>⟨λ_ o b=>(by cases b),λ_=>rfl⟩
 | o :: os=>by
   cases e:ws.any λv=>BH ss ord v o.1 with
   |true=>rw[RL e,D1];refine⟨λh p a=>?_,λh p a=>h p (BQ _ a)⟩;rcases B1.mp a with rfl|a;exact e;exact h p a
   |false=>rw[RK e];refine⟨λh=>(by cases h),λh=>?_⟩;have:=h o Bg;rw[e] at this;cases this
theorem Vg{W:Wd}:∀{ws:W'},(∀w∈ws,D0 W w=none)->Fi W ws=none
 |[],_=>rfl
 |w::ws,h=>by rw[P6 (h w Bg)];exact Vg λv hv=>h v (BQ _ hv)
def gD{ws:W'}(h:DQ W ord ws os=none):E6 W.ss ord ws os=none:=by
 unfold DQ at h;cases e:E6 W.ss ord ws os with|some o=>rw[e] at h;cases h|none=>rfl
def gE{ws:W'}(a:E6 W.ss ord ws os=none)(b:Fi W (Cg W.ss ord ws ws)=none):DQ W ord ws os=none:=by unfold DQ;rw[a];exact b
variable {as as':List (C')}
def gF(h:Later as as')(e:as'[n]?=some none):as[n]?=some none:=by
 cases c:as[n]? with
 |none=>rw[RO h c] at e;cases e
 |some o=>
  cases o with|none=>rfl|some p=>rw[h.old n p c] at e;cases e
section
variable {W:Wd} {as':List (C')} {ord:A'} {sc st:Int}
def gG(h:Later W.as as')(e:D0 W w=none):D0 (W.late as') w=none:=by unfold D0 at e ⊢;refine Ah λc=>?_;rw[Ag ⟨c.1,gF h c.2⟩] at e;cases e
def gH(h:Later W.as as')(d:Bd W)(f:CV W.ss w)(e:D0 W w=none):Bh (W.late as') w=Bh W w:=by
 unfold Bh
 show(if(Cp W.ss w).2.2.1=f' then some (Cp W.ss w).2.2.2 else match as'[(Cp W.ss w).2.2.2.toNat]? with
  |some (some p)=>if p.1=f' then some p.2 else none
  |_=>none)=_
 rcases M6 d f with⟨a,_⟩|⟨a,_⟩;rw[Ag a,Ag a];by_cases b:(Cp W.ss w).2.2.1=f';rw[Ag b,Ag b];rw[Ah b,Ah b];unfold D0 at e
 cases c:W.as[(Cp W.ss w).2.2.2.toNat]? with
 |none=>rw[RO h c]
 |some o=>
  cases o with|none=>rw[Ag ⟨a,c⟩] at e;cases e|some p=>rw[h.old _ p c]
def gI(A:∀x,(x,x)∉ord)(tr:∀x y z,(x,y)∈ord->(y,z)∈ord->(x,z)∈ord)(h:Later W.as as')(ok:BS W)(q:Bd W)(B:0<=sc/\sc<W.ss.length)(C:0<=st/\st<W.sts.length){l m:Lk}(a:Cr W ord sc st x l os)(b:Cr (W.late as') ord sc st x m us)(g:DQ W ord l.2.1 os=none) :
 m.2.2=l.2.2/\DQ (W.late as') ord m.2.1 us=none/\∀w∈l.2.2,Bh (W.late as') w=Bh W w:=by
 have i:∀w,w∈l.2.1↔Ku W sc st x w:=λw=>a.f.perm.mem_iff.trans (Yo a.b.mem w);have j:∀w,w∈m.2.1↔Ku (W.late as') sc st x w:=λw=>b.f.perm.mem_iff.trans (Yo b.b.mem w)
 have k:∀o,Ju W sc st o->∃f∈l.2.1,BH W.ss ord f o=true:=λo d=>by
  obtain⟨r,s,e⟩:=(Ys a.b o).mp d;have:=D1.mp (gD g) r (a.o.perm.mem_iff.mpr s);rw[e] at this;exact Gv.mp this
 have D:=gB (ss:=W.ss) A tr h i j k;have n:m.2.2=l.2.2:=(by rw[b.s,a.s];exact Kx (a.f.perm.nodup_iff.mpr (Yr a.b)) (b.f.perm.nodup_iff.mpr (Yr b.b)) a.f.srt b.f.srt D);have p:∀w∈l.2.2,D0 W w=none:=(by have:=Vc (Yd g);rw[<-a.s] at this;exact this);refine⟨n,gE ?_ ?_,λw c=>?_⟩;refine D1.mpr λo d=>?_;have t:Ju (W.late as') sc st o.1:=(Ys b.b o.1).mpr ⟨o,b.o.perm.mem_iff.mp d,rfl⟩;exact Gv.mpr (gC (ss:=W.ss) h (λv u=>(j v).mpr (Ym h ((i v).mp u))) k o.1 t);have:Fi (W.late as') m.2.2=none:=Vg λw c=>gG h (p w (by rw[<-n];exact c));rw[b.s] at this;exact this;refine gH h q ?_ (p w c);rw[a.s] at c;exact U4 ok B C a.b (a.f.perm.mem_iff.mp (OF c))
def Yt:∀{C:W'}(at_:Int),(∀w∈C,Bh (W.late as') w=Bh W w)->Cq (W.late as') C at_=Cq W C at_:=λ{C}at_ h=>by
 by_cases c:∀w∈C,Bh W w=none;rw[RJ c,RJ λw b=>by rw[h w b];exact c w b]
 cases C with
 |nil=>exact absurd (λw b=>by cases b) c
 |cons w r=>
  have e:¬∀v∈w::r,Bh (W.late as') v=none:=λz=>c λv a=>by rw[<-h v a];exact z v a
  by_cases d:∀v∈w::r,Bh W v=Bh W w;have l:∀v∈w::r,Bh (W.late as') v=Bh (W.late as') w:=λv a=>by rw[h v a,h w Bg];exact d v a
  obtain⟨n,g,i⟩:=P5 (at_:=at_) c d;obtain⟨k,f,j⟩:=P5 (at_:=at_) e l;rw[h w Bg,g] at f;rw[i,j,Bt f];rw[P4 c d,P4 e λz=>d λv a=>by rw[<-h v a,<-h w Bg];exact z v a]
def Yu{ws:W'}(h:BC W ord ws os at_=(a,none)):DQ W ord ws os=none/\a=some (Cq W (Cg W.ss ord ws ws) at_):=by
 cases e:DQ W ord ws os with|some o=>rw[LL e] at h;cases Bw Prod.snd h|none=>rw[Iz e] at h;exact⟨rfl,(Bw Prod.fst h).symm⟩
def Vh{ws:W'}{n:Int}{w:Option Wt}(h:BC W ord ws os at_=(some (f',n),w)):w=none:=by
 cases e:DQ W ord ws os with|some o=>rw[LL e] at h;cases Bw Prod.fst h|none=>rw[Iz e] at h;exact(Bw Prod.snd h).symm
def Vi(o:∀x,(x,x)∉ord)(tr:∀x y z,(x,y)∈ord->(y,z)∈ord->(x,z)∈ord)(h:Later W.as as')(ok:BS W)(g:Bd W)(p:0<=sc/\sc<W.ss.length)(q:0<=st/\st<W.sts.length){l m:Lk}(b:Cr W ord sc st x l os)(d:Cr (W.late as') ord sc st x m us)(e:BC W ord l.2.1 os at_=(a,none)) :
 m.2.2=l.2.2/\BC (W.late as') ord m.2.1 us at_=(a,none):=by
 obtain⟨c,i⟩:=Yu e;obtain⟨f,j,k⟩:=gI o tr h ok g p q b d c;refine⟨f,?_⟩;rw[Iz j,i];show(some (Cq (W.late as') (Cg W.ss ord m.2.1 m.2.1) at_),none)=_;have n:Cg W.ss ord m.2.1 m.2.1=Cg W.ss ord l.2.1 l.2.1:=(by have:=d.s;rw[<-b.s,<-f,this]);rw[n,Yt at_ λw c=>k w (by rw[b.s];exact c)]
def Yv(h:Later W.as as'){n:Int}(a:(Cd W n).1≠n5):Cd (W.late as') n=Cd W n:=by
 unfold Cd at a ⊢
 show(match W.gs[n.toNat]? with
  |some p=>Df W.gs as' p
  |none=>(o4,(0:Int)))=_
 cases e:W.gs[n.toNat]? with|none=>rfl|some p=>rw[e] at a;exact Yk h a
def P9(ok:BS W){n:Int}(b:0<=n/\n<W.gs.length)(h:Cd W n=(j',q)):0<=q/\q<W.ss.length:=by
 obtain⟨j,c⟩:=Ea b.1;have a:j<W.gs.length:=(by lia);have d:Cd W n=Df W.gs W.as W.gs[j]:=by unfold Cd;rw[c,Bn,AD a]
 rw[d] at h;have:=UJ ok (Ez a) rfl (Bw Prod.fst h);rw[Bw Prod.snd h] at this;exact this
def Hi(ok:BS W)(c:0<=sc/\sc<W.ss.length)(d:0<=st/\st<W.sts.length){l:Lk}(a:Cr W ord sc st x l os):∀w∈l.2.1,CV W.ss w:=λw b=>U4 ok c d a.b (a.f.perm.mem_iff.mp b)
end
def gJ:o4≠n5:=by decide +kernel
def gK:j'≠n5:=by decide +kernel
def Ky(A:∀x,(x,x)∉ord)(tr:∀x y z,(x,y)∈ord->(y,z)∈ord->(x,z)∈ord)(h:Later W.as as')(ok:BS W)(u:Bd W)(K:0<=inn/\inn<W.sts.length){p:J'}{w:Option Wt}(k:LU W inn ord sc st p at_ a w ls ts) :
 w=none->0<=sc/\sc<W.ss.length->0<=st/\st<W.sts.length->∀{g:C'}{j:Option Wt}{s:Γ}{v:F'},LU (W.late as') inn ord sc st p at_ g j s v->g=a/\j=none/\s.map (·.2.2)=ls.map (·.2.2):=by
 induction k with|stop b e n=>intro l d f g j s v m;subst l;obtain⟨C,D,t,c,_⟩:=m.inv;obtain⟨o,q⟩:=Vi A tr h ok u d f b t e;obtain⟨rfl,rfl,rfl,_⟩:=c _ _ q n;exact⟨rfl,rfl,by rw[List.map_singleton,List.map_singleton,o]⟩|opn b e i=>intro l;cases l|no b e i=>intro _ d f g j s v m;have B:=Vh e;subst B;have r:=Yv h (n:=_) (show(Cd W _).1≠n5 by rw[i];exact gJ);rw[i] at r;obtain⟨C,D,t,_,c⟩:=m.inv;obtain⟨o,q⟩:=Vi A tr h ok u d f b t e;obtain⟨rfl,rfl,rfl,_⟩:=(c _ _ q nofun _ _ r).2.1 rfl;exact⟨rfl,rfl,by rw[List.map_singleton,List.map_singleton,o]⟩|go b e i L E=>intro l d f g j s v m;have B:=Vh e;subst B;have r:=Yv h (n:=_) (show(Cd W _).1≠n5 by rw[i];exact gK);rw[i] at r;obtain⟨C,D,t,_,c⟩:=m.inv;obtain⟨o,q⟩:=Vi A tr h ok u d f b t e;obtain⟨_,_,F,rfl,rfl⟩:=(c _ _ q nofun _ _ r).2.2 rfl;have G:=Jt ok u (Hi ok d f b) e;obtain⟨H,I,J⟩:=E l (P9 ok G i) K F;exact⟨H,I,by rw[D6,D6,o,J]⟩
def M8 (as:List (C')) (q:Int):Prop:=0<=q/\q<as.length/\as[q.toNat]?=some none
def LO:o4≠n5:=by decide +kernel
def Vj:j'≠n5:=by decide +kernel
section
variable {ths:K'} {as:List (C')}
def gL(a:0<=q/\q<as.length)(h:(Ec ths as q).1=n5):M8 as (Ec ths as q).2:=by
 unfold Ec at h ⊢
 cases e:as[q.toNat]? with
 |none=>rw[e] at h;exact absurd h LO
 |some o=>
  cases o with|none=>rw[e] at h;exact⟨a.1,a.2,e⟩|some p=>rw[e] at h;dsimp only at h;split at h;split at h;split at h;exact absurd h Vj;exact absurd h LO;exact absurd h LO;exact absurd h LO
def Yw(ok:Fe ths as){p:Str×Int}(a:p∈ths)(h:(Df ths as p).1=n5):M8 as (Df ths as p).2:=by unfold Df at h ⊢;by_cases c:p.1=o5;rw[Ag c] at h;exact absurd h Vj;rw[Ah c] at h ⊢;by_cases d:p.1=o8;rw[Ag d] at h ⊢;exact gL (ok.q p a d) h;rw[Ah d] at h;exact absurd h LO
def gM(ok:Fe ths as){s:Int}{p:Ci}(a:Ka s as.length p)(h:(Bu ths as p).1=n5):M8 as (Bu ths as p).2:=by
 unfold Bu at h ⊢;rcases a with⟨c,_⟩|⟨c,b,d⟩;rw[Ag c] at h;exact absurd h Vj;have g:¬p.2.1=j':=λz=>by rw[z] at c;exact absurd c (by decide +kernel)
 rw[Ah g] at h ⊢
 cases e:as[p.2.2.toNat]? with
 |none=>rw[e] at h;exact absurd h LO
 |some o=>
  cases o with
  |none=>exact⟨b,d,e⟩
  |some w=>
   rw[e] at h;dsimp only at h ⊢;by_cases t:w.1=f';rw[Ag t] at h ⊢
   cases f:ths[w.2.toNat]? with
   |none=>rw[f] at h;exact absurd h LO
   |some k=>rw[f] at h;exact Yw ok (Bf f) h
   rw[Ah t] at h;exact absurd h LO
end
section
variable {W:Wd} {ord:A'} {sc st:Int}
def gN(ok:BS W){bs:Y'}{w:Ow}(d:w∈Gb W bs):M8 W.as w.2:=by
 obtain⟨b,_,j,p,a,c,_,f,rfl⟩:=UM d;refine gM ok.net (s:=W.ss.length) ?_ f;unfold BN at c;cases e:W.ss[b.2.1.toNat]? with|none=>rw[e] at c;cases c|some s=>rw[e] at c;exact ok.kst s (Bf e) p (Bf c)
theorem Yx{ss:List Bo}{ws:W'}:∀{os:Δ}{o:Ow},E6 ss ord ws os=some o->o∈os/\(ws.any λv=>BH ss ord v o.1)=false
 |[],o,h=>by cases h
 | p :: os,o,h=>by
   cases e:ws.any λv=>BH ss ord v p.1 with|true=>rw[RL e] at h;obtain⟨a,b⟩:=Yx h;exact⟨BQ _ a,b⟩|false=>rw[RK e] at h;cases h;exact⟨Bg,e⟩
theorem Yy:∀{ws:W'}{o:Ow},Fi W ws=some o->o.1∈ws/\D0 W o.1=some o.2
 |[],o,h=>by cases h
 | w :: ws,o,h=>by
   cases e:D0 W w with|some q=>rw[Vb e] at h;cases h;exact⟨Bg,e⟩|none=>rw[P6 e] at h;obtain⟨a,b⟩:=Yy h;exact⟨BQ _ a,b⟩
set_option tactic.hygienic true in
def Kz(ok:BS W)(m:Bd W)(g:0<=sc/\sc<W.ss.length)(i:0<=st/\st<W.sts.length){l:Lk}(b:Cr W ord sc st x l os)(h:DQ W ord l.2.1 os=some o):M8 W.as o.2/\(l.2.1.any λv=>BH W.ss ord v o.1)=false/\Ki W.ss o.1:=by
 unfold DQ at h
 cases e:E6 W.ss ord l.2.1 os with
 |some p=>rw[e] at h;cases h;obtain⟨f,a⟩:=Yx e;have d:=b.o.perm.mem_iff.mp f;exact⟨gN ok d,a,XT ok g i b.b d⟩
 |none=>rw[e] at h;obtain⟨f,a⟩:=Yy h;have d:=OF f;have n:=b.f.perm.mem_iff.mp d;refine⟨?_,?_,Rx ok g i b.b n⟩;have tk:=M6 m (Hi ok g i b _ d);unfold D0 at a;split at a;rename_i c;rw[<-Bt a];rcases tk with⟨j,_⟩|⟨_,k⟩;rw[c.1] at j;exact absurd j (by decide +kernel);exact⟨k.1,k.2,c.2⟩;cases a;have:=(JC.mp f).2;rw[Bool.not_eq_true'] at this;exact this
end
def IC (W:Wd) (inn sc0 st0:Int) (ls:Γ):Nat->Int->Int->Prop
 |0,sc,st=>sc=sc0/\st=st0
 |i+1,sc,st=>st=inn/\∃(l:Lk)(w0:X')(r:W')(n:Int),ls[i]?=some l/\l.2.2=w0::r/\Bh W w0=some n/\CV W.ss w0/\(0<=n/\n<W.gs.length)/\Cd W n=(j',sc)
theorem IC.more{m o b c:Int}{l:Lk}{a:X'}{n:Int}(e:l.2.2=a::r)(d:Bh W a=some n)(f:CV W.ss a)(g:0<=n/\n<W.gs.length)(i:Cd W n=(j',b))(k:c=inn):∀{j:Nat}{sc st:Int},IC W inn b c ls j sc st->IC W inn m o (l::ls) (j+1) sc st
 |0,sc,st,h=>⟨h.2.trans k,l,a,r,n,rfl,e,d,f,g,by rw[h.1];exact i⟩
 |j+1,sc,st,h=>h
def gO{ws:W'}{n:Int}{w:Option Wt}(h:BC W ord ws os at_=(some (f',n),w)):∃d r,Cg W.ss ord ws ws=d::r/\Bh W d=some n:=by
 have b:=Vh h;subst b;obtain⟨_,a⟩:=Yu h;have a:=(Bt a).symm;generalize Cg W.ss ord ws ws=C at a;by_cases c:∀w∈C,Bh W w=none;rw[RJ c] at a;exact absurd (Bw Prod.fst a) P7;cases C with|nil=>exact absurd (λw b=>by cases b) c|cons w r=>refine⟨w,r,rfl,?_⟩;by_cases f:∀v∈w::r,Bh W v=Bh W w;obtain⟨k,g,i⟩:=P5 (at_:=at_) c f;rw[i] at a;have e:k=n:=Bw Prod.snd a;rw[g,e];rw[P4 c f] at a;exact absurd (Bw Prod.fst a) RM
set_option tactic.hygienic true in
def Yz{p:J'}{w:Option Wt}(k:LU W inn ord sc st p at_ a w ls ts):(a=none/\∃t,w=some t)\/(∃x,a=some x)/\w=none:=by
 induction k with
 |stop h e n=>
   rename_i os _ _
   cases b:DQ W ord _ os with|some o=>rw[LL b] at e;cases e;exact .inl ⟨rfl,_,rfl⟩|none=>rw[Iz b] at e;cases e;exact .inr ⟨⟨_,rfl⟩,rfl⟩
 |opn=>exact .inl ⟨rfl,_,rfl⟩
 |no=>exact .inr ⟨⟨_,rfl⟩,rfl⟩
 |go _ _ _ _ c=>exact c
def gP(ss:List Bo):Ki ss []:=⟨λm a=>(by cases a),Dp _⟩
def KA(l:W'):(l.any λv=>BH ss ord v [])=false:=by rw[t9];exact λv _=>by rw[Js ss ord (.inr rfl)];exact CA
set_option tactic.hygienic true in
def KC(ok:BS W)(s:Bd W)(S:0<=inn/\inn<W.sts.length){h m:Int}{p:J'}{w:Option Wt}(k:LU W inn ord h m p at_ a w ls ts) :
 0<=h/\h<W.ss.length->0<=m/\m<W.sts.length->∀{t:Wt},w=some t->∃(j:Nat)(sc st:Int)(x:Str)(l:Lk)(os:Δ),t.1=at_+j/\p[j]?=some x/\Cr W ord sc st x l os/\(0<=sc/\sc<W.ss.length)/\(0<=st/\st<W.sts.length)/\M8 W.as t.2.2/\(l.2.1.any λv=>BH W.ss ord v t.2.1)=false/\Ki W.ss t.2.1/\IC W inn h m ls j sc st:=by
 induction k with
 |stop b e n=>
  intro d f t c;rename_i sc st x r at_ l os a w;cases u:DQ W ord l.2.1 os with|none=>rw[Iz u] at e;cases e;cases c|some o=>rw[LL u] at e;cases e;cases c;obtain⟨z,A,B⟩:=Kz ok s d f b u;exact⟨0,sc,st,x,l,os,by simp,rfl,b,d,f,z,A,B,rfl,rfl⟩
 |opn b e i=>
  intro d f t c;rename_i sc st x y r at_ l os n q w;cases c;have g:=Jt ok s (Hi ok d f b) e;refine⟨0,sc,st,x,l,os,by simp,rfl,b,d,f,?_,KA _,gP _,rfl,rfl⟩;obtain⟨j,F⟩:=Ea g.1;have E:j<W.gs.length:=(by lia);have G:Cd W n=Df W.gs W.as W.gs[j]:=by unfold Cd;rw[F,Bn,AD E]
  rw[G] at i;have:=Yw ok.net (Ez E) (Bw Prod.fst i);rw[Bw Prod.snd i] at this;exact this
 |no=>intro _ _ t c;cases c
 |go b e i Z H=>
  intro d f t c;rename_i sc st x y r at_ l os n q w w' a ls ts;have g:=Jt ok s (Hi ok d f b) e;obtain⟨j,T,U,I,J,V,z,A,B,K,L,M,N,O,P⟩:=H (P9 ok g i) S c;obtain⟨C,Q,D,R⟩:=gO e;have X:l.2.2=C::Q:=by rw[b.s];exact D
  have Y:C∈l.2.1:=OF (ss:=W.ss) (ord:=ord) (all:=l.2.1) (by rw[D];exact Bg);refine⟨j+1,T,U,I,J,V,by rw[z];push_cast;lia,A,B,K,L,M,N,O,IC.more X R (Hi ok d f b _ Y) g i rfl P⟩
def GN (xs:S'):Prop:=xs.toList.Pairwise (· < ·)
variable {xs:S'}
def GN.lt(h:GN xs){a b:Nat}(e:a<b)(c:b<xs.size):xs.getD a 0<xs.getD b 0:=by have d:a<xs.size:=(by lia);have:=(List.pairwise_iff_getElem.mp h) a b (by simpa using d) (by simpa using c) e;rw[p',p',Array.getElem?_eq_getElem d,Array.getElem?_eq_getElem c];simpa using this
def GN.le(h:GN xs){a b:Nat}(d:a<=b)(c:b<xs.size):xs.getD a 0<=xs.getD b 0:=by rcases Nat.lt_or_eq_of_le d with e|e;exact Cf (h.lt e c);rw[e];exact AF _
def KD{d:Nat}(h:i<xs.size):xs.getD i d=xs.getD i 0:=by rw[p',p',Array.getElem?_eq_getElem h];rfl
theorem Vk{xs:S'}(e:GN xs)(j:Nat):∀(b lo a:Nat),a<=xs.size->lo<=a->a-lo<=b->(∀i,i<lo->xs.getD i 0<j)->(∀i,a<=i->i<xs.size->j<=xs.getD i 0) ->
 SetTable.below.go xs j b lo a<=xs.size/\(∀i,i<SetTable.below.go xs j b lo a->xs.getD i 0<j)/\∀i,SetTable.below.go xs j b lo a<=i->i<xs.size->j<=xs.getD i 0
 |0,lo,a,f,m,n,g,h=>by have:lo=a:=(by lia);subst this;exact⟨f,g,h⟩
 |b+1,lo,a,f,m,n,g,h=>by unfold SetTable.below.go;by_cases c:lo<a;rw[Ag c];dsimp only;have k:(lo+a)/2<xs.size:=(by lia);rw[KD k];by_cases d:xs.getD ((lo+a)/2) 0<j;rw[Ag d];exact Vk e j b _ a f (by lia) (by lia) (λi l=>Nat.lt_of_le_of_lt (e.le (by lia) k) d) h;rw[Ah d];exact Vk e j b lo _ (by lia) (by lia) (by lia) g (λi l o=>FS (Nat.le_of_not_lt d) (e.le l o));rw[Ah c];have:lo=a:=(by lia);subst this;exact⟨f,g,h⟩
def Vl(a:GN xs)(j:Nat):SetTable.below xs j<=xs.size/\(∀i,i<SetTable.below xs j->xs.getD i 0<j)/\∀i,SetTable.below xs j<=i->i<xs.size->j<=xs.getD i 0:=
 Vk a j xs.size 0 xs.size (AF _) (Dp _) (by lia) (λi h=>by lia) (λi b c=>by lia)
def gQ(a:GN xs):SetTable.below xs 0=0:=by
 obtain⟨_,b,_⟩:=Vl a 0;cases e:SetTable.below xs 0 with|zero=>rfl|succ n=>have:=b 0 (by lia);lia
variable {j:Nat}
def gR(a:GN xs)(h:xs[i]?=some j):SetTable.below xs (j+1)=i+1:=by
 obtain⟨f,b,d⟩:=Vl a (j+1);have e:i<xs.size:=(Array.getElem?_eq_some_iff.mp h).1;have g:xs.getD i 0=j:=by rw[p',h];rfl
 rcases u0 (SetTable.below xs (j+1)) (i+1) with c|c|c;have:=d i (by lia) e;lia;exact c;have k:=b (i+1) c;have l:xs.getD i 0<xs.getD (i+1) 0:=a.lt (OV i) (show i+1<xs.size by lia);lia
def gT(xs:Array α)(p:Nat)(x:α)(a:p<=xs.size):(SetTable.insertAt xs p x).toList=xs.toList.take p++[x]++xs.toList.drop p:=by unfold SetTable.insertAt;simp[Array.toList_extract];exact List.take_of_length_le (by simp)
def gU(e:GN xs)(n:xs[SetTable.below xs j]?≠some j):GN (SetTable.insertAt xs (SetTable.below xs j) j):=by
 obtain⟨o,f,q⟩:=Vl e j;generalize SetTable.below xs j=p at o f q n;unfold GN;rw[gT xs p j o]
 have g:∀{i:Nat}(c:i<xs.toList.length),xs.toList[i]=xs.getD i 0:=λ{i}c=>by
  have m:i<xs.size:=(by simpa using c);rw[p',Array.getElem?_eq_getElem m];simp
 refine List.pairwise_append.mpr ⟨List.pairwise_append.mpr ⟨e.sublist (List.take_sublist _ _),List.pairwise_singleton _ _,λa d b h=>?_⟩,e.sublist (List.drop_sublist _ _),λa d b h=>?_⟩;rw[AR.mp h];obtain⟨i,c,rfl⟩:=List.getElem_of_mem d;rw[FQ] at c;rw[List.getElem_take,g (by lia)];exact f i (by lia);obtain⟨i,c,rfl⟩:=List.getElem_of_mem h;rw[HE] at c;rw[List.getElem_drop,g (by lia)];have m:p+i<xs.size:=by simp at c;lia
 have s:j<xs.getD p 0:=(by have l:p<xs.size:=(by lia);have:=q p (AF _) l;have ne:xs.getD p 0≠j:=λz=>n (by rw[Array.getElem?_eq_getElem l];rw[p',Array.getElem?_eq_getElem l] at z;exact Bw some z);lia);have t:=e.le (show p<=p+i by lia) m;rcases B0.mp d with d|d;obtain⟨k,r,rfl⟩:=List.getElem_of_mem d;rw[FQ] at r;rw[List.getElem_take,g (by lia)];have:=f k (by lia);lia;rw[AR.mp d];lia
structure GY (led:Bool) (t:SetTable):Prop where
 ris:GN t.place
 dum:t.dummies=#[]
 led:t.led=led
theorem YA{t:SetTable}{hashAt:Nat->Int}{h:Int}(hd:t.dummies=#[]):∀(a:Nat)(p:SetTable.Probe){j:Nat}{d:Option Nat},p.dummy=none->SetTable.probe.go t hashAt h a p=some (.empty j d)->t.slot j=.empty/\d=none
 |0,p,j,d,_,e=>by cases e
 |a+1,p,j,d,b,e=>by
   unfold SetTable.probe.go at e
   have l:∀q:SetTable.Probe,q.dummy=none->(t.advance q).dummy=none:=λq f=>by
    unfold SetTable.advance;split;exact f;exact f
   cases c:t.slot p.j with
   |empty=>rw[c] at e;cases e;exact⟨c,b⟩
   |dummy=>
    exfalso;have k:SetTable.has t.dummies p.j=false:=by rw[hd];unfold SetTable.has;simp
    unfold SetTable.slot at c;dsimp only at c;rw[k] at c;by_cases g:(t.place[SetTable.below t.place p.j]?==some p.j)=true;rw[Ag g] at c;cases c;rw[Ah g] at c;cases c
   |live i=>rw[c] at e;dsimp only at e;split at e;cases e;exact YA hd a _ (l p b) e
def gW{t:SetTable}(h:t.slot j=.empty):t.place[SetTable.below t.place j]?≠some j:=λe=>by unfold SetTable.slot at h;simp only[e] at h;simp at h
variable {led:Bool}
def RP{t:SetTable}(h:GY led t)(n:Nat):GY led (t.standIn n):=⟨by
 show GN (Array.range n);unfold GN;rw[Array.toList_range];exact List.pairwise_lt_range,rfl,h.led⟩
def M9{t:SetTable}(h:GY led t)(a:t.slot j=.empty):GY led (t.put j).1:=by
 refine⟨gU h.ris (gW a),?_,h.led⟩;show(if SetTable.has t.dummies j then SetTable.eraseAt t.dummies (SetTable.below t.dummies j) else t.dummies)=#[];rw[h.dum];have:SetTable.has #[] j=false:=by unfold SetTable.has;simp
 rw[this];rfl
def gX {t:SetTable} (h:GY led t) (es:Array (Int × Value)) (k:Int) (x:Value):GY led (layNew t es k x).2.1:=by
 unfold layNew
 cases e:t.freeSlot k with
 |none=>exact RP h _
 | some r=>
  obtain⟨i,l⟩:=r;dsimp only
  have b:t.slot i=.empty:=by
   unfold SetTable.freeSlot at e
   cases c:t.probe (λ_=>k+1) k (t.probeStart k) with
   |none=>rw[c] at e;cases e
   |some m=>
    rw[c] at e;cases m with|candidate=>cases e|empty j d=>obtain⟨f,g⟩:=YA h.dum _ _ rfl c;subst g;cases e;exact f
  have a:=M9 h b;unfold SetTable.orStandIn;split;exact a;exact RP a _
def KE{e l k:Nat}{plain:Bool}{f:Array Int}{r:SetTable×Array Nat}(h:SetTable.laid e l k led plain f=some r):GY led r.1:=by
 unfold SetTable.laid at h
 cases c:SetTable.layClean e f with
 |none=>rw[c] at h;cases h
 |some owner=>
  rw[c] at h;cases h;refine⟨?_,rfl,rfl⟩;unfold GN;dsimp only;have:(List.map (λx=>x.1) (List.filterMap (λj=>Option.map (λx=>(j,x)) (owner.getD j none)) (List.range (e+1)))).Pairwise (· < ·):=(by rw[List.pairwise_map];refine List.Pairwise.filterMap _ (λa b i c g d hd=>?_) (List.pairwise_lt_range (n:=e+1));obtain⟨x,_,rfl⟩:=E4.mp g;obtain⟨y,_,rfl⟩:=E4.mp hd;exact i);exact this
def gY{t:SetTable}(h:GY led t)(es:Array (Int×Value))(a:Nat):GY led (relayAll t es a).2.1:=by
 unfold relayAll;cases c:t.relaid (es.map (·.1)) a with|none=>exact RP h _|some r=>obtain⟨b,order⟩:=r;dsimp only;split;have:=KE c;rw[h.led] at this;exact this;exact RP h _
section
variable {prog:Program} {w:World} {α:Type} [DecidableEq α] [BEq α] [LawfulBEq α]
def B5 (knd:KeyKind prog w α) (I:Bool) (hp:Heap) (D:Addr) (M:α->Bool) (n:Nat):Prop:=
 ∃(ob:Obj)(es:Array (Int×Value))(ep:Nat)(tb:SetTable),hp.get? D=some ob/\ob.ExactSet/\ob.data=.set es ep tb/\ElemsOf knd es.toList/\(∀y,M y=true↔∃e∈es.toList,knd.is y e.2=true)/\es.size<scanBound/\tb.fits es.size=true/\es.size=n/\GY I tb
variable {knd:KeyKind prog w α} {I:Bool} {A:Around} {E:D'} {s:Shared} {D:Addr}
variable {M:α->Bool}
def B5.keep{a b:Heap}(x:B5 knd I a D M n)(k:∀ob,a.get? D=some ob->b.get? D=some ob):B5 knd I b D M n:=by obtain⟨ob,c,d,e,f,x⟩:=x;exact⟨ob,c,d,e,k _ f,x⟩
def B5.cong{a:Heap}{b:α->Bool}{c:Nat}(x:B5 knd I a D M n)(d:∀y,b y=M y)(e:c=n):B5 knd I a D b c:=by obtain⟨f,g,h,i,j,k,l,m,o,p,q,r,s⟩:=x;exact⟨f,g,h,i,j,k,l,m,λy=>by rw[d];exact o y,p,q,by rw[e];exact r,s⟩
variable {tb:SetTable}
def Na(x:GY I tb):GY I {tb with plain:=false}:=⟨x.ris,x.dum,x.led⟩
def YB{ob:Obj}{es a:Array (Int×Value)}{ep:Nat}{b:SetTable}(h:s.heap.get? D=some ob)(d:ob.ExactSet)(i:ob.data=.set es ep tb)(j:ElemsOf knd a.toList)(k:∀y,M y=true↔∃e∈a.toList,knd.is y e.2=true)(f:a.size<scanBound)(l:b.fits a.size=true)(n:GY I b){Q:Unit->Shared->Prop}
 (q:∀c,Heap.SameBut D s.heap c->(∃g,c.get? D=some g/\g.ExactSet/\g.data=.set a (ep+1) b)->B5 knd I c D M a.size->Q () {s with heap:=c}):wpAny (model prog w) A (storeSet D a b) Q E s:=by
 obtain⟨m,_⟩:=SetOf_store (knd:=knd) h d i j k f l;exact wpAny_storeSet_of h i (q _ (t6 ..) ⟨_,m,d,rfl⟩ ⟨_,a,ep+1,b,m,d,rfl,j,k,f,l,rfl,n⟩) (fits_of_scanBound f)
def YC{l:Array (Int×Value)}{m:List (Int×Value)}(p:l.toList.Perm m):l.size=m.length:=by rw[<-Array.length_toList,p.length_eq]
def Vm(b:Bool){u:Shared}{Q:Unit->Shared->Prop}(q:Q () u):wpAny (model prog w) A (match b with|true=>rule "set.scan.the-table-gave-way"|false=>pure ()) Q E u:=by cases b;exact Ax q;exact HH q
def YD{ob:Obj}{es c:Array (Int×Value)}{ep:Nat}{d:SetTable}(r:s.heap.get? D=some ob)(t:ob.ExactSet)(v:ob.data=.set es ep tb)(i:ElemsOf knd c.toList)(j:∀y,M y=true↔∃e∈c.toList,knd.is y e.2=true)(k:c.size<scanBound)(x:d.fits c.size=true)(l:GY I d){z:Bool}{Q:Option Bool->Shared->Prop}
 {g:Bool->Sem Unit} (B:∀(b:Bool)(u:Shared)(m:Unit->Shared->Prop),m () u->wpAny (model prog w) A (g b) m E u)
 (q:∀f,Heap.SameBut D s.heap f->B5 knd I f D M c.size->Q (some true) {s with heap:=f}) :
 wpAny (model prog w) A (storeSet D c d >>= λ_=>if(!z && d.tooFull)=true then g (relayAll d c (SetTable.grown c.size)).2.2 >>= λ_=>storeSet D (relayAll d c (SetTable.grown c.size)).1 (relayAll d c (SetTable.grown c.size)).2.1 >>= λ_=>pure (some true) else pure (some true)) Q E s:=by
 refine Ad (YB r t v i j k x l λf n⟨S,C,F,G⟩H=>?_);split;have h:=relayAll_perm d c (SetTable.grown c.size);have o:=relayAll_fits d c (SetTable.grown c.size);have tk:=gY l c (SetTable.grown c.size);generalize relayAll d c (SetTable.grown c.size)=J at h o tk;obtain⟨K,P,R⟩:=J;have p:K.size=c.size:=(YC h).trans (Array.length_toList ..);refine Ad (B _ _ _ (Ad ?_));refine YB (s:={s with heap:=f}) C F G (i.perm h) (λy=>(j y).trans ⟨λ⟨e,a,b⟩=>⟨e,h.mem_iff.mpr a,b⟩,λ⟨e,a,b⟩=>⟨e,h.mem_iff.mp a,b⟩⟩) (by rw[p];exact k) o tk λL N _ O=>?_;exact Ax (q L (n.trans N) (O.cong (λ_=>rfl) p.symm));exact Ax (q f n H)
def KG{y:α}{x:Value}{Q:Bool->Shared->Prop}(t:knd.is y x=true)(v:x.scannable=true)(S:B5 knd I s.heap D M n)(aa:n+1<scanBound)
 (q:∀a,Heap.SameBut D s.heap a->B5 knd I a D (λz=>M z || decide (z=y)) (if M y then n else n+1)->Q (!M y) {s with heap:=a}):wpAny (model prog w) A (setAddHashed D x (knd.hash y)) Q E s:=by
 obtain⟨T,d,U,tb,g,B,h,o,p,G,C,H,J⟩:=S;unfold setAddHashed setAddHashedIn;refine FD (Ad (wpAny_setState_of g h C ?_));dsimp only;rw[byScan_of v G o,Ag rfl];unfold setAddByScan;refine Ad (Ad (HH (Ad (wpAny_setScan_of t g h C o ?_))))
 cases fd:List.findIdx? (λe=>knd.is y e.2) d.toList with
 |some j=>
  obtain⟨V,W,_⟩:=List.findIdx?_eq_some_iff_getElem.mp fd;have i:M y=true:=(p y).mpr ⟨_,Ez V,W⟩;dsimp only;refine Ax (Ax ?_)
  have P:=q s.heap (Heap.SameBut.refl ..) ⟨T,d,U,tb,g,B,h,o,λz=>by
   rw[<-p z,Bool.or_eq_true,decide_eq_true_eq];refine⟨λc=>?_,.inl⟩;rcases c with c|c;exact c;rw[c];exact i,G,C,by rw[i];exact H,J⟩
  rw[i] at P;exact P
 |none=>
  have i:M y=false:=by
   cases c:M y with|false=>rfl|true=>obtain⟨e,X,Y⟩:=(p y).mp c;have:=List.findIdx?_eq_none_iff.mp fd e X;rw[Y] at this;cases this
  dsimp only;have f:=layNew_perm tb d (knd.hash y) x;have k:=layNew_fits tb d (knd.hash y) x;have tk:=gX J d (knd.hash y) x;generalize layNew tb d (knd.hash y) x=Z at f k tk;obtain⟨r,t1,wd,gv⟩:=Z;dsimp only at f k tk;rw[Array.toList_push] at f;have K:r.size=n+1:=by rw[YC f,A1,Array.length_toList,H];rfl
  have L:ElemsOf knd r.toList:=(o.push t v).perm f;have N:=mem_push_iff t p f;have O:r.size<scanBound:=by rw[K];exact aa
  have R:∀a,Heap.SameBut D s.heap a->B5 knd I a D (λz=>M z || decide (z=y)) r.size->Q true {s with heap:=a}:=λa l m=>by
   have:=q a l;rw[i] at this;exact this (m.cong (λ_=>rfl) K.symm)
  refine Ad (Vm _ ?_);split;rw[hashByValue_scannable 8 v];refine Ad (Ax ?_);refine YD g B h L N O (by split;exact k;exact SetTable.fits_plain_off k) (by split;exact tk;exact Na tk) (λb u Q' F=>Vm b F) λa l m=>?_;exact Ax (R a l m);refine Ad (Ax ?_);rw[Ag rfl];exact YD g B h L N O k tk (λb u Q' F=>Vm b F) λa l m=>Ax (R a l m)
end
abbrev BX (w:World):Bool:=!(w.params.followText "set-order")
abbrev ID (b:Bool):Obj:={cls:=.type "set",dict:=none,data:=.set #[] 0 (.fresh 0 0 b)}
section
variable {prog:Program} {w:World} {A:Around} {E:D'} {s:Shared}
theorem KH(x:Value){Q:D'}(q:Q (.ref s.heap.objs.size) {s with heap:=s.heap.push (ID (BX w))}) :
 codeAny (model prog w) A (.call (.builtin "set.__new__") ⟨[.type "set",x],[]⟩) (wants Q E) s:=by
 refine codeAny_of_tree ?_;show wpAny _ A.in1 (checkBuiltinCall "set.__new__" ⟨[.type "set",x],[]⟩ >>= λ_=>again (.builtin "set.__new__" ⟨[.type "set",x],[]⟩)) _ _ s;refine Ad (wpAny_of_eq (F.newCall_set_1 x) (Ax ⟨plainId_quiet F.plain_set_new _,codeAny_builtin F.entry_set_new ?_⟩));rw[t8 F.plain_set_new _];have a:=sub_set_self;unfold Builtin.«set.__new__» Builtin.Frozenset.newClass
 cases s with
 |mk b g d tk os=>
  dsimp only at q ⊢
  wp_walk
  refine wpAny_askSetting (Ax ?_);dsimp only;simp only[newObj];exact Ad (wpAny_alloc (Ax (Ax q)))
end
def B6 (f:Nat->Int) (i:Nat):F':=((List.range i).map f).foldl step_dedup []
def Qa(f:Nat->Int)(i:Nat):B6 f (i+1)=step_dedup (B6 f i) (f i):=by unfold B6;rw[List.range_succ,Ba,OU];rfl
def IE(l:F')(x:Int):(step_dedup l x).length=if l.any (·==x) then l.length else l.length+1:=by unfold step_dedup;split<;>simp
def IF(l:F')(x y:Int):(step_dedup l x).any (·==y)=(l.any (·==y) || decide (y=x)):=by
 unfold step_dedup;by_cases h:l.any (·==x)=true;rw[Ag h];by_cases e:y=x;subst e;rw[h];rfl;rw[DL e,Bool.or_false];rw[Ah h,List.any_append];congr 1;by_cases e:y=x;subst e;simp;rw[DL e];simp;exact λz=>e z.symm
theorem YE(f:Nat->Int):∀i,(B6 f i).length<=i
 |0=>AF _
 |i+1=>by have:=YE f i;rw[Qa,IE];split<;>lia
theorem YF(f:Nat->Int):∀(i:Nat)(y:Int),(B6 f i).any (·==y)=true↔∃j,j<i/\f j=y
 |0,y=>by constructor;intro h;cases h;rintro⟨j,h,_⟩;lia
 |i+1,y=>by rw[Qa,IF,Bool.or_eq_true,YF f i y,decide_eq_true_iff];constructor;rintro(⟨j,h,e⟩|e);exact⟨j,by lia,e⟩;exact⟨i,by lia,e.symm⟩;rintro⟨j,h,e⟩;by_cases a:j=i;subst a;exact .inr e.symm;exact .inl ⟨j,by lia,e⟩
section
variable {prog:Program} {w:World} {A:Around} {R:Result->Shared->Prop} {It:Addr} {fp u:I'} {G:Array GenState->Array GenState->Prop} {n:Nat} {Pn:Nat->Value->Prop} {Sn:Nat->Shared->Prop}
theorem gZ(c:WalksS prog w A.in1 It fp u G n Pn Sn)(D:Addr)(l:D∉fp)(f:Nat->Int)(r:∀i v,Pn i v->∃t,v=.int (f i) t)(S:n+1<scanBound) :
 ∀(k i:Nat)(s:Shared),n-i=k->i<=n->Sn i s->B5 (intKind prog w) (BX w) s.heap D (λy=>(B6 f i).any (·==y)) (B6 f i).length ->
  (∀L,Moved (D::u) G s L->B5 (intKind prog w) (BX w) L.heap D (λy=>(B6 f n).any (·==y)) (B6 f n).length->R (.ok (.ret .none)) L) ->
  codeAny (model prog w) A (.builtin "set.update.loop" ⟨[.ref D,.ref It],[]⟩) R s:=by
 have p:D∉u:=λz=>l (c.sub _ z);have sub:∀b∈u,b∈D::u:=λb z=>BQ _ z;intro k
 induction k with
 |zero=>
  intro i s x B st g j;obtain rfl:i=n:=by lia
  refine codeAny_builtin F.entry_set_update_loop ?_;rw[t8 F.plain_set_update_loop _];show wpAny _ A.in1 (pyNext (.ref It) >>= _) _ _ s;refine Ad (c.done s _ _ st λa d=>?_);show wpAny _ A.in1 (ret Value.none) _ _ a;refine Ax (j a (d.mono sub) ?_);exact g.keep λC e=>d.heap D _ p e
 |succ k E=>
  intro i s x B st g j;have lt:i<n:=(by lia);refine codeAny_builtin F.entry_set_update_loop ?_;rw[t8 F.plain_set_update_loop _];show wpAny _ A.in1 (pyNext (.ref It) >>= _) _ _ s;refine Ad (c.item i s _ _ lt st λv a pv J d=>?_);obtain⟨t,rfl⟩:=r i v pv;have K:B5 (intKind prog w) (BX w) a.heap D (λy=>(B6 f i).any (·==y)) (B6 f i).length:=g.keep λC e=>d.heap D _ p e;show wpAny _ A.in1 (holding [Value.int (f i) t] (setAdd D (.int (f i) t)) >>= _) _ _ a;refine Ad (FD ?_);unfold setAdd;refine FD ?_;have q:(intKind prog w).is (f i) (.int (f i) t)=true:=intKind_is _ _ _ _;refine Ad ((intKind prog w).pyHash (k:=f i) q ?_);have Q:(B6 f i).length+1<scanBound:=by have:=YE f i;lia
  refine KG (knd:=intKind prog w) (s:={a with toks:=a.toks+1}) q rfl K Q λH m M=>?_
  have N:B5 (intKind prog w) (BX w) H D (λy=>(B6 f (i+1)).any (·==y)) (B6 f (i+1)).length:=
   M.cong (λy=>by rw[Qa,IF]) (by rw[Qa,IE])
  refine Ax ⟨plainId_quiet F.plain_set_update_loop _,E (i+1) _ (by lia) lt (c.frame _ a _ _ J (Nat.le_succ _) λb h o e=>?_) N λI O P=>?_⟩;rw[m.2 b λz:b=D=>l (by rw[<-z];exact h)];exact e;refine j I (Moved.trans c.gtrans ((d.mono sub).then_heap (Nat.le_succ _) λb o h e=>?_) O) P;rw[m.2 b λz:b=D=>h (by rw[z];exact Bg)];exact e
end
section
variable {prog:Program} {w:World} {A:Around} {E:D'} {s:Shared}
set_option maxRecDepth 100000 in
set_option maxHeartbeats 3200000 in
theorem g6 {l:Addr} {a:O'} {f:Nat->Int} {Q:D'} (J:A.handled=none) (K:s.heap.IsList l a) (L:∀ (i:Nat) (v:Value),a[i]? = some v -> ∃ t,v=.int (f i) t) (d:a.size + 1 < scanBound)
 (h:∀(h':Heap)(tk:Nat),B5 (intKind prog w) (BX w) h' s.heap.objs.size (λy=>(B6 f a.size).any (·==y)) (B6 f a.size).length ->
  (∀b o,b<s.heap.objs.size->s.heap.get? b=some o->h'.get? b=some o)->Q (.ref s.heap.objs.size) {s with heap:=h',toks:=tk}) :
 wpAny (model prog w) A (call (.type "set") [.ref l]) Q E s:=by
 obtain⟨c,tl,ao⟩:=F.called_set.mro;have av:=F.called_set.made;have aq:=F.called_set.sub;refine wpAny_call (codeAny_of_tree ?_);show wpAny _ _ (callAny (.type "set") _) _ _ _;refine Ax ⟨Code.quiet_builtin _ (by decide +kernel),codeAny_builtin F.entry_type_call ?_⟩;rw[Around.under_plain (weight_type_call_type "set" [.ref l] []) rfl];have h1:=F.called_set.notType;have h2:=F.called_set.canCreate;have ai:=F.typeCall_set_1 (.ref l)
 repeat (any_goals (first|assumption|wp_step))
 refine codeAny_mono (KH (.ref l) (E:=E) (Q:=λn p=>n=.ref s.heap.objs.size/\p={s with heap:=s.heap.push (ID (BX w))}) ⟨rfl,rfl⟩) λr p j=>?_
 cases r with
 |error e=>exact j
 | ok M=>
  cases M with
  | ret n=>
   obtain⟨rfl,rfl⟩:=j;have q:(s.heap.push (ID (BX w))).get? s.heap.objs.size=some (ID (BX w)):=B9 _ rfl;have N:Shared.TypeIs {s with heap:=s.heap.push (ID (BX w))} (.ref s.heap.objs.size) "set" :=⟨_,q,rfl⟩;have aj:=F.called_set.init.lookup;have ak:=F.called_set.init.bind (.ref s.heap.objs.size)
   repeat (any_goals (first|assumption|wp_step))
   refine codeAny_mono (codeAny_call_builtin (R:=wants (λr u=>r=.none/\∃h' tk,u={s with heap:=h',toks:=tk}/\B5 (intKind prog w) (BX w) h' s.heap.objs.size (λy=>(B6 f a.size).any (·==y)) (B6 f a.size).length /\
    (∀b o,b<s.heap.objs.size->s.heap.get? b=some o->h'.get? b=some o)) E) F.called_set.init.plain F.entry_set_init (check_set_init_1 N ?_)) λO u k=>?_
   . obtain⟨⟨oc,P,al,W⟩,C,D,x,G⟩:=K
     simp only at D G;subst D;subst G;have ah:(s.heap.push (ID (BX w))).get? l=some {cls:=.type "list",dict:=P,data:=.seq a x,slots:=W}:=Bb _ C;have ar:=F.sub_list_set;have au:=F.sub_list_frozenset;have an:(Value.type "list" == Value.type "dict")=false:=(by decide);have H:(s.heap.push (ID (BX w))).IsList l a:=⟨_,ah,rfl,x,rfl⟩;unfold Builtin.«set.__init__» noKeywords Builtin.Frozenset.updateFrom;generalize X:pyIter=PI
     wp_walk
     subst X;refine wpAny_pyIter_list H (Ad (wpAny_runValue ?_));have I:l<s.heap.objs.size:=Bq C;have Y:A.in1.in1.in1.handled=none:=(by simp[J]);have Z:l≠(s.heap.push (ID (BX w))).objs.size:=(by rw[r9];exact Cz (Nat.lt_succ_of_lt I));have aa:s.heap.objs.size∉[(s.heap.push (ID (BX w))).objs.size,l]:=(by rw[r9];intro z;rcases B1.mp z with z|z;exact absurd z (Cz (OV _));exact absurd (AR.mp z) (Nat.ne_of_gt I));refine gZ ((Walks.list Y _ l Z a).toS) s.heap.objs.size aa f L d (a.size-0) 0 _ (by lia) (Dp _) ⟨⟨_,B9 _ rfl,rfl,rfl⟩,(H.push _)⟩ ?hS0 ?hR
     case hS0 =>
      have S:((s.heap.push (ID (BX w))).push {cls:=.type "list_iterator",data:=.fields #[.ref l,.int 0 0]}).get? s.heap.objs.size=some (ID (BX w)):=Bb _ q;exact⟨_,#[],0,_,S,⟨rfl,rfl,rfl⟩,rfl,(λe T=>by simp at T),(λy=>by simp[B6]),by decide,rfl,rfl,⟨List.Pairwise.nil,rfl,rfl⟩⟩
     case hR =>
      rintro⟨h',U,V,ab,ae⟩ g m;obtain rfl:U=s.gens:=g.gens;obtain rfl:V=s.drawn:=g.drawn;obtain rfl:ae=s.os:=g.os;show wpAny _ _ _ _ _ _;refine Ax ?_;show wpAny _ _ (ret Value.none) _ _ _;refine Ax ⟨rfl,h',ab,rfl,m,λb o d e=>?_⟩;refine g.heap b o (λz=>?_) (Bb _ (Bb _ e));rcases B1.mp z with z|z;exact absurd z (Cz d);have B:=AR.mp z;rw[r9] at B;exact absurd B (Cz (Nat.lt_succ_of_lt d))
   . cases O with
     |error e=>exact k
     |ok af=>
      cases af with
      |ret r=>
       obtain⟨rfl,h',tk,rfl,m,ag⟩:=k
       repeat (any_goals (first|assumption|wp_step))
       exact h _ _ m ag
      |_=>exact k.elim
  |_=>exact j.elim
end
def g8:entryFor table "set.__iter__" = some Builtin.«frozenset.__iter__»:=entryFor_alias (id':= "frozenset.__iter__") (by kernel_rfl) rfl (by decide +kernel) (by kernel_rfl)
def BF:Slot "set_iterator" "__next__" "set_iterator.__next__" :=.of (owner:= "set_iterator") (n:= "__next__") (by rw[typeLookup_type,builtinLookup_eq_fast];kernel_rfl) (by decide +kernel) (by decide +kernel) (by decide +kernel) (by first|exact .inl (by decide +kernel)|exact .inr (by decide +kernel)) (by rw[isSubtype_type];kernel_rfl)
def RQ:entryFor table "set_iterator.__next__" = some Builtin.«set_iterator.__next__»:=entryFor_of_tree (by kernel_rfl)
def YG:Manifest.owners.lookup (String.ofList ['r','o','t','a','r','e','t','i','_','t','e','s'].reverse)=some Manifest.sig_set_iterator:=by kernel_rfl
def RS(a:Value):argsOk "set_iterator.__next__" ⟨[a],[]⟩:=by unfold argsOk;rw[signature?_of (id:= "set_iterator.__next__") (n:=['_','_','t','x','e','n','_','_']) (o:=['r','o','t','a','r','e','t','i','_','t','e','s']) (by kernel_rfl) YG];kernel_rfl
abbrev EL (f:Value) (i n ep:Nat) (D:Addr):Obj:={cls:=.type "set_iterator",data:=.fields #[f,rawInt i,.ref D,rawInt n,rawInt ep]}
structure Fj (hp:Heap) (D:Addr) (es:Array (Int×Value)) (ep:Nat) (tb:SetTable):Prop where
 ex:∃ob,hp.get? D=some ob/\ob.ExactSet/\ob.data=.set es ep tb
 fit:tb.fits es.size=true
section
variable {prog:Program} {w:World} {A:Around} {E:D'} {s:Shared} {It D:Addr} {es:Array (Int×Value)} {ep:Nat} {tb:SetTable}
def Fj.entries(x:Fj s.heap D es ep tb){Q:Array (Int×Value)->Shared->Prop}(q:Q es s):wpAny (model prog w) A (setEntries D) Q E s:=by obtain⟨b,a,_,c⟩:=x.ex;exact wpAny_setEntries_of a c x.fit q
def Fj.state(x:Fj s.heap D es ep tb){Q:(Array (Int×Value)×Nat×SetTable)->Shared->Prop}(q:Q (es,ep,tb) s):wpAny (model prog w) A (setState D) Q E s:=by obtain⟨b,a,_,c⟩:=x.ex;exact wpAny_setState_of a c x.fit q
def Fj.keep{c d:Heap}(x:Fj c D es ep tb)(k:∀ob,c.get? D=some ob->d.get? D=some ob):Fj d D es ep tb:=by obtain⟨ob,a,b⟩:=x.ex;exact⟨⟨ob,k _ a,b⟩,x.fit⟩
def hE{c a:Nat}{v:Value}{Q:L'->Shared->Prop}(hit:s.heap.get? It=some (EL (rawInt c) i es.size ep D))(g:Fj s.heap D es ep tb)
 (h:∀(B:Around)(j:D')(d:Option (Value×Nat)->Shared->Prop),d (some (v,a)) s->wpAny (model prog w) B (setNext D c i ep) d j s)
 (q:∀b,b.get? It=some (EL (rawInt a) (i+1) es.size ep D)->Heap.SameBut It s.heap b->Q (some v) {s with heap:=b}):wpAny (model prog w) A (pyNext (.ref It)) Q E s:=by
 have e:s.TypeIs (.ref It) "set_iterator" :=⟨_,hit,rfl⟩;unfold pyNext;refine Ad (wpAny_attempt (wpAny_callSpecial?_slot (name:=Str.ofString "__next__") e BF (wpAny_call_entry BF e RQ ?_ (RS _))));unfold Builtin.«set_iterator.__next__» slotArgs;simp only[List.isEmpty_nil,Bool.not_true,FC,↓reduceIte,Hc,bne_self_eq_false];refine Ad (Ax ?_);refine Ad (wpAny_fieldsOf hit rfl ?_);show wpAny _ _ (setEntries D >>= _) _ _ s;refine Ad (g.entries ?_);rw[Ah (by simp)];refine Ad (h _ _ _ ?_);show wpAny _ _ (setField (Value.ref It) 0 (rawInt a) >>= _) _ _ s;refine Ad (wpAny_setField hit rfl (by simp) ?_);have f:(s.heap.update It (Obj.mapFields (·.setIfInBounds 0 (rawInt a)))).get? It=some (EL (rawInt a) i es.size ep D):=t5 _ hit rfl;refine Ad (wpAny_setField f rfl (by simp) ?_);have k:=t5 (Obj.mapFields (·.setIfInBounds 1 (rawInt ((i:Int)+1)))) f rfl;exact Ax ⟨_,rfl,Ax (q _ k ((t6 ..).trans (t6 ..)))⟩
def YH{vs:O'}{ob:Obj}{Q:L'->Shared->Prop}(d:A.handled=none)(hit:s.heap.get? It=some ob)(hd:ob.data=.fields vs)(hz:2<vs.size)
 (q:∀c,Heap.ExtBut It s.heap c->Q none {s with heap:=c}):wpAny (model prog w) A.in1 (setField (Value.ref It) 2 Value.none >>= λ_=>newExc (Value.type "StopIteration") [] >>= λe=>raiseNew (α:=Fin) e) (λf L=>∃v,f=Fin.done (Flow.ret v)/\wpAny (model prog w) A (pure (some v)) Q E L)
  (λe L=>wpAny (model prog w) A (isInstance e (Value.type "StopIteration") >>= λb=>if b=true then pure none else throw e) Q E L) s:=by
 refine Ad (wpAny_setField hit hd hz ?_);refine Ad ?_;simp only[newExc,newTuple];refine Ad (wpAny_newObj_type ?_ (by size_fits));refine Ad (m:=firstArgMember _ _) (wpAny_of_eq (a:=Value.none) (by first|rfl|(simp only[firstArgMember];rfl)) ?_);refine wpAny_newObj_type ?_ (by size_fits);simp only[raiseNew];refine Ad (wpAny_handled ?_);rw[show A.in1.handled=none from d];refine Ad (Ax (wpAny_throw ?_));refine Ad (wpAny_isInstance (T:= "StopIteration") (b:=true) ⟨_,B9 _ rfl,rfl⟩ isSubtype_stop ?_);exact Ax (q _ (((t6 ..).extBut.push _).push _))
def hH{a:Nat}{Q:L'->Shared->Prop}(e:A.handled=none)(hit:s.heap.get? It=some (EL (rawInt a) i es.size ep D))(f:Fj s.heap D es ep tb)
 (g:∀(B:Around)(h:D')(b:Option (Value×Nat)->Shared->Prop),b none s->wpAny (model prog w) B (setNext D a i ep) b h s)
 (q:∀c,Heap.ExtBut It s.heap c->Q none {s with heap:=c}):wpAny (model prog w) A (pyNext (.ref It)) Q E s:=by
 have d:s.TypeIs (.ref It) "set_iterator" :=⟨_,hit,rfl⟩;unfold pyNext;refine Ad (wpAny_attempt (wpAny_callSpecial?_slot (name:=Str.ofString "__next__") d BF (wpAny_call_entry BF d RQ ?_ (RS _))));unfold Builtin.«set_iterator.__next__» slotArgs;simp only[List.isEmpty_nil,Bool.not_true,FC,↓reduceIte,Hc,bne_self_eq_false];refine Ad (Ax ?_);refine Ad (wpAny_fieldsOf hit rfl ?_);show wpAny _ _ (setEntries D >>= _) _ _ s;refine Ad (f.entries ?_);rw[Ah (by simp)];refine Ad (g _ _ _ ?_);exact YH e hit rfl (by simp) q
def hI{ps:O'}{p:Nat}{t:Tok}{v:Value}{hv:Int}{Q:L'->Shared->Prop}(hit:s.heap.get? It=some (EL (.ref T) i es.size ep D))(b:Fj s.heap D es ep tb)(f:s.heap.IsTuple T ps)(a:ps[i]?=some (.int p t))(hv:es[p]?=some (hv,v))
 (q:∀a,a.get? It=some (EL (.ref T) (i+1) es.size ep D)->Heap.SameBut It s.heap a->Q (some v) {s with heap:=a}):wpAny (model prog w) A (pyNext (.ref It)) Q E s:=by
 have c:s.TypeIs (.ref It) "set_iterator" :=⟨_,hit,rfl⟩;obtain⟨g,d,h,nn,dt⟩:=f;unfold pyNext;refine Ad (wpAny_attempt (wpAny_callSpecial?_slot (name:=Str.ofString "__next__") c BF (wpAny_call_entry BF c RQ ?_ (RS _))));unfold Builtin.«set_iterator.__next__» slotArgs;simp only[List.isEmpty_nil,Bool.not_true,FC,↓reduceIte,Hc,bne_self_eq_false];refine Ad (Ax ?_);refine Ad (wpAny_fieldsOf hit rfl ?_);show wpAny _ _ (setEntries D >>= _) _ _ s;refine Ad (b.entries ?_);rw[Ah (by simp)];show wpAny _ _ (seqItems? (.ref T) >>= _) _ _ s;refine Ad (Gy d dt ?_);show wpAny _ _ (match ps[i]? with|some (Value.int place tok)=>_|some val=>_|none=>_) _ _ s
 rw[a];show wpAny _ _ (setNextDrawn D p ep >>= _) _ _ s;refine Ad ?_;unfold setNextDrawn;refine Ad (b.state ?_);dsimp only;rw[Ah (by simp)];rw[hv];refine Ax ?_;show wpAny _ _ (setField (Value.ref It) 1 (rawInt ((i:Int)+1)) >>= _) _ _ s;refine Ad (wpAny_setField hit rfl (by simp) ?_);have e:=t5 (Obj.mapFields (·.setIfInBounds 1 (rawInt ((i:Int)+1)))) hit rfl;exact Ax ⟨_,rfl,Ax (q _ e (t6 ..))⟩
def hJ{ps:O'}{Q:L'->Shared->Prop}(c:A.handled=none)(hit:s.heap.get? It=some (EL (.ref T) i es.size ep D))(d:Fj s.heap D es ep tb)(g:s.heap.IsTuple T ps)(a:ps[i]?=none)
 (q:∀a,Heap.ExtBut It s.heap a->Q none {s with heap:=a}):wpAny (model prog w) A (pyNext (.ref It)) Q E s:=by
 have b:s.TypeIs (.ref It) "set_iterator" :=⟨_,hit,rfl⟩;obtain⟨h,e,j,nn,dt⟩:=g;unfold pyNext;refine Ad (wpAny_attempt (wpAny_callSpecial?_slot (name:=Str.ofString "__next__") b BF (wpAny_call_entry BF b RQ ?_ (RS _))));unfold Builtin.«set_iterator.__next__» slotArgs;simp only[List.isEmpty_nil,Bool.not_true,FC,↓reduceIte,Hc,bne_self_eq_false];refine Ad (Ax ?_);refine Ad (wpAny_fieldsOf hit rfl ?_);show wpAny _ _ (setEntries D >>= _) _ _ s;refine Ad (d.entries ?_);rw[Ah (by simp)];show wpAny _ _ (seqItems? (.ref T) >>= _) _ _ s;refine Ad (Gy e dt ?_);show wpAny _ _ (match ps[i]? with|some (Value.int place tok)=>_|some val=>_|none=>_) _ _ s
 rw[a];show wpAny _ _ (setField (Value.ref It) 0 (rawInt 0) >>= _) _ _ s;refine Ad (wpAny_setField hit rfl (by simp) ?_);have f:=t5 (Obj.mapFields (·.setIfInBounds 0 (rawInt 0))) hit rfl;exact YH c f rfl (by simp) λa ex=>q a ((t6 ..).extBut.trans ex)
def IG{v:Value}{n:Int}(h:(intKind prog w).is n v=true):∃t,v=.int n t:=by have a:Value.isInt n v=true:=h;cases v<;>simp[Value.isInt] at a;subst a;exact⟨_,rfl⟩
theorem Vn{α:Type}:∀{l:List α}{i:Nat}(h:i<l.length),(l[i]::l.eraseIdx i).Perm l
 |x::l,0,_=>List.Perm.refl _
 |x::l,i+1,h=>(List.Perm.swap x _ _).trans (List.Perm.cons x (Vn (l:=l) (i:=i) (by simpa using h)))
theorem YI{α:Type}(nx:Nat->Nat):∀(a k:Nat)(left:List α)(out:Array α),left.length=a->(pickOrder.go nx a k left out).toList.Perm (out.toList++left)
 |0,k,left,out,h=>by
   rw[List.length_eq_zero_iff.mp h];unfold pickOrder.go;simp
 |a+1,k,left,out,h=>by have b:nx k%left.length<left.length:=Nat.mod_lt _ (by lia);unfold pickOrder.go;rw[AD b];dsimp only;refine(YI nx a (k+1) _ _ (by rw[List.length_eraseIdx,Ag b];lia)).trans ?_;rw[Array.toList_push,Gu];refine List.Perm.append_left _ ?_;exact Vn b
def hQ{c:Source}{Q:Nat->Shared->Prop}(a:n≠0)(q:∀i b,i<n->Q i {s with drawn:=b}):wpAny (model prog w) A (choose c n) Q E s:=
 λ_ _ _=>⟨a,q _ _ (Nat.mod_lt _ (Nat.pos_of_ne_zero a))⟩
theorem YJ{α:Type}:∀(n:Nat)(xs:List α){A:Around}{E:D'}{s:Shared}{Q:List α->Shared->Prop},xs.length=n->(∀ys b,ys.Perm xs->Q ys {s with drawn:=b})->wpAny (model prog w) A (drawOrder n xs) Q E s
 |0,xs,A,E,s,Q,h,q=>by have e:=List.length_eq_zero_iff.mp h;subst e;unfold drawOrder;exact Ax (q [] s.drawn (List.Perm.refl _))
 |n+1,[],A,E,s,Q,h,q=>by cases h
 |n+1,x::xs,A,E,s,Q,h,q=>by unfold drawOrder;refine Ad (hQ (by simp) λi b a=>?_);rw[AD a];dsimp only;refine Ad (YJ n _ (by rw[List.length_eraseIdx,Ag a];lia) λys d c=>?_);exact Ax (q _ d ((List.Perm.cons _ c).trans (Vn a)))
end
def YK:Slot "set_iterator" "__iter__" "set_iterator.__iter__" :=.of (owner:= "set_iterator") (n:= "__iter__") (by rw[typeLookup_type,builtinLookup_eq_fast];kernel_rfl) (by decide +kernel) (by decide +kernel) (by decide +kernel) (by first|exact .inl (by decide +kernel)|exact .inr (by decide +kernel)) (by rw[isSubtype_type];kernel_rfl)
def hV:entryFor table "set_iterator.__iter__" = some Builtin.«dict_keyiterator.__iter__»:=entryFor_alias (id':= "dict_keyiterator.__iter__") (by kernel_rfl) rfl (by decide +kernel) (by kernel_rfl)
def hW(a:Value):argsOk "set_iterator.__iter__" ⟨[a],[]⟩:=by unfold argsOk;rw[signature?_of (id:= "set_iterator.__iter__") (n:=['_','_','r','e','t','i','_','_']) (o:=['r','o','t','a','r','e','t','i','_','t','e','s']) (by kernel_rfl) YG];kernel_rfl
section
variable {prog:Program} {w:World} {A:Around} {E:D'} {s:Shared} {It D:Addr} {es:Array (Int×Value)} {ep:Nat} {tb:SetTable}
def YL{f:Value}{Q:D'}(hit:s.heap.get? It=some (EL f i n ep D))(q:Q (.ref It) s):wpAny (model prog w) A (pyIter (.ref It)) Q E s:=by have a:s.TypeIs (.ref It) "set_iterator" :=⟨_,hit,rfl⟩;refine wpAny_pyIter_slot a YK (wpAny_call_entry YK a hV ?_ (hW _));show wpAny _ _ (ret (.ref It)) _ _ s;exact Ax ⟨_,rfl, "set_iterator",_,a,BF.lookup,q⟩
def Nb{b:Addr}(h:b∈[It]):b∈[It,D]:=by rw[AR.mp h];exact Bg
def YM(p:A.handled=none)(r:It≠D)(f:Nat->Nat)(vs:G')(H:vs.length=es.size)
 (t:∀(i:Nat)(v:Value)(s:Shared)(B:Around)(d:D')(c:Option (Value×Nat)->Shared->Prop),vs[i]?=some v->Fj s.heap D es ep tb->c (some (v,f (i+1))) s->wpAny (model prog w) B (setNext D (f i) i ep) c d s)
 (u:∀(s:Shared)(B:Around)(d:D')(c:Option (Value×Nat)->Shared->Prop),Fj s.heap D es ep tb->c none s->wpAny (model prog w) B (setNext D (f es.size) es.size ep) c d s) :
 Walks prog w A It [It,D] [It] es.size (λi v=>vs[i]?=some v) (λi h=>h.get? It=some (EL (rawInt (f i)) i es.size ep D)/\Fj h D es ep tb) where
 sub:=λb y=>Nb y
 frame:=λi h I⟨a,b⟩k=>⟨k It Bg _ a,b.keep λC e=>k D (by simp) _ e⟩
 item:=λi s Q E J⟨a,b⟩q=>by have G:i<vs.length:=(by lia);have m:=AD G;refine hE (v:=vs[i]) a b (λB d c g=>t i _ s B d c m b g) λj F n=>?_;have:=q vs[i] j s.toks m ⟨F,b.keep λC e=>(n.2 D (Ne.symm r)).trans e⟩ λx o l e=>(n.2 x (λz=>l (by rw[z];exact Bg))).trans e;exact this
 done:=λs Q E⟨a,b⟩q=>hH p a b (λB d c g=>u s B d c b g) λj ex=>q j s.toks λx o l e=>ex x o (λz=>l (by rw[z];exact Bg)) e
 self:=λi s Q E⟨a,_⟩q=>YL a q
def hX(l:A.handled=none)(m:It≠D)(n:It≠T)(ps:R')(vs:G')(G:vs.length=es.size)(hv:∀(i:Nat)(v:Value),vs[i]?=some v->∃(p:Nat)(x:Int),ps[i]?=some p/\es[p]?=some (x,v))(d:ps.length=es.size) :
 Walks prog w A It [It,D,T] [It] es.size (λi v=>vs[i]?=some v) (λi h=>h.get? It=some (EL (.ref T) i es.size ep D)/\Fj h D es ep tb/\h.IsTuple T (ps.map λp:Nat=>rawInt (p:Int)).toArray) where
 sub:=λb r=>by rw[AR.mp r];exact Bg
 frame:=λi h H⟨a,b,c⟩k=>⟨k It Bg _ a,b.keep λu e=>k D (by simp) _ e,let ⟨o,e,x⟩:=c;⟨o,k T (by simp) _ e,x⟩⟩
 item:=λi s Q E I⟨a,b,c⟩q=>by have F:i<vs.length:=(by lia);have j:=AD F;obtain⟨p,x,y,B⟩:=hv i _ j;refine hI (v:=vs[i]) (hv:=x) (t:=0) a b c (by simp[y,rawInt]) B λd C f=>?_;exact q vs[i] d s.toks j ⟨C,b.keep λu e=>(f.2 D (Ne.symm m)).trans e,let ⟨o,e,x⟩:=c;⟨o,(f.2 T (Ne.symm n)).trans e,x⟩⟩ λx o g e=>(f.2 x (λz=>g (by rw[z];exact Bg))).trans e
 done:=λs Q E⟨a,b,c⟩q=>hJ l a b c (by simp[d]) λd ex=>q d s.toks λx o g e=>ex x o (λz=>g (by rw[z];exact Bg)) e
 self:=λi s Q E⟨a,_⟩q=>YL a q
structure Fk (prog:Program) (w:World) (A:Around) (h0 hp:Heap) (D It:Addr) (ks:F'):Prop where
 walk:∃(fp:I')(St:Nat->Heap->Prop),Walks prog w A It fp [It] ks.length (λi v=>∃t,v=.int (ks.getD i 0) t) St/\St 0 hp/\∀b∈fp,b=D\/h0.objs.size<=b
 keep:∀b o,h0.get? b=some o->hp.get? b=some o
 new:h0.objs.size<=It
def Walks.weaker{a u:I'}{P b:Nat->Value->Prop}{St:Nat->Heap->Prop}(W:Walks prog w A It a u n P St)(h:∀i v,P i v->b i v):Walks prog w A It a u n b St where
 sub:=W.sub
 frame:=W.frame
 item:=λi s Q E c st q=>W.item i s Q E c st λv d tk pv=>q v d tk (h i v pv)
 done:=W.done
 self:=W.self
def Vo{M:Int->Bool}{vs:G'}(s:ElemsOf (intKind prog w) es.toList)(u:∀y,M y=true↔∃e∈es.toList,(intKind prog w).is y e.2=true)(f:vs.Perm (es.toList.map (·.2))):∃ks:F',ks.length=vs.length/\(∀(i:Nat)(v:Value),vs[i]?=some v->∃t,v=.int (ks.getD i 0) t)/\∀y,M y=true↔y∈ks:=by
 have z:∀v∈vs,∃n t,v=Value.int n t:=λv g=>by
  obtain⟨e,c,rfl⟩:=AW.mp (f.mem_iff.mp g);obtain⟨⟨k,A,_⟩,_⟩:=s e c;obtain⟨t,j⟩:=IG A;exact⟨k,t,j⟩
 have B:∀l:G',(∀v∈l,∃n t,v=Value.int n t)->∃ks:F',ks.length=l.length/\∀(i:Nat)(v:Value),l[i]?=some v->∃t,v=.int (ks.getD i 0) t:=λl=>by
  induction l with
  |nil=>exact λ_=>⟨[],rfl,λi v h=>by cases h⟩
  |cons x l C=>
   intro q;obtain⟨ks,a,b⟩:=C λv g=>q v (BQ _ g);obtain⟨n,t,e⟩:=q x Bg;refine⟨n::ks,by simp[a],λi v h=>?_⟩;cases i with|zero=>simp at h;subst h;exact⟨t,e⟩|succ i=>simpa using b i v (by simpa using h)
 obtain⟨ks,a,b⟩:=B vs z;refine⟨ks,a,b,λy=>?_⟩;rw[u y];constructor;rintro⟨e,c,m⟩;obtain⟨t,j⟩:=IG m;have D:e.2∈vs:=f.mem_iff.mpr (AW.mpr ⟨e,c,rfl⟩);obtain⟨i,o,p⟩:=List.getElem_of_mem D;obtain⟨G,d⟩:=b i _ (AD o);rw[p,j] at d;have E:y=ks.getD i 0:=(by injection d);rw[E,CU,AD (show i<ks.length by lia)];exact Ez _;intro m;obtain⟨i,o,p⟩:=List.getElem_of_mem m;have r:i<vs.length:=(by lia);obtain⟨t,d⟩:=b i _ (AD r);obtain⟨e,c,F⟩:=AW.mp (f.mem_iff.mp (Ez r));refine⟨e,c,?_⟩;rw[F,d,CU,AD o];show(intKind prog w).is y (.int ks[i] t)=true;rw[p];exact intKind_is _ _ _ _
def YN{ks:F'}:∀{vs:G'},vs.length=ks.length->(∀(i:Nat)(v:Value),vs[i]?=some v->∃t,v=.int (ks.getD i 0) t)->IntsAre vs ks:=by
 induction ks with
 |nil=>intro vs a _;cases vs with
   |nil=>exact .nil
   |cons _ _=>simp at a
 |cons x r b=>
  intro vs a h;cases vs with|nil=>simp at a|cons v vs=>obtain⟨t,e⟩:=h 0 v rfl;obtain rfl:v=.int x t:=e;exact .cons _ _ (b (by simpa using a) λi u c=>h (i+1) u (by simpa using c))
def Fk.of{a c:Heap}{d:I'}{m:Nat}{vs:G'}{St:Nat->Heap->Prop}{ks:F'}(W:Walks prog w A It d [It] m (λi v=>vs[i]?=some v) St)(e:ks.length=m)(f:∀(i:Nat)(v:Value),vs[i]?=some v->∃t,v=.int (ks.getD i 0) t)(st:St 0 c)(lt:∀b∈d,b=D\/a.objs.size<=b)(g:∀b o,a.get? b=some o->c.get? b=some o)(h:a.objs.size<=It):Fk prog w A a c D It ks:=
 ⟨⟨d,St,by rw[e];exact Walks.weaker W f,st,lt⟩,g,h⟩
def Vp{f:Value}{Q:D'}(b:Fj s.heap D es ep tb)(q:Q (.ref s.heap.objs.size) {s with heap:=s.heap.push (EL f 0 es.size ep D)}) :
 wpAny (model prog w) A (setEpoch D >>= λe=>newFields "set_iterator" [f,rawInt 0,Value.ref D,rawInt ↑es.size,rawInt ↑e] >>= λv=>ret v) (λg L=>∃v,g=Fin.done (Flow.ret v)/\∃d r,L.TypeIs v d/\typeLookup (Value.type d) (Str.ofString "__next__")=pure (some r)/\Q v L) E s:=by
 obtain⟨h,a,_,c⟩:=b.ex;refine Ad (wpAny_setEpoch_of a c b.fit ?_);refine Ad (wpAny_newObj_type (Ax ⟨_,rfl, "set_iterator",_,⟨_,B9 _ rfl,rfl⟩,BF.lookup,?_⟩));exact q
def YO{nx:Nat->Nat}{a:Nat}{v:Option (Value×Nat)}(d:w.params.followText "set-order" = true)(f:w.params.setOrder D ep=nx)(hv:((pickOrder nx es)[i]?).map (λe=>(e.2,a))=v)(b:Fj s.heap D es ep tb){Q:Option (Value×Nat)->Shared->Prop}(q:Q v s):wpAny (model prog w) A (setNext D a i ep) Q E s:=by unfold setNext;refine Ad (b.state ?_);dsimp only;unfold setsByText;refine Ad (Ad (wpAny_askSetting (Ax ?_)));have c:(model prog w).w.params.followText "set-order" = true:=d;dsimp only;rw[c,Ag rfl];rw[Ah (by simp)];refine Ad ?_;unfold setWalk setsByText;refine Ad (b.state ?_);dsimp only;refine Ad (Ad (wpAny_askSetting (Ax ?_)));dsimp only;rw[c,Ag rfl];refine Ad (wpAny_askSetting ?_);refine Ax ?_;have g:(model prog w).w.params.setOrder D ep=nx:=f;dsimp only;rw[g,hv];exact Ax q
def YQ{a:Nat}{v:Option (Value×Nat)}(c:w.params.followText "set-order" = false)(d:(!tb.plain && decide (es.size > 1))=false)(e:tb.led=true)(hv:(∃h x j,es[SetTable.below tb.place a]?=some (h,x)/\tb.place[SetTable.below tb.place a]?=some j/\v=some (x,j+1))\/(es[SetTable.below tb.place a]?=none/\v=none))(f:Fj s.heap D es ep tb){Q:Option (Value×Nat)->Shared->Prop}(q:Q v s):wpAny (model prog w) A (setNext D a i ep) Q E s:=by
 unfold setNext;refine Ad (f.state ?_);dsimp only;unfold setsByText;refine Ad (Ad (wpAny_askSetting (Ax ?_)));have k:(model prog w).w.params.followText "set-order" = false:=c;dsimp only;rw[k,Ah CA];refine wpAny_ite_split (λh=>absurd (show(!tb.plain && decide (es.size > 1))=true from h) (by rw[d];exact CA)) (λ_=>?_);refine Ad ?_;show wpAny _ _ (if(!tb.led && !es.isEmpty)=true then _ else _) _ _ _;rw[e];simp only[Bool.not_true,Bool.false_and,FC,↓reduceIte];refine Ax ?_;rcases hv with⟨h,x,j,b,g,rfl⟩|⟨b,rfl⟩;rw[b,g];exact Ax q;rw[b];exact Ax q
theorem iA {M:Int->Bool}{Q:D'} (J:A.handled=none) (hS:B5 (intKind prog w) (BX w) s.heap D M n)
 (q:∀(It:Addr)(t:Heap)(K:Drawn)(ks:F'),ks.length=n->(∀y,M y=true↔y∈ks)->Fk prog w A s.heap t D It ks->Q (.ref It) {s with heap:=t,drawn:=K}):wpAny (model prog w) A (pyIter (.ref D)) Q E s:=by
 obtain⟨u,es,ep,tb,N,Z,x3,O,P,x6,x7,R,S⟩:=hS;have l:Fj s.heap D es ep tb:=⟨⟨u,N,Z,x3⟩,x7⟩;have hT:s.TypeIs (.ref D) "set" :=⟨u,N,Z.1⟩;have aa:D<s.heap.objs.size:=Bq N;refine wpAny_pyIter_slot hT F.slot_set_iter (wpAny_call_entry F.slot_set_iter hT g8 ?_ (F.args_set_iter_1 _));unfold Builtin.«frozenset.__iter__» Builtin.Frozenset.slot0 slotArgs;simp only[List.isEmpty_nil,Bool.not_true,FC,↓reduceIte,bind_assoc,Hc,bne_self_eq_false];unfold Builtin.Frozenset.addrOf Builtin.Frozenset.sizeOf;refine Ad (Ax ?_);dsimp only;refine Ad (Ax ?_);refine Ad (Ad (l.entries (Ax ?_)));unfold setDrawn setsByText;refine Ad (Ad (l.state ?_));dsimp only;refine Ad (Ad (wpAny_askSetting (Ax ?_)));refine Ax ?_;dsimp only;have n0:s.heap.objs.size≠D:=Nat.ne_of_gt aa
 have ab:∀{b:Addr},b∈[s.heap.objs.size,D]->b=D\/s.heap.objs.size<=b:=λ{b}a=>by
  rcases B1.mp a with rfl|a;exact .inr (AF _);exact .inl (AR.mp a)
 cases G:(model prog w).w.params.followText "set-order" with
 |true=>
  simp only[Bool.not_true,Bool.false_and,FC,↓reduceIte];refine Ad (Ax ?_);refine Vp l ?_;have U:((pickOrder (w.params.setOrder D ep) es).toList).Perm es.toList:=(by have:=YI (w.params.setOrder D ep) es.size 0 es.toList #[] (by simp);show(pickOrder.go (w.params.setOrder D ep) es.size 0 es.toList #[]).toList.Perm es.toList;simpa using this);obtain⟨ks,g,z,C⟩:=Vo O P (U.map (·.2));have c:((pickOrder (w.params.setOrder D ep) es).toList.map (·.2)).length=es.size:=by rw[Am,U.length_eq];simp
  have W:=YM (prog:=prog) (w:=w) (A:=A) (It:=s.heap.objs.size) (D:=D) (es:=es) (ep:=ep) (tb:=tb) J n0 (λ_=>0) _ c
   (λi v L B V X j m r=>YO (nx:=w.params.setOrder D ep) G rfl (by
    rw[AQ] at j;obtain⟨e,d,rfl⟩:=E4.mp j;rw[<-Array.getElem?_toList,d];rfl) m r)
   (λL B V X m r=>YO (nx:=w.params.setOrder D ep) G rfl (by
    have hz:(pickOrder (w.params.setOrder D ep) es).toList.length=es.size:=by rw[U.length_eq];simp
    rw[<-Array.getElem?_toList,Ek (by lia)];rfl) m r)
  refine q _ _ s.drawn ks (by rw[g,c,R]) C (Fk.of W (g.trans c) z ⟨B9 _ rfl,l.keep λu e=>Bb _ e⟩ (λb a=>ab a) (λb o e=>Bb _ e) (AF _))
 |false=>
  have ae:tb.led=true:=(by rw[S.led];unfold BX;have:w.params.followText "set-order" = false:=G;rw[this];rfl);simp only[Bool.not_false,Bool.true_and]
  cases I:(!tb.plain && decide (es.size > 1)) with
  |true=>
   refine wpAny_ite_split (λ_=>?_) (λh=>absurd (show(!tb.plain && decide (es.size > 1))=true from I) h);refine Ad (YJ es.size _ p6 λk K t=>?_);have Y:k.length=es.size:=by rw[t.length_eq];exact p6
   refine Ad (wpAny_newObj_type ?_ (by show(List.map (λi:Nat=>rawInt (i:Int)) k).toArray.size<=sizeLine;rw[Co,Am,Y];exact fits_of_scanBound x6));have af:Fj (s.heap.push {cls:=.type "tuple",data:=.seq (k.map λi:Nat=>rawInt (i:Int)).toArray}) D es ep tb:=l.keep λu e=>Bb _ e;refine Vp af ?_;have ah:∀p∈k,p<es.size:=λp h=>List.mem_range.mp (t.mem_iff.mp h)
   have vp:(k.map λp=>(es.getD p (0,.none)).2).Perm (es.toList.map (·.2)):=by
    have d:es.toList.map (·.2)=(List.range es.size).map λp=>(es.getD p (0,.none)).2:=(by refine List.ext_getElem (by simp) λi h1 h2=>?_;simp at h1;simp[h1]);rw[d];exact t.map _
   obtain⟨ks,g,z,C⟩:=Vo O P vp;have c:(k.map λp=>(es.getD p (0,.none)).2).length=es.size:=(by rw[Am,Y])
   have W:=hX (prog:=prog) (w:=w) (A:=A) (It:=(s.heap.push {cls:=.type "tuple",data:=.seq (k.map λi:Nat=>rawInt (i:Int)).toArray}).objs.size) (D:=D) (T:=s.heap.objs.size) (es:=es) (ep:=ep) (tb:=tb) J (by rw[r9];exact Nat.ne_of_gt (Nat.lt_succ_of_lt aa)) (by rw[r9];exact Nat.succ_ne_self _) k _ c (λi v j=>by
    rw[AQ] at j;obtain⟨p,d,rfl⟩:=E4.mp j;have ai:=ah p (Bf d);refine⟨p,(es.getD p (0,.none)).1,d,?_⟩;simp[ai]) Y
   refine q _ _ K ks (by rw[g,c,R]) C (Fk.of W (g.trans c) z ⟨B9 _ rfl,af.keep λu e=>Bb _ e,⟨_,Bb _ (B9 _ rfl),rfl,_,rfl⟩⟩ (λb a=>?_) (λb o e=>Bb _ (Bb _ e)) (by rw[r9];exact Nat.le_succ _));rcases B1.mp a with rfl|a;rw[r9];exact .inr (Nat.le_succ _);rcases B1.mp a with rfl|a;exact .inl rfl;rw[AR.mp a];exact .inr (AF _)
  |false=>
   refine wpAny_ite_split (λh=>absurd (show(!tb.plain && decide (es.size > 1))=true from h) (by rw[I];exact CA)) (λ_=>?_);refine Ad (Ax ?_);refine Vp l ?_;obtain⟨ks,g,z,C⟩:=Vo O P (List.Perm.refl _);have c:(es.toList.map (·.2)).length=es.size:=by simp
   have f:tb.place.size=es.size:=(by have:=x7;unfold SetTable.fits at this;simp at this;exact this.1)
   have ag:∀i,i<=tb.place.size->SetTable.below tb.place (if i=0 then 0 else tb.place.getD (i-1) 0+1)=i:=λi H=>by
    cases i with|zero=>exact gQ S.ris|succ i=>have aj:i<tb.place.size:=H;simp only[Nat.add_eq_zero_iff,Nat.one_ne_zero,and_false,↓reduceIte,Nat.add_sub_cancel];refine gR S.ris ?_;rw[p',Array.getElem?_eq_getElem aj];rfl
   have W:=YM (prog:=prog) (w:=w) (A:=A) (It:=s.heap.objs.size) (D:=D) (es:=es) (ep:=ep) (tb:=tb) J n0 (λi=>if i=0 then 0 else tb.place.getD (i-1) 0+1) _ c
    (λi v L B V X j m r=>YQ G I ae (.inl (by
     rw[AQ] at j;obtain⟨⟨h,x⟩,d,rfl⟩:=E4.mp j;rw[Array.getElem?_toList] at d;have H:i<tb.place.size:=by rw[f];exact(Array.getElem?_eq_some_iff.mp d).1
     have a:=ag i (Cf H);refine⟨h,x,tb.place.getD i 0,by rw[a];exact d,?_,by simp⟩;rw[a,p',Array.getElem?_eq_getElem H];rfl)) m r)
    (λL B V X m r=>YQ G I ae (.inr ⟨by
     rw[ag es.size (Nat.le_of_eq f.symm)];simp,rfl⟩) m r)
   refine q _ _ s.drawn ks (by rw[g,c,R]) C (Fk.of W (g.trans c) z ⟨B9 _ rfl,l.keep λu e=>Bb _ e⟩ (λb a=>ab a) (λb o e=>Bb _ e) (AF _))
end
section
variable {prog:Program} {w:World} {A:Around} {E:D'} {s:Shared} {D:Addr}
theorem iB(a:s.TypeIs (.ref D) "set"){Q:Bool->Shared->Prop}(q:∀b,Q b s):wpAny (model prog w) A (Builtin.List.listLengthHint (.ref D)) Q E s:=by
 unfold Builtin.List.listLengthHint;refine Ad (wpAny_specialOf a F.slot_set_len.lookup ?_);generalize AO:("set.__len__" : String)=c
 wp_delta
 rw[show splitId c=some ("set", "__len__") by subst AO;decide +kernel];subst AO;refine Ad (wpAny_isInstance (T:= "set") (b:=true) a (by rw[isSubtype_type];kernel_rfl) (wpAny_ite_split (λh=>absurd h (by decide)) λ_=>?_));refine wpAny_ite_split (λ_=>Ad (N1 a (Ax (q _)))) λh=>absurd (by decide +kernel) h
theorem KI{M:Int->Bool}{R:Result->Shared->Prop}(O:A.handled=none)(r:B5 (intKind prog w) (BX w) s.heap D M n){S:Addr}(u:S≠D)(res:Value)(x:s.heap.get? S=some {cls:=.type "list",data:=.seq #[]})(P:n<=sizeLine)
 (q:∀h' g tk acc c(ks:F'),(∀b o,b≠S->s.heap.get? b=some o->h'.get? b=some o)->h'.get? S=some {cls:=.type "list",dict:=none,data:=.seq acc c,slots:=#[]}->ItemsOf (λi v=>∃t,v=.int (ks.getD i 0) t) acc ks.length->ks.length=n->(∀y,M y=true↔y∈ks)->R (.ok (.ret res)) {s with heap:=h',drawn:=g,toks:=tk}) :
 wpAny (model prog w) A.in1 (Builtin.List.listExtendWith (.ref S) (.ref D) res)
  (λab L=>match ab with|.done f=>R (.ok f) L|.again B=>B.quiet=true/\codeAny (model prog w) A B R L) (λe L=>R (.error e) L) s:=by
 have C:s.TypeIs (.ref D) "set" :=by obtain⟨k,_,_,_,a,b,_⟩:=r;exact⟨k,a,b.1⟩
 have ae:S<s.heap.objs.size:=Bq x;unfold Builtin.List.listExtendWith;refine Ad (N1 C ?_);rw[Ah (by simp[Builtin.List.listSameRef,u])];refine Ad (iA (A:=A.in1) O r λIt l g ks E Q T=>?_);obtain⟨⟨U,St,W,st,far⟩,j,V⟩:=T;have m:=j _ _ x;have G:S∉U:=λz=>(far S z).elim u λy=>absurd ae (Nat.not_lt_of_le y)
 have K:∀(h:Heap)(p:Nat),St 0 h->(∀b o,b≠S->s.heap.get? b=some o->h.get? b=some o)->h.get? S=some {cls:=.type "list",data:=.seq #[] p} ->
  codeAny (model prog w) A (.builtin "list.extend.loop" ⟨[.ref S,.ref It,res],[]⟩) R {s with heap:=h,drawn:=g}:=λh p af X Y=>by
  refine codeAny_extend_loopS W.toS (by rw[E];exact P) S G res ks.length 0 _ #[] p rfl (Dp _) af Y (ItemsOf.nil _) λL acc c H Z ag=>?_;rw[Moved.eq_with H];refine q L.heap g L.toks acc c ks (λb o I e=>H.heap b o (λz=>?_) (X b o I e)) Z ag E Q;rcases B1.mp z with y|y;exact I y;have:=Bq e;rw[AR.mp y] at this;exact absurd this (Nat.not_lt_of_le V)
 have quiet:(Code.builtin "list.extend.loop" ⟨[.ref S,.ref It,res],[]⟩).quiet=true:=plainId_quiet F.plain_extend_loop _;refine Ad (FD (iB (s:={s with heap:=l,drawn:=g}) (by obtain⟨k,a,b⟩:=C;exact⟨k,j _ _ a,b⟩) λb=>?_));refine wpAny_ite_split (λ_=>?_) λ_=>Ax ⟨quiet,K _ 0 st (λb o _ e=>j b o e) m⟩;refine Ad (HH (Ad ?_));show wpAny _ _ (updateSeq S (·.push .none) >>= λ_=>updateSeq S (·.pop)) _ _ _;refine Ad (wpAny_updateSeq m rfl ?_);have J:=t5 (Obj.mapSeq (·.push Value.none)) m rfl;refine wpAny_updateSeq (hz:=by seq_fits) J rfl ?_;have aa:=t5 (Obj.mapSeq (·.pop)) J rfl;have N:∀b,b≠S->((l.update S (Obj.mapSeq (·.push Value.none))).update S (Obj.mapSeq (·.pop))).get? b=l.get? b:=λb d=>(Heap.get?_update_other _ _ (Ne.symm d)).trans (Heap.get?_update_other _ _ (Ne.symm d));exact Ax ⟨quiet,K _ _ (W.frame 0 _ _ st λb d o e=>(N b λz=>G (z▸d)).trans e) (λb o d e=>(N b d).trans (j b o e)) aa⟩
theorem iC{M:Int->Bool}{Q:G'->Shared->Prop}(t:A.handled=none)(p:B5 (intKind prog w) (BX w) s.heap D M n)(u:n<=sizeLine)
 (q:∀h' d tk acc(ks:F'),(∀b o,s.heap.get? b=some o->h'.get? b=some o)->IntsAre acc ks->ks.length=n->(∀y,M y=true↔y∈ks)->Q acc {s with heap:=h',drawn:=d,toks:=tk}):wpAny (model prog w) A (collect (.ref D)) Q E s:=by
 have G:D<s.heap.objs.size:=by obtain⟨z,_,_,_,a,_⟩:=p;exact Bq a
 unfold collect;refine Ad (wpAny_runValue (codeAny_builtin entry_proto_collect' ?_));rw[t8 F.plain_proto_collect _];show wpAny _ A.in1 (newList [] >>= λl=>again (.builtin "list.__iadd__" ⟨[l,.ref D],[]⟩)) _ _ s;refine Ad (wpAny_newObj_type (Ax ⟨plainId_quiet F.plain_list_iadd _,codeAny_builtin entry_list_iadd' ?_⟩));rw[t8 F.plain_list_iadd _];show wpAny _ A.in1 (Builtin.List.listExtendWith (.ref s.heap.objs.size) (.ref D) (.ref s.heap.objs.size)) _ _ _
 refine F3 (KI (A:=A) (s:={s with heap:=s.heap.push {cls:=.type "list",data:=.seq ([]:G').toArray}}) (S:=s.heap.objs.size)
  (R:=λr L=>∃h' d tk acc c,∃ks:F',r=.ok (.ret (.ref s.heap.objs.size))/\L={s with heap:=h',drawn:=d,toks:=tk}/\(∀b o,s.heap.get? b=some o->h'.get? b=some o)/\h'.get? s.heap.objs.size=some {cls:=.type "list",dict:=none,data:=.seq acc c,slots:=#[]}/\IntsAre acc.toList ks/\ks.length=n/\∀y,M y=true↔y∈ks)
  t (p.keep λz e=>Bb _ e) (Nat.ne_of_gt G) _ (B9 _ rfl) u λh' d tk acc c ks h j g k m=>⟨h',d,tk,acc,c,ks,rfl,rfl,λb o e=>h b o (Cz (Bq e)) (Bb _ e),j,?_,k,m⟩) (λH L x=>?_) λe L x=>?_
 exact YN (by rw[Array.length_toList,g.1]) λi v B=>g.2 i v (by rw[<-Array.getElem?_toList];exact B)
 . cases H with
   |done f=>obtain⟨h',d,tk,acc,c,ks,e,rfl,h,j,g,k,m⟩:=x;cases e;show wpAny _ A (load s.heap.objs.size >>= _) _ _ _;exact Ad (wpAny_load j (Ax (q h' d tk acc.toList ks h g k m)))
   |again I=>refine⟨x.1,codeAny_mono x.2 λr J y=>?_⟩;obtain⟨h',d,tk,acc,c,ks,rfl,rfl,h,j,g,k,m⟩:=y;show wpAny _ A (load s.heap.objs.size >>= _) _ _ _;exact Ad (wpAny_load j (Ax (q h' d tk acc.toList ks h g k m)))
 obtain⟨_,_,_,_,_,_,C,_⟩:=x;cases C
end
def Nc{l:F'}:∀{m:F'},l.Nodup->(∀x∈l,x∈m)->m.length<=l.length->m.Nodup:=by
 induction l with
 |nil=>intro m _ _ h;rw[List.length_eq_zero_iff.mp (Nat.le_zero.mp h)];exact List.nodup_nil
 |cons a l g=>
  intro m d f i;obtain⟨j,k⟩:=F0.mp d;have c:=List.perm_cons_erase (f a Bg);have n:(m.erase a).length<=l.length:=(by have:=c.length_eq;simp at this i;lia)
  have sub:∀x∈l,x∈m.erase a:=λx b=>by
   have:=c.mem_iff.mp (f x (BQ _ b));rcases B1.mp this with e|e;exact absurd (e▸b) j;exact e
  refine c.nodup_iff.mpr (F0.mpr ⟨λo=>?_,g k sub n⟩)
  have:(a::l).length<=(m.erase a).length:=Ord.nodup_sub_length d λx b=>by
   rcases B1.mp b with e|e;rw[e];exact o;exact sub x e
  simp at this;lia
def KJ{l:F'}(h:l.Pairwise (·<=·))(c:l.Nodup):l.Pairwise (· < ·):=(h.and c).imp λ{a b}⟨x,y⟩=>by lia
set_option tactic.hygienic true in
def Qb{l:F'}{x:Int}(h:l.Nodup):(step_dedup l x).Nodup:=by unfold step_dedup;split;exact h;rename_i c;refine List.nodup_append.mpr ⟨h,List.pairwise_singleton _ _,λa d b f e=>c ?_⟩;rw[AR.mp f] at e;rw[Gv];exact⟨a,d,by rw[e];simp⟩
theorem YR(f:Nat->Int):∀i,(B6 f i).Nodup
 |0=>List.nodup_nil
 |i+1=>by rw[Qa];exact Qb (YR f i)
def Nd (P:Program) (w:World) (a:Addr) (ns:F'):HO:=.ext λh=>∃ds:F',ds.Nodup/\(∀y,y∈ds↔y∈ns)/\B5 (intKind P w) (BX w) h a (λy=>ds.any (·==y)) ds.length
section
variable {prog:Program} {w:World} {A:Around} {E:D'} {s:Shared} {D:Addr}
def iD{M:Int->Bool}{Q:D'}(p:A.handled=none)(r:B5 (intKind prog w) (BX w) s.heap D M n)(B:n<64)
 (q:∀(R:Addr)h' c tk k out(ks:F'),(∀b o,s.heap.get? b=some o->h'.get? b=some o)->(∀b o,s.heap.get? b=some o->b≠R)->h'.get? R=some {cls:=.type "list",data:=.seq out k}->IntsAre out.toList ks->ks.length=n->(∀y,M y=true↔y∈ks)->ks.Pairwise (·<=·)->Q (.ref R) {s with heap:=h',drawn:=c,toks:=tk}) :
 wpAny (model prog w) A (call (.builtin "sorted") [.ref D]) Q E s:=by
 refine Calls.call_function_entry kind_sorted plain_sorted entry_sorted (args_sorted1 _) ?_;unfold Builtin.«sorted»;refine Ad (m:=checkCount "sorted" 1 1 _) (Ax ?_);refine Ad (iC (A:=A.in1) p r (Cf (Bz (by lia))) λd c tk a ks f h i t=>?_);have u:a.length<64:=by rw[h.length,i];exact B
 refine Ad (wpAny_newList ?_ (Cf (Bz (by lia))));have g:(d.push {cls:=.type "list",data:=.seq a.toArray}).get? d.objs.size=some (seqObj "list" a.toArray 0):=B9 _ rfl;refine Ad (FD (wpAny_call_entry slot_list_sort ⟨_,g,rfl⟩ entry_list_sort (list_sort_tree g h u λout C v j x=>⟨_,rfl,?_⟩) (args_list_sort _)));obtain⟨k,z⟩:=sortedHeap_at (vs:=a) (out:=out) g;refine Ax ⟨_,rfl,q d.objs.size _ c tk k out C (λb o e=>?_) (λb o e=>Cz (Bq (f b o e))) z v (by rw[j.length_eq,i]) (λy=>by rw[t,j.mem_iff]) x⟩;have l:=Bq (f b o e);rw[sortedHeap_old (Cz l) (by rw[r9];exact Nat.lt_succ_of_lt l)];exact Bb _ (f b o e)
end
section
variable {X:Cx} {pins:B'} {σ:L2.St} {H:Hp} {s:Shared}
def Inv.drew(I:Inv X pins σ H s)(a:Drawn):Inv X pins σ H {s with drawn:=a}:=
 I.step (h':=s.heap) (H':=H) (g':=s.gens) (t':=s.toks) (d':=a) (ch:=[]) (λ_ z=>nomatch z) (λ_ _ _ _ _ e _=>e) (λ_ o _ _ _ e _=>⟨o.slots,e⟩) (λ_ _ _ _ n=>n) (λ_ o _ e=>⟨o,e⟩) (λ_ _ e=>e) (λ_ _ _ e=>e) (λ_ b e=>⟨#[],by rw[e];simp⟩) (λ_ h=>h) I.hok I.bare
def Qc (P:Program) (w:World) (K:Aj):U'->Hp->VK->Prop:=λvs H Q=>∃(p:Addr)(ns:F'),vs=[.ref p]/\Ae K H p (ns.map V.int)/\ns.length<=4000/\∀q,H q=none->Q (.ref q) (upd H q (Nd P w q ns))
def iE{ns:F'}{a:G'}(r:Av (ns.map V.int) a):∀(i:Nat)(v:Value),a.toArray[i]?=some v->∃t,v=.int (ns.getD i 0) t:=λi v e=>by
 have d:a[i]?=some v:=(by simpa using e);have f:=r.length;rw[Am] at f;have b:i<ns.length:=by have:=(AV.mp d).1;lia
 obtain⟨u,c,g⟩:=r.get (i:=i) (x:=.int ns[i]) (by rw[AQ,AD b];rfl);rw[d] at c;cases c;rw[CU,AD b];exact g
def iF(v:X.calm=true):Bc X (.type "set") (Qc X.prog X.w X.K):=by intro pins s σ H M us Q I r h;obtain⟨p,c,rfl,w,N,q⟩:=h;obtain⟨u,rfl,z⟩:=FG r;obtain rfl:u=Value.ref p:=z;obtain⟨g,l,A,_⟩:=I.list w;have m:=l.length;rw[Am] at m;have t:g.toArray.size=c.length:=(by rw[Co,m]);refine g6 (f:=λi=>c.getD i 0) (I.ok.hd v) A.isList (iE l) (by rw[t];unfold scanBound;lia) λB tk n k=>?_;have L:∀b u,s.heap.get? b=some u->B.get? b=some u:=λb u e=>k b u (Bq e) e;refine⟨.ref s.heap.objs.size,upd H s.heap.objs.size (Nd X.prog X.w s.heap.objs.size c),I.laid (t':=tk) L (AF _) ?_,rfl,q _ I.fresh⟩;refine⟨⟨_,YR _ _,λy=>?_,n⟩,?_,λO P⟨C,D,E,F⟩G=>⟨C,D,E,F.keep λJ e=>G J e⟩⟩;have:=YF (λi=>c.getD i 0) g.toArray.size y;rw[Gv] at this;have e:(∃x,x∈B6 (λi=>c.getD i 0) g.toArray.size/\(x==y)=true)↔y∈B6 (λi=>c.getD i 0) g.toArray.size:=⟨λ⟨x,a,b⟩=>by rw[<-eq_of_beq b];exact a,λa=>⟨y,a,by simp⟩⟩;rw[<-e,this,t];constructor;rintro⟨j,d,rfl⟩;rw[CU,AD d];exact Ez d;intro K;obtain⟨j,d,e⟩:=List.getElem_of_mem K;exact⟨j,d,by rw[CU,AD d];exact e⟩;obtain⟨o,_,_,_,e,_⟩:=n;exact⟨o,e⟩
def Nf (P:Program) (w:World):U'->Hp->VK->Prop:=λvs H Q=>∃(d:Addr)(ns:F'),vs=[.ref d]/\H d=some (Nd P w d ns)/\(∀ds:F',ds.Nodup->(∀y∈ds,y∈ns)->ds.length<64)/\∀D(ms:F'),ms.Pairwise (· < ·)->(∀y,y∈ms↔y∈ns)->H D=none->Q (.ref D) (upd H D (.lst (ms.map V.int)))
def iG(n:X.calm=true):Bc X (.builtin "sorted") (Nf X.prog X.w):=by
 intro pins s σ H G us Q I r h;obtain⟨d,J,rfl,hd,D,q⟩:=h;obtain⟨u,rfl,o⟩:=FG r;obtain rfl:u=Value.ref d:=o;obtain⟨⟨f,g,i,p⟩,_,_⟩:=I.hok d _ hd;have t:=D f g λy e=>(i y).mp e;refine iD (I.ok.hd n) p t λR K v tk k E c L j w z l A B=>?_
 have m:∀y,y∈c↔y∈f:=λy=>by
  rw[<-A y,Gv];exact⟨λ⟨x,a,b⟩=>by rw[<-eq_of_beq b];exact a,λa=>⟨y,a,by simp⟩⟩
 have C:c.Nodup:=Nc g (λy e=>(m y).mpr e) (Nat.le_of_eq l);have F:(c.map V.int).length<=sizeLine:=by rw[Am,l];exact Cf (Bz (by lia))
 exact⟨.ref R,upd H R (.lst (c.map V.int)),(I.drew v).laidN (t':=tk) L j ⟨F,E.toList,k,Rl z,by rw[Array.toArray_toList];exact w⟩,rfl,q R c (KJ B C) (λy=>(m y).trans (i y)) (I.freshN j)⟩
end
def Fl (gs:K') (n:Int):F':=match gs[n.toNat]? with
 |some p=>if p.1=o8 then[p.2] else[]
 |none=>[]
def FN (gs:K') (as:List (C')) (q:Int):F':=match as[q.toNat]? with
 |some (some w)=>if w.1=f' then Fl gs w.2 else[]
 |_=>[]
def Ge (W:Wd) (st:Int) (p:Ci):F':=if p.2.1=n7/\(En (Cw W st) p.1).isSome=true then p.2.2::FN W.gs W.as p.2.2 else[]
def Bx (W:Wd) (b:AK):F':=(BN W b.2.1).flatMap (Ge W b.2.2)
def Fm (ss:List Bo) (w:X'):F':=if(Cp ss w).2.2.1=n7 then[(Cp ss w).2.2.2] else[]
def FY (W:Wd) (l:Lk):F':=l.1.flatMap (Bx W)++l.2.1.flatMap (Fm W.ss)
def CF (W:Wd) (ls:Γ) (ts:F'):F':=ls.flatMap (FY W)++ts.flatMap (Fl W.gs)
def Gq (as as':List (C')) (U:F'):Prop:=∀q∈U,as'[q.toNat]?=as[q.toNat]?
section
variable {ths:K'} {as as':List (C')}
def YS{n:Int}{k:Str×Int}(h:ths[n.toNat]?=some k)(c:Gq as as' (Fl ths n)):Df ths as' k=Df ths as k:=by unfold Df;by_cases b:k.1=o5;rw[Ag b,Ag b];rw[Ah b,Ah b];by_cases a:k.1=o8;rw[Ag a,Ag a];have:as'[k.2.toNat]?=as[k.2.toNat]?:=c _ (by unfold Fl;rw[h];dsimp only;rw[Ag a];exact AR.mpr rfl);unfold Ec;rw[this];rw[Ah a,Ah a]
def iH{p:Ci}(h:p.2.1=j'\/Gq as as' (p.2.2::FN ths as p.2.2)):Bu ths as' p=Bu ths as p:=by
 unfold Bu;by_cases a:p.2.1=j';rw[Ag a,Ag a];rw[Ah a,Ah a];have c:=h.resolve_left a;have d:=c _ Bg;rw[d]
 cases e:as[p.2.2.toNat]? with
 |none=>rfl
 |some o=>
  cases o with
  |none=>rfl
  |some w=>
   dsimp only;by_cases b:w.1=f';rw[Ag b,Ag b]
   cases f:ths[w.2.toNat]? with
   |none=>rfl
   |some k=>refine YS f λq g=>c q (BQ _ ?_);unfold FN;rw[e];dsimp only;rw[Ag b];exact g
   rw[Ah b,Ah b]
end
section
variable {W:Wd} {as':List (C')} {ord:A'} {sc st:Int}
theorem YT{go:K'}{s:Int}:∀{l:List Ci}{i:Nat},(∀p∈l,(En go p.1).isSome=true->Bu W.gs as' p=Bu W.gs W.as p)->Ex (W.late as') s go l i=Ex W s go l i
 |[],i,_=>rfl
 |p::l,i,h=>by
   show EW (W.late as') s go p i++Ex (W.late as') s go l (i+1)=EW W s go p i++Ex W s go l (i+1);rw[YT λq b=>h q (BQ _ b)];congr 1;unfold EW;cases e:En go p.1 with|none=>rfl|some a=>dsimp only;rw[h p Bg (by rw[e];rfl)]
def YU(ok:BS W)(f:Gq W.as as' (Bx W b)):EX (W.late as') b.2.1 b.2.2=EX W b.2.1 b.2.2:=by
 refine YT λp d g=>iH ?_
 have h:Ka W.ss.length W.as.length p:=by
  have a:p∈BN W b.2.1:=d;unfold BN at a;cases e:W.ss[b.2.1.toNat]? with|none=>rw[e] at a;cases a|some s=>rw[e] at a;exact ok.kst s (Bf e) p a
 rcases h with⟨c,_⟩|⟨c,_⟩;exact .inl c;refine .inr λq i=>f q (List.mem_flatMap.mpr ⟨p,d,?_⟩);unfold Ge;rw[Ag ⟨c,g⟩];exact i
def KL(ok:BS W){bs:Y'}(d:∀b,b∈bs↔AN W sc st b)(e:Gq W.as as' (bs.flatMap (Bx W)))(b:AK):AN (W.late as') sc st b↔AN W sc st b:=by
 have kd:∀c,AN W sc st c->BK (W.late as') c=BK W c:=λc f=>by
  unfold BK;rw[YU ok λq g=>e q (List.mem_flatMap.mpr ⟨c,(d c).mpr f,g⟩)]
 constructor;intro h
 induction h with
 |root=>exact .root
 |@kid b c _ k a=>rw[kd b a] at k;exact .kid a k
 intro h
 induction h with|root=>exact .root|@kid b c i k a=>rw[<-kd b i] at k;exact .kid a k
theorem YV{b:AK}{x:Str}:∀(l:List Dg)(i:Nat),Dx (W.late as') b x l i=Dx W b x l i
 |[],_=>rfl
 |q::l,i=>by show EJ (W.late as') b x q i++Dx (W.late as') b x l (i+1)=EJ W b x q i++Dx W b x l (i+1);rw[YV l (i+1)];rfl
def iI(bs:Y'):DY (W.late as') x bs=DY W x bs:=by unfold DY;congr 1;funext b;exact YV _ _
theorem YW{α β:Type}{f g:α->List β}:∀{l:List α},(∀a∈l,f a=g a)->l.flatMap f=l.flatMap g
 |[],_=>rfl
 |a::l,h=>by rw[List.flatMap_cons,List.flatMap_cons,h a Bg,YW λb c=>h b (BQ _ c)]
def RU(ok:BS W){l:Lk}(h:Cr W ord sc st x l os)(a:Gq W.as as' (l.1.flatMap (Bx W))):Cr (W.late as') ord sc st x l os:=by
 refine⟨⟨λb=>(h.b.mem b).trans (KL ok h.b.mem a b).symm,h.b.nd,h.b.srt,h.b.few⟩,⟨by rw[iI];exact h.f.perm,h.f.srt⟩,h.s,⟨?_,h.o.srt⟩⟩;have:Gb (W.late as') l.1=Gb W l.1:=(by unfold Gb;refine YW λb c=>?_;rw[YU ok λq d=>a q (List.mem_flatMap.mpr ⟨b,c,d⟩)]);rw[this];exact h.o.perm
def iJ(a:Gq W.as as' (Fm W.ss w)):D0 (W.late as') w=D0 W w:=by
 unfold D0;show(if(Cp W.ss w).2.2.1=n7/\as'[(Cp W.ss w).2.2.2.toNat]?=some none then some (Cp W.ss w).2.2.2 else none)=_;by_cases c:(Cp W.ss w).2.2.1=n7;rw[a _ (by unfold Fm;rw[Ag c];exact AR.mpr rfl)];rw[Ah λz=>c z.1,Ah λz=>c z.1]
set_option tactic.hygienic true in
def iK(b:Bd W)(c:CV W.ss w)(d:Gq W.as as' (Fm W.ss w)):Bh (W.late as') w=Bh W w:=by
 unfold Bh
 show(if(Cp W.ss w).2.2.1=f' then some (Cp W.ss w).2.2.2 else match as'[(Cp W.ss w).2.2.2.toNat]? with
  |some (some p)=>if p.1=f' then some p.2 else none
  |_=>none)=_
 rcases M6 b c with⟨a,_⟩|⟨a,_⟩;rw[Ag a,Ag a];rw[d _ (by unfold Fm;rw[Ag a];exact AR.mpr rfl)]<;>(cases W.as[(Cp W.ss w).2.2.2.toNat]?<;>first|rfl|(rename_i o;cases o<;>rfl))
theorem YX:∀{ws:W'},(∀w∈ws,D0 (W.late as') w=D0 W w)->Fi (W.late as') ws=Fi W ws
 |[],_=>rfl
 |w::ws,h=>by unfold Fi;rw[h w Bg,YX λv hv=>h v (BQ _ hv)]
def RV(ok:BS W)(e:Bd W)(i:0<=sc/\sc<W.ss.length)(j:0<=st/\st<W.sts.length){l:Lk}(h:Cr W ord sc st x l os)(f:Gq W.as as' (l.2.1.flatMap (Fm W.ss)))(at_:Int):BC (W.late as') ord l.2.1 os at_=BC W ord l.2.1 os at_:=by
 have sub:∀w∈Cg W.ss ord l.2.1 l.2.1,w∈l.2.1:=λw a=>OF a;have c:∀w∈l.2.1,Gq W.as as' (Fm W.ss w):=λw a q g=>f q (List.mem_flatMap.mpr ⟨w,a,g⟩)
 have d:DQ (W.late as') ord l.2.1 os=DQ W ord l.2.1 os:=by
  unfold DQ;show(match E6 W.ss ord l.2.1 os with|some o=>some o|none=>Fi (W.late as') (Cg W.ss ord l.2.1 l.2.1))=_
  rw[YX λw a=>iJ (c w (sub w a))]<;>(cases E6 W.ss ord l.2.1 os<;>rfl)
 cases b:DQ W ord l.2.1 os with|some o=>rw[LL b,LL (d.trans b)]|none=>rw[Iz b,Iz (d.trans b)];have:Cq (W.late as') (Cg W.ss ord l.2.1 l.2.1) at_=Cq W (Cg W.ss ord l.2.1 l.2.1) at_:=Yt at_ λw a=>iK e (Hi ok i j h w (sub w a)) (c w (sub w a));rw[<-this]
def Vq{n:Int}(a:Gq W.as as' (Fl W.gs n)):Cd (W.late as') n=Cd W n:=by
 unfold Cd;show(match W.gs[n.toNat]? with|some p=>Df W.gs as' p|none=>(o4,(0:Int)))=_
 cases e:W.gs[n.toNat]? with|none=>rfl|some p=>exact YS e a
end
def Gq.sub{U V:F'}(h:Gq as as' U)(s:∀q∈V,q∈U):Gq as as' V:=λq a=>h q (s q a)
def Ng(ok:BS W)(g:Bd W)(v:0<=inn/\inn<W.sts.length){p:J'}{w:Option Wt}(k:LU W inn ord sc st p at_ a w ls ts) :
 0<=sc/\sc<W.ss.length->0<=st/\st<W.sts.length->Gq W.as as' (CF W ls ts)->LU (W.late as') inn ord sc st p at_ a w ls ts:=by
 have j:∀{l:Lk}{ls:Γ}{ts:F'},∀q∈l.1.flatMap (Bx W),q∈CF W (l::ls) ts:=λq b=>Et _ (List.mem_flatMap.mpr ⟨_,Bg,Et _ b⟩);have m:∀{l:Lk}{ls:Γ}{ts:F'},∀q∈l.2.1.flatMap (Fm W.ss),q∈CF W (l::ls) ts:=λq b=>Et _ (List.mem_flatMap.mpr ⟨_,Bg,Db _ b⟩);have o:∀{n:Int}{ls:Γ}{ts:F'},∀q∈Fl W.gs n,q∈CF W ls (n::ts):=λq b=>Db _ (List.mem_flatMap.mpr ⟨_,Bg,b⟩)
 induction k with
 |stop h e n=>exact λd f c=>.stop (RU ok h (c.sub j)) ((RV ok g d f h (c.sub m) _).trans e) n
 |opn h e i=>exact λd f c=>.opn (RU ok h (c.sub j)) ((RV ok g d f h (c.sub m) _).trans e) ((Vq (c.sub o)).trans i)
 |no h e i=>exact λd f c=>.no (RU ok h (c.sub j)) ((RV ok g d f h (c.sub m) _).trans e) ((Vq (c.sub o)).trans i)
 |go h e i x t=>intro d f c;have u:=Jt ok g (Hi ok d f h) e;refine .go (RU ok h (c.sub j)) ((RV ok g d f h (c.sub m) _).trans e) ((Vq (c.sub o)).trans i) (t (P9 ok u i) v (c.sub λq b=>?_));rcases B0.mp b with b|b;obtain⟨r,s,b⟩:=List.mem_flatMap.mp b;exact Et _ (List.mem_flatMap.mpr ⟨r,BQ _ s,b⟩);obtain⟨r,s,b⟩:=List.mem_flatMap.mp b;exact Db _ (List.mem_flatMap.mpr ⟨r,BQ _ s,b⟩)
section
variable {X:Cx}
def Qd:R2:=λx y H Q=>∃l xs n,x=.ref l/\y=.int n/\H l=some (.lst xs)/\(0<=n/\n<=1000)/\xs.length*n.toNat<=1000/\∀p,H p=none->Q (.ref p) (upd H p (.lst (List.replicate n.toNat xs).flatten))
theorem YY:∀(n:Nat){xs:U'}{us:G'},Av xs us->Av (List.replicate n xs).flatten (List.replicate n us).flatten
 |0,_,_,_=>.nil
 |n+1,xs,us,h=>by rw[List.replicate_succ,List.replicate_succ,List.flatten_cons,List.flatten_cons];exact h.append (YY n h)
theorem YZ:DS X (binaryOp .Mult) Qd:=by
 intro w s σ H x y v u Q I i j h;obtain⟨l,xs,n,rfl,rfl,k,p,d,q⟩:=h;obtain rfl:v=Value.ref l:=i;obtain⟨t,rfl⟩:=j;obtain⟨z,b,c,f,e⟩:=(show AB X.prog X.w _ s.heap l (.lst xs) from I.hok l _ k);have g:=f.length;have r:b.toArray.size*n.toNat<=1000:=by rw[Co,<-g];exact d
 have A:b.length*n.toNat<=1000:=by rw[<-g];exact d
 refine wpAny_binaryOp_repeat_ref (T:= "list") (U:= "int") (by decide) ⟨_,e,rfl⟩ (λL=>typeIs_int L n t) noFill_list_mul F.fills_int_mul F.slot_int_rmul repeat_list F.slot_int_index.lookup
  (call_meets F.slot_int_rmul (typeIs_int s n t) F.entry_int_rmul (F.args_int_rmul_2 _ _) (int___rmul___int_list n t l b.toArray c)
   ⟨e,rfl,⟨_,e,rfl⟩,call_meets F.slot_list_mul ⟨_,e,rfl⟩ F.entry_list_mul (F.args_list_mul_2 _ _) (AutoListH.list___mul___list_int_3 l b.toArray c n t (by simp[Builtin.List.listFitsIndex];lia) (by lia) (by simp[Builtin.List.listTooLong,sizeLine];lia)) ⟨e,?_⟩⟩)
 rw[listMul_foldl_if];have m:=YY n.toNat f;refine⟨.ref s.heap.objs.size,_,I.laid (a:=s.heap.objs.size) (o:=.lst (List.replicate n.toNat xs).flatten) (t':=s.toks) (λ_ _ q=>Bb _ q) (AF _) ⟨?_,_,0,m,B9 _ rfl⟩,rfl,q _ (I.hok.fresh (AF _))⟩;rw[List.length_flatten,List.map_replicate,List.sum_replicate_nat,Nat.mul_comm];exact Cf (Bz (by lia))
def Qe:U'->Hp->VK->Prop:=λvs H Q=>∃n:Int,vs=[.int n]/\∀p,H p=none->Q (.ref p) (upd H p (.rng 0 n))
def iL:Bc X (.type "range") Qe:=by intro d s σ H c us Q I r h;obtain⟨n,rfl,q⟩:=h;obtain⟨u,rfl,b⟩:=FG r;obtain⟨t,rfl⟩:=b;refine call_range_1 ⟨.ref s.heap.objs.size,_,I.laid (a:=s.heap.objs.size) (o:=.rng 0 n) (t':=s.toks+1+1) (λ_ _ q=>Bb _ q) (AF _) ⟨_,_,_,B9 _ rfl⟩,rfl,q _ (I.hok.fresh (AF _))⟩
def Nh:U'->Hp->VK->Prop:=λvs H Q=>∃(p:Addr)(n:Nat),vs=[.ref p]/\H p=some (.rng 0 (n:Int))/\n<=1000/\∀l,H l=none->Q (.ref l) (upd H l (.lst ((List.range n).map λi:Nat=>V.int i)))
def iM(j:X.calm=true):Bc X (.type "list") Nh:=by
 intro D s σ H z us Q I r h;obtain⟨p,n,rfl,k,A,q⟩:=h;obtain⟨u,rfl,l⟩:=FG r;obtain rfl:u=Value.ref p:=l;obtain⟨t,B,v,e⟩:=(show AB X.prog X.w _ s.heap p (.rng 0 (n:Int)) from I.hok p _ k);have m:Builtin.Range.rangeSize 0 (n:Int) 1=n:=by rw[rangeSize_one];split<;>lia
 refine call_list_range (n:=n) (I.ok.hd j) e (small_one (by lia) (by lia) (by lia) (by lia)) m (by lia) λC tk d c w x f=>?_
 have y:IntsAre d.toList ((List.range n).map λi:Nat=>(i:Int)):=YN (by simp[f.1]) λi v b=>by
  have g:i<d.size:=(by have:=(AV.mp b).1;simpa using this);obtain⟨t,e⟩:=f.2 i v (by rw[<-Array.getElem?_toList];exact b);rw[f.1] at g;refine⟨t,?_⟩;rw[e,CU,AQ,p8 g];simp
 have b:=Rl y;rw[DK] at b;refine⟨.ref s.heap.objs.size,_,I.laid (a:=s.heap.objs.size) (o:=.lst ((List.range n).map λi:Nat=>V.int i)) (t':=tk) w (AF _) ⟨?_,d.toList,c,b,by rw[Array.toArray_toList];exact x⟩,rfl,q _ (I.hok.fresh (AF _))⟩;rw[Am,p6];exact Cf (Bz (by lia))
def Ni (H:Hp) (xs:U') (ps:Θ):Prop:=Paired (λx(p:AJ×V)=>∃t,x=.ref t/\H t=some (.tup [kV p.1,p.2])) xs ps
def iN{pins:B'}{R:Result->Shared->Prop}{p l it:Addr}(W:A.in1.handled=none)(j:H p=none)(D:it≠p) :
 ∀(xs:U')(ps:Θ)(d:U')(acc:Θ)(s:Shared),Ni H xs ps->H l=some (.lst (d++xs))->acc.length+xs.length<=sizeLine->Inv X pins σ (upd H p (.dK acc)) s ->
 s.heap.IsListIter it l d.length->Dc X pins H it->(∀L,Inv X pins σ (upd H p (.dK (GI acc ps))) L->R (.ok (.ret .none)) L)->∀n:Int,
 codeAny (model X.prog X.w) A (.builtin "dict.update.loop" ⟨[.ref p,.ref it,rawInt n,.none],[]⟩) R s:=by
 intro xs ps d acc s Y
 induction Y generalizing d acc s with
 |nil=>intro f G I st h k n;have E:upd H p (.dK acc) l=some (.lst (d++[])):=(AC (A3 f j)).trans f;obtain⟨m,r,Z,u,v,w⟩:=h;have F:upd H p (.dK acc) it=none:=(AC D).trans m;obtain⟨z,Q,c,y,e⟩:=(show AB X.prog X.w _ s.heap l (.lst (d++[])) from I.hok l _ E);have ah:=y.length;rw[FA] at ah;refine codeAny_builtin PySem.F.entry_upd_loop ?_;rw[t8 PySem.F.plain_upd_loop _];show wpAny _ A.in1 (pyNext (.ref it) >>= _) _ _ s;refine Ad (wpAny_pyNext_list_end W st ⟨_,e,rfl,c,rfl⟩ (by simp;lia) λg eb=>?_);exact Ad (Ax (Ax (k _ (I.turned (t':=s.toks) (λb o B e=>eb b o B e) F r u v w))))
 |@cons x q xs ps hq tl ih=>
  intro f G I st h k n;obtain⟨t,rfl,J⟩:=hq;have E:upd H p (.dK acc) l=some (.lst (d++.ref t::xs)):=(AC (A3 f j)).trans f;have aa:upd H p (.dK acc) t=some (.tup [kV q.1,q.2]):=(AC (A3 J j)).trans J;obtain⟨m,r,Z,u,v,w⟩:=id h;have F:upd H p (.dK acc) it=none:=(AC D).trans m;obtain⟨z,Q,c,y,e⟩:=(show AB X.prog X.w _ s.heap l (.lst (d++.ref t::xs)) from I.hok l _ E);obtain⟨ai,ab,ru⟩:=y.get (i:=d.length) (x:=.ref t) (by simp);cases ru;refine codeAny_builtin PySem.F.entry_upd_loop ?_;rw[t8 PySem.F.plain_upd_loop _];show wpAny _ A.in1 (pyNext (.ref it) >>= _) _ _ s;refine Ad (wpAny_pyNext_list_item st (⟨_,e,rfl,c,rfl⟩:s.heap.IsList l Q.toArray) (x:=.ref t) (by simpa using ab) λg ae sb=>?_);have C:Inv X pins σ (upd H p (.dK acc)) {s with heap:=g}:=I.turned (t':=s.toks) (λb o B e=>(sb.2 b B).trans e) F r u v w;obtain⟨_,ts,rt,ot,K,ct,nt,dt⟩:=(show AB X.prog X.w _ g t (.tup [kV q.1,q.2]) from C.hok t _ aa);obtain⟨M,N,rfl,r1,r2⟩:=Lq rt;obtain⟨zd,hm,es,S,dd⟩:=HX C.hok (Aa (H:=H) (a:=p) (o:=.dK acc));have af:es.length<=sizeLine:=by rw[<-S.length];exact zd
  have aj:(AM acc q.1 q.2).length<=acc.length+1:=Ol acc q.1 q.2;rw[D9] at G;refine Ad (FD (Ad (wpAny_tryCatch ?_)));show wpAny _ A.in1 (Builtin.Dict.pairItems (.ref t)) _ _ _;unfold Builtin.Dict.pairItems;refine Ad (N1 (s:={s with heap:=g}) (T:= "tuple") ⟨ot,K,ct⟩ ?_);rw[Ag (by decide)];refine Ad (Gy (s:={s with heap:=g}) K dt (Ax ?_));show wpAny _ A.in1 (holding [M,N] (dictSet p M N)) _ _ _;have ag:(AM acc q.1 q.2).length<=sizeLine:=(by lia);refine FD (wpAny_dictSet_pairs (hsz:=af) (MD r1) dd λO U P=>?_);have he:∃o,O.get? p=some o:=let ⟨o,_,_,ho,_⟩:=U;⟨o,ho⟩
  have I2:∀tk,Inv X pins σ (upd H p (.dK (AM acc q.1 q.2))) {s with heap:=O,toks:=tk}:=λtk=>by
   have:=Op (t':=tk) (ob:=.dK (AM acc q.1 q.2)) C (by rw[Aa];exact True.intro) P he (Ub ag hm (S.put q.1 r2) U);rw[Wv] at this;exact this
  refine Ax ⟨plainId_quiet PySem.F.plain_upd_loop _,?_⟩;have:=ih (d++[.ref t]) (AM acc q.1 q.2) _ (by rw[Gu];exact f) (by lia) (I2 (s.toks+1)) (by rw[A1];exact ae.at λo e=>(P.2 it D).trans e) h k (n+1);exact this
def Nj:U'->Hp->VK->Prop:=λvs H Q=>∃l xs ps,vs=[.ref l]/\H l=some (.lst xs)/\xs.length<sizeLine/\Ni H xs ps/\∀p,H p=none->Q (.ref p) (upd H p (.dK (GI [] ps)))
def iO(j:X.calm=true):Bc X (.type "dict") Nj:=by
 intro pins s σ H G us Q I r h;obtain⟨l,xs,x,rfl,k,J,y,q⟩:=h;obtain⟨u,rfl,B⟩:=FG r;cases B;have m:H s.heap.objs.size=none:=I.hok.fresh (AF _);refine callType_codes (Q₁:=λv n=>v=.ref s.heap.objs.size/\n={s with heap:=s.heap.push {cls:=.type "dict",data:=.dict #[]}}) PySem.F.kt_called_dict (PySem.F.kt_typeCall_dict_1 _) PySem.F.entry_dict_init (kt_code_dict_new _ ⟨rfl,rfl⟩) ?_;rintro v n ⟨rfl,rfl⟩;have C:=I.laid (a:=s.heap.objs.size) (o:=.dK []) (t':=s.toks) (h':=s.heap.push {cls:=.type "dict",data:=.dict #[]}) (λ_ _ q=>Bb _ q) (AF _) (Ud s.heap I.big);obtain⟨z,M,c,K,e⟩:=(show AB X.prog X.w _ s.heap l (.lst xs) from I.hok l _ k);have f:=Bb {cls:=.type "dict",data:=.dict #[]} e;have p:Shared.TypeIs {s with heap:=s.heap.push {cls:=.type "dict",data:=.dict #[]}} (.ref s.heap.objs.size) "dict" :=⟨_,B9 _ rfl,rfl⟩;refine⟨p,PySem.F.args_dict_init_2 _ _,?_⟩;unfold Builtin.«dict.__init__»;refine Ad ?_;unfold Builtin.Dict.selfAndRest;refine Ad (wpAny_notOrdered_dict p ?_);show wpAny _ _ (pure (s.heap.objs.size,[Value.ref l])) _ _ _;refine Ax ?_;show wpAny _ _ (Builtin.Dict.updateFrom "dict.__init__" s.heap.objs.size (.ref l) [] .none) _ _ _;unfold Builtin.Dict.updateFrom;refine Ad (N1 (T:= "list") ⟨_,f,rfl⟩ ?_);rw[Ag (by decide)];refine Ad (XU f rfl rfl rfl (I.ok.hd j) λd tk t=>?_);rw[Ag (show(none:L').isNone=true from rfl)];have g:=C.kept (t':=tk) t;refine Ad (HH (Ad (wpAny_pyIter_list (s:={s with heap:=d,toks:=tk}) ⟨_,t _ _ f,rfl,c,rfl⟩ ?_)));have D:=g.kept (t':=tk) (h':=d.push {cls:=.type "list_iterator",data:=.fields #[.ref l,.int 0 0]}) λb o e=>Bb _ e;obtain⟨i,E⟩:=g.fpOk (AF d.objs.size) (g.hok.fresh (AF _));have w:d.objs.size≠s.heap.objs.size:=λz=>by rw[z,Aa] at i;cases i
 refine Ax ⟨plainId_quiet PySem.F.plain_upd_loop _,iN (A:=X.A.in1) (X:=X) (pins:=pins) (σ:=σ) (l:=l) (H:=H) (I.ok.hd j) m w xs x [] [] _ y k (by rw[Hc];lia) D ⟨_,B9 _ rfl,rfl,rfl⟩ ⟨(AC w).symm.trans i,E⟩ (λL F=>⟨rfl,.ref _,_,F,rfl,q _ m⟩) 0⟩
end
abbrev AI:Type:=C'
def Fd (W:Wd) (inn:Int) (ord:A') (q:Qu) (as:List AI) (a:AI):Prop:=∃(w:Option Wt)(ls:Γ)(ts:F'),LU (W.late as) inn ord q.1 q.2.1 q.2.2 0 a w ls ts
structure IH (W:Wd) (qs:Z') (as:List AI):Prop where
 len:as.length=qs.length
 rng:∀p,some p∈as->p.1=f'->0<=p.2/\p.2<W.gs.length
structure SOk (W:Wd) (qs:Z') (inn:Int) (ord:A'):Prop where
 all:∀as,IH W qs as->LM (W.late as) qs inn ord
 tr:∀x y z,(x,y)∈ord->(y,z)∈ord->(x,z)∈ord
structure Hj (W:Wd) (qs:Z') (inn:Int) (ord:A') (as as':List AI):Prop where
 len:as'.length=as.length
 old:∀(k:Nat)(p:Str×Int),as[k]?=some (some p)->as'[k]?=some (some p)
 new:∀(k:Nat)(q:Qu),qs[k]?=some q->as[k]?=some none->∃a,Fd W inn ord q as a/\as'[k]?=some a
inductive Run (W:Wd) (qs:Z') (inn:Int) (ord:A'):Nat->List AI->F'->Prop where
 |zero:Run W qs inn ord 0 (List.replicate qs.length none) (List.replicate qs.length 0)
 |succ {n:Nat} {as as':List AI} {ts ts':F'} (h:Run W qs inn ord n as ts) (e:n=0\/∃k:Nat,ts[k]?=some (n:Int)) (x:Hj W qs inn ord as as') (l:ts'.length=ts.length)
  (t:∀k:Nat,k<qs.length->ts'[k]?=if as[k]?=some none/\as'[k]?≠some none then some ((n:Int)+1) else ts[k]?):Run W qs inn ord (n+1) as' ts'
section
variable {W:Wd} {qs:Z'} {inn:Int} {ord:A'} {n:Nat} {as as':List AI} {ts:F'}
def Hj.late(h:Hj W qs inn ord as as'):Later as as':=⟨h.len,h.old⟩
def Nk{V:Wd}(ok:BS V)(g:Bd V)(o:0<=inn/\inn<V.sts.length){p:J'}{a:AI}{w:Option Wt}(k:LU V inn ord sc st p at_ a w ls ts):(0<=sc/\sc<V.ss.length)->(0<=st/\st<V.sts.length)->∀x,a=some x->x.1=f'->0<=x.2/\x.2<V.gs.length:=by
 induction k with
 |stop h e n=>rintro d f ⟨y,m⟩ rfl j;cases(show y=_ from j);exact Jt ok g (Hi ok d f h) e
 |opn h e i=>intro _ _ x b;cases b
 |no h e i=>
  intro _ _ x b c;cases b;exact absurd (show p0=_ from c) P7
 |go h e i q l=>exact λd f x b c=>l (P9 ok (Jt ok g (Hi ok d f h) e) i) o x b c
def KN{p:Str×Int}{l:List AI}(h:some p∈l):∃k:Nat,l[k]?=some (some p):=List.mem_iff_getElem?.mp h
def Hj.aok(G:SOk W qs inn ord)(h:IH W qs as)(x:Hj W qs inn ord as as'):IH W qs as':=by
 refine⟨x.len.trans h.len,λp f c=>?_⟩;obtain⟨k,b⟩:=KN f;have m:k<as.length:=by rw[<-x.len];exact(AV.mp b).1
 cases e:as[k]? with
 |none=>rw[List.getElem?_eq_none_iff] at e;lia
 |some o=>
  cases o with|some R=>have:=x.old k R e;rw[b] at this;cases this;exact h.rng p (Bf e) c|none=>have g:=AD (show k<qs.length by rw[<-h.len];exact m);obtain⟨a,⟨w,ls,ts,i⟩,d⟩:=x.new k _ g e;have L:=G.all as h;obtain⟨j,l,_⟩:=L.q _ (Ez _);rw[b] at d;exact Nk L.ok L.sm L.inn i j l p (Bt d).symm c
def Run.aok(G:SOk W qs inn ord)(h:Run W qs inn ord n as ts):IH W qs as/\ts.length=qs.length:=by
 induction h with|zero=>exact⟨⟨p7,λp b _=>by cases List.eq_of_mem_replicate b⟩,p7⟩|succ h e x l t a=>exact⟨x.aok G a.1,l.trans a.2⟩
def KO(G:SOk W qs inn ord)(c:IH W qs as)(d:Later as as'){k:Nat}{q:Qu}(e:qs[k]?=some q){p:Str×Int}{b:AI}(h:Fd W inn ord q as (some p))(h':Fd W inn ord q as' b):b=some p:=by
 obtain⟨w,ls,m,a⟩:=h;obtain⟨l,n,o,j⟩:=h';have L:=G.all as c;obtain⟨f,g,_⟩:=L.q _ (Bf e);have i:w=none:=(by rcases Yz a with⟨z,_⟩|⟨_,z⟩;cases z;exact z);exact(Ky (W:=W.late as) (as':=as') L.irr G.tr d L.ok L.sm L.inn a i f g j).1
def KP{q:Qu}{a b:AI}(h:Fd W inn ord q as a)(h':Fd W inn ord q as b):a=b:=by obtain⟨_,_,_,c⟩:=h;obtain⟨_,_,_,d⟩:=h';exact(Ks c d).1
def Run.found(G:SOk W qs inn ord)(h:Run W qs inn ord n as ts):∀(k:Nat)(q:Qu)(p:Str×Int),qs[k]?=some q->as[k]?=some (some p)->∃B,IH W qs B/\Later B as/\Fd W inn ord q B (some p):=by
 induction h with
 |zero=>intro k q p _ e;rw[List.getElem?_replicate] at e;split at e<;>cases e
 |@succ n as as' ts y h e x l t i=>
  intro k q p c e;have d:=(h.aok G).1;have w:k<qs.length:=(AV.mp c).1
  cases b:as[k]? with
  |none=>rw[List.getElem?_eq_none_iff,d.len] at b;lia
  |some o=>
   cases o with|some R=>have:=x.old k R b;rw[e] at this;cases this;obtain⟨B,m,f,s⟩:=i k q p c b;exact⟨B,m,⟨x.len.trans f.len,λj r u=>x.old j r (f.old j r u)⟩,s⟩|none=>obtain⟨a,v,g⟩:=x.new k q c b;rw[e] at g;cases g;exact⟨as,d,x.late,v⟩
def Run.still(G:SOk W qs inn ord)(h:Run W qs inn ord n as ts)(g:Hj W qs inn ord as as){k:Nat}{q:Qu}(c:qs[k]?=some q){b:AI}(d:Fd W inn ord q as b):as[k]?=some b:=by
 have i:=(h.aok G).1;have s:k<as.length:=by rw[i.len];exact(AV.mp c).1
 cases e:as[k]? with
 |none=>rw[List.getElem?_eq_none_iff] at e;lia
 |some o=>
  cases o with|none=>obtain⟨a,j,f⟩:=g.new k q c e;rw[e] at f;cases f;rw[KP d j]|some p=>obtain⟨B,l,m,r⟩:=h.found G k q p c e;rw[KO G l m c r d]
end
def qA (gs:K'):C'->F'
 |some w=>if w.1=f' then Fl gs w.2 else[]
 |none=>[]
def KQ{gs:K'}{k:Nat}{o:C'}(h:as[k]?=some o):FN gs as (k:Int)=qA gs o:=by unfold FN;rw[Bn,h];cases o<;>rfl
section
variable {F:Addr->Prop} {H:Hp} {v:V} {d e f:Dt}
def Nl{i:Int}(h:A9 F H v (.int i)):v=.int i:=by cases h;rfl
def Nm(h:A9 F H v (.str x)):v=.str x:=by cases h;rfl
def Qf(h:A9 F H v (.tup [d,e,f])):∃t x y z,v=.ref t/\H t=some (.tup [x,y,z])/\A9 F H x d/\A9 F H y e/\A9 F H z f:=by
 cases h with
 | tup h t=>
  cases t with
  |cons a t=>
   cases t with
   |cons b t=>
    cases t with
    |cons c t=>
     cases t with|nil=>exact⟨_,_,_,_,rfl,h,a,b,c⟩
def Vr{b:List Dt}(h:A9 F H v (.lst b)):∃a vs,v=.ref a/\H a=some (.lst vs)/\AA F H vs b:=by
 cases h with|lst h f t=>exact⟨_,_,rfl,h,t⟩
def Nn(h:A9 F H v (DX.D b)):∃t x,v=.ref t/\H t=some (.tup [x,.int b.2.1,.int b.2.2]):=by obtain⟨t,x,y,z,c,a,_,d,e⟩:=Qf (show A9 F H v (.tup [CD.D b.1,.int b.2.1,.int b.2.2]) from h);rw[Nl d,Nl e] at a;exact⟨t,x,c,a⟩
def Qg(h:A9 F H v (Ru m)):∃t,v=.ref t/\H t=some (.tup (Hg m)):=by obtain⟨t,x,y,z,b,a,c,d,e⟩:=Qf h;rw[Nl c,Nm d,Nl e] at a;exact⟨t,b,a⟩
theorem AA.app_inv:∀{es b:List Dt}{vs:U'},AA F H vs (es++b)->∃xs ys,vs=xs++ys/\AA F H ys b
 |[],_,vs,h=>⟨[],vs,rfl,h⟩
 |_::es,_,_,.cons a t=>by obtain⟨xs,ys,e,h⟩:=AA.app_inv (es:=es) t;exact⟨_::xs,ys,by rw[e];rfl,h⟩
def KR(h:A9 F H v (CD.D (w++[m]))):∃a vs t,v=.ref a/\H a=some (.lst vs)/\Bm vs (-1)=some (.ref t)/\H t=some (.tup (Hg m)):=by
 obtain⟨a,vs,c,d,b⟩:=Vr (show A9 F H v (.lst ((w++[m]).map Ru)) from h);rw[Ba] at b;obtain⟨xs,g,rfl,e⟩:=b.app_inv
 cases e with
 |cons a t=>
  cases t with|nil=>obtain⟨t,rfl,f⟩:=Qg a;exact⟨_,_,t,c,d,UK _ _,f⟩
def OG{f:α->Dt}{l:List α}{vs:U'}(h:AA F H vs (l.map f))(hv:vs[i]?=some v):∃b,l[i]?=some b/\A9 F H v (f b):=by obtain⟨d,a,c⟩:=h.get hv;rw[AQ] at a;obtain⟨b,e,rfl⟩:=E4.mp a;exact⟨b,e,c⟩
end
def No(h:n<=9000):n<sizeLine:=Nat.lt_of_le_of_lt h (by decide)
theorem OH{α β:Type}{f:α->List β}{n:Nat}:∀{l:List α},(∀a∈l,(f a).length<=n)->(l.flatMap f).length<=n*l.length
 |[],_=>Dp _
 |a::l,h=>by have d:=h a Bg;have e:=OH λb c=>h b (BQ _ c);rw[List.flatMap_cons,A1,D9,Nat.mul_succ];lia
def Qh{β:Type}{f:α->List β}{l:List α}{a:α}(h:l[i]?=some a):(l.take (i+1)).flatMap f=(l.take i).flatMap f++f a:=by
 rw[E8,h];show(l.take i++[a]).flatMap f=_;rw[List.flatMap_append];simp
def Qi{β:Type}{f:α->List β}{l:List α}(i:Nat):((l.take i).flatMap f).length<=(l.flatMap f).length:=by have:l.flatMap f=(l.take i).flatMap f++(l.drop i).flatMap f:=(by rw[<-List.flatMap_append,List.take_append_drop]);rw[this,A1];lia
def Vs(gs:K')(n:Int):(Fl gs n).length<=1:=by
 unfold Fl;split;split<;>simp;simp
def Np(gs:K')(o:C'):(qA gs o).length<=1:=by
 unfold qA;split;split;exact Vs _ _;simp;simp
def iP(gs:K')(as:List (C'))(q:Int):(FN gs as q).length<=1:=by
 unfold FN;split;split;exact Vs _ _;simp;simp
def iQ(W:Wd)(st:Int)(p:Ci):(Ge W st p).length<=2:=by
 unfold Ge;have:=iP W.gs W.as p.2.2;split;rw[D9];lia;simp
def iR(ss:List Bo)(w:X'):(Fm ss w).length<=1:=by unfold Fm;split<;>simp
def iS{b:Int}{p:Ci}(a:p∈BN W b):∃s∈W.ss,p∈s.1:=by
 unfold BN at a;cases e:W.ss[b.toNat]? with|none=>rw[e] at a;cases a|some s=>rw[e] at a;exact⟨s,Bf e,a⟩
def iT(a:∀s∈W.ss,s.1.length<=3)(b:AK):(Bx W b).length<=6:=by
 unfold Bx;have c:=OH (f:=Ge W b.2.2) (n:=2) (l:=BN W b.2.1) λp _=>iQ W b.2.2 p
 have d:(BN W b.2.1).length<=3:=by
  unfold BN;cases e:W.ss[b.2.1.toNat]? with|none=>exact Dp _|some s=>exact a s (Bf e)
 lia
structure II (W:Wd) (l:Lk):Prop where
 b:l.1.length<=62
 f:l.2.1.length<=62
 bo:∀b∈l.1,Dv W b
 en:∀w∈l.2.1,CV W.ss w
def RW(ok:BS W)(d:Bd W){l:Lk}(a:0<=sc/\sc<W.ss.length)(c:0<=st/\st<W.sts.length)(h:Cr W ord sc st x l os):II W l:=by refine⟨h.b.few,?_,λb e=>((h.b.mem b).mp e).ok ok a c,Hi ok a c h⟩;have f:=h.f.perm.length_eq;have g:=d.fnd x sc st _ a c h.b;lia
def iU(ok:BS W)(f:Bd W)(r:0<=inn/\inn<W.sts.length){p:J'}{w:Option Wt}(k:LU W inn ord sc st p at_ a w ls ts) :
 0<=sc/\sc<W.ss.length->0<=st/\st<W.sts.length->(∀l∈ls,II W l)/\(∀n∈ts,0<=n/\n<W.gs.length)/\ts.length<=ls.length:=by
 induction k with
 |stop h e n=>exact λb c=>⟨λl d=>by rw[AR.mp d];exact RW ok f b c h,(λ_ z=>by cases z),Dp _⟩
 |opn h e i=>exact λb c=>⟨λl d=>by rw[AR.mp d];exact RW ok f b c h,λn g=>by rw[AR.mp g];exact Jt ok f (Hi ok b c h) e,AF _⟩
 |no h e i=>exact λb c=>⟨λl d=>by rw[AR.mp d];exact RW ok f b c h,λn g=>by rw[AR.mp g];exact Jt ok f (Hi ok b c h) e,AF _⟩
 |go h e i s m=>intro b c;have g:=Jt ok f (Hi ok b c h) e;obtain⟨o,q,t⟩:=m (P9 ok g i) r;refine⟨λl d=>?_,λn j=>?_,by rw[D9,D9];lia⟩;rcases B1.mp d with rfl|d;exact RW ok f b c h;exact o l d;rcases B1.mp j with rfl|j;exact g;exact q n j
def iV(g:∀s∈W.ss,s.1.length<=3)(e:∀l∈ls,II W l)(i:ls.length<=8)(j:ts.length<=8):(CF W ls ts).length<=4000:=by
 unfold CF;rw[A1]
 have k:=OH (f:=FY W) (n:=434) (l:=ls) λl h=>by
  unfold FY;rw[A1];have a:=OH (f:=Bx W) (n:=6) (l:=l.1) λb _=>iT g b;have b:=OH (f:=Fm W.ss) (n:=1) (l:=l.2.1) λw _=>iR W.ss w;have c:=(e l h).b;have d:=(e l h).f;lia
 have m:=OH (f:=Fl W.gs) (n:=1) (l:=ts) λn _=>Vs W.gs n;lia
set_option tactic.hygienic true in
def Y0(ok:BS W){n:Int}(h:q∈Fl W.gs n):0<=q/\q<W.as.length:=by
 unfold Fl at h;cases e:W.gs[n.toNat]? with|none=>rw[e] at h;cases h|some p=>rw[e] at h;dsimp only at h;split at h;rename_i a;rw[AR.mp h];exact ok.net.q p (Bf e) a;cases h
set_option tactic.hygienic true in
def Y1(ok:BS W)(f:Bd W)(g:∀l∈ls,II W l)(h:q∈CF W ls ts):0<=q/\q<W.as.length:=by
 unfold CF at h;rcases B0.mp h with h|h;obtain⟨l,i,c⟩:=List.mem_flatMap.mp h;unfold FY at c;rcases B0.mp c with c|c;obtain⟨b,_,d⟩:=List.mem_flatMap.mp c;unfold Bx at d;obtain⟨p,j,a⟩:=List.mem_flatMap.mp d;obtain⟨s,k,m⟩:=iS j;unfold Ge at a;split at a;rename_i o;rcases B1.mp a with rfl|a;exact ok.by_ k m λz=>by rw[o.1] at z;exact absurd z (by decide +kernel)
 unfold FN at a;split at a;split at a;exact Y0 ok a;cases a;cases a;cases a;obtain⟨w,r,d⟩:=List.mem_flatMap.mp c;unfold Fm at d;split at d;rename_i t;rw[AR.mp d];rcases M6 f ((g l i).en w r) with⟨e,_⟩|⟨_,e⟩;rw[t] at e;exact absurd e (by decide +kernel);exact e;cases d;obtain⟨n,_,c⟩:=List.mem_flatMap.mp h;exact Y0 ok c
def Vt:∀{a:F'},a.Nodup->(∀y∈a,0<=y/\y<(n:Int))->a.length<=n:=λhd h=>Kf n _ hd h
structure LN (K:Aj) (F:Addr->Prop) (H:Hp) (nt t:Addr) (W:Wd) (qs:Z') (inn:Int) (ord:A'):Prop where
 net:∃(S T R:Addr)(us Gs Es ts qt:I'),H nt=some (.tup [.ref S,.ref T,.ref R])/\FJ H S T R us Gs Es ts qt W.ss W.gs qs
 tab:Go K F H t W.sts inn ord
section
variable {K:Aj} {F:Addr->Prop} {H H':Hp} {nt A t:Addr} {W:Wd} {qs:Z'} {inn:Int} {ord:A'} {as:List AI}
def LN.same(h:LN K F H nt t W qs inn ord)(e:Ac H H'):LN K F H' nt t W qs inn ord:=by obtain⟨⟨S,T,R,us,a,b,ts,d,f,g⟩,c⟩:=h;exact⟨⟨S,T,R,us,a,b,ts,d,e _ _ f,g.same e⟩,c.same e⟩
def LN.lc(h:LN K F H nt t W qs inn ord)(a:Hy K H A as):LC K F H nt A t (W.late as) qs inn ord:=⟨h.net,a,h.tab⟩
def Tk (H H':Hp):Prop:=∀a vs,H a=some (.tup vs)->H' a=some (.tup vs)
def Ac.tk(s:Ac H H'):Tk H H':=λ_ _ e=>s _ _ e
def Qj{x:Addr}{vs:U'}{o:HO}(h:H x=some (.lst vs)):Tk H (upd H x o):=λa us e=>by rw[AC λz=>by rw[z,h] at e;cases e];exact e
variable {kvs:Θ}
def KS{x:Addr}{o:HO}(h:H x=some (.dK kvs)):Tk H (upd H x o):=λa us e=>by rw[AC λz=>by rw[z,h] at e;cases e];exact e
def Tk.trans{c:Hp}(a:Tk H H')(b:Tk H' c):Tk H c:=λx d e=>b _ _ (a _ _ e)
abbrev GZ:Addr->Prop:=λ_=>False
def A9.tk{d:Dt}(k:Tk H H')(h:A9 GZ H v d):A9 GZ H' v d:=h.go k λ_ _ _ f=>f.elim
def AA.tk{vs:U'}{a:List Dt}(k:Tk H H')(h:AA GZ H vs a):AA GZ H' vs a:=h.go k λ_ _ _ f=>f.elim
def Fn (H:Hp) (A:Addr) (as:List AI):Prop:=∃vs,H A=some (.lst vs)/\AA GZ H vs (as.map B4)
def Fn.ans(h:Fn H A as):Hy K H A as:=by obtain⟨a,e,h⟩:=h;exact⟨a,Ae.of e,h.dts⟩
def Fn.go(h:Fn H A as)(k:Tk H H')(a:∀vs,H A=some (.lst vs)->H' A=some (.lst vs)):Fn H' A as:=by obtain⟨vs,e,h⟩:=h;exact⟨vs,a _ e,h.tk k⟩
def RX (W:Wd) (qs:Z') (inn:Int) (ord:A') (H:Hp) (kvs:Θ) (k:Nat) (B:List AI) (l:Addr) (us:F'):Prop:=
 AG kvs (.inl (k:Int))=some (.ref l)/\H l=some (.lst (us.map V.int))/\us.length<=1000/\(∀u∈us,0<=u)/\∃(q:Qu)(w:Option Wt)(ls:Γ)(ts:F'),qs[k]?=some q/\LU (W.late B) inn ord q.1 q.2.1 q.2.2 0 none w ls ts/\∀x∈CF (W.late B) ls ts,x∈us
def Jv (kvs:Θ) (n:Nat):Prop:=(kvs.map (·.1)).Nodup/\∀x∈kvs.map (·.1),∃i:Nat,i<n/\x=.inl (i:Int)
set_option tactic.hygienic true in
def iW(kvs:Θ)(k:AJ)(v:V):((AM kvs k v).map (·.1)=kvs.map (·.1))\/(k∉kvs.map (·.1)/\(AM kvs k v).map (·.1)=kvs.map (·.1)++[k]):=by
 unfold AM;split;left;rw[DK];congr 1;funext a;show(if a.1=k then(a.1,v) else a).1=a.1
 split<;>rfl;rename_i h;right;refine⟨λm=>h ?_,by rw[Ba];rfl⟩;obtain⟨p,b,e⟩:=AW.mp m;exact Gv.mpr ⟨p,b,Bs e⟩
def Jv.put(h:Jv kvs n)(d:i<n)(v:V):Jv (AM kvs (.inl (i:Int)) v) n:=by unfold Jv;rcases iW kvs (.inl (i:Int)) v with e|⟨f,e⟩;rw[e];exact h;rw[e];refine⟨?_,λx c=>?_⟩;rw[List.nodup_append];refine⟨h.1,by simp,λa g b j=>?_⟩;rw[AR.mp j];exact λz=>f (by rw[<-z];exact g);rcases B0.mp c with c|c;exact h.2 x c;exact⟨i,d,AR.mp c⟩
def Jv.len(h:Jv kvs n):kvs.length<=n:=by
 have:((kvs.map (·.1)).map λk:AJ=>match k with|.inl i=>i|.inr _=>(0:Int)).Nodup:=(by rw[List.nodup_iff_pairwise_ne,List.pairwise_map];refine(List.nodup_iff_pairwise_ne.mp h.1).imp_of_mem λ{a b}d e l=>?_;obtain⟨i,_,rfl⟩:=h.2 a d;obtain⟨j,_,rfl⟩:=h.2 b e;exact λz=>l (by dsimp only at z;rw[z]))
 have c:=Vt (n:=n) this λy f=>by
  obtain⟨x,g,rfl⟩:=AW.mp f;obtain⟨i,m,rfl⟩:=h.2 x g;dsimp only;lia
 rw[Am,Am] at c;exact c
structure FT (W:Wd) (qs:Z') (inn:Int) (ord:A') (as:List AI) (H H':Hp) (kvs kvs':Θ) (ds:F') (fs:List (Int×(Str×Int))):Prop where
 fd:∀f∈fs,∃(k:Nat)(q:Qu),f.1=(k:Int)/\(k:Int)∈ds/\qs[k]?=some q/\Fd W inn ord q as (some f.2)
 al:∀k:Nat,(k:Int)∈ds->(∃p,((k:Int),p)∈fs)\/∃l us,H l=none/\RX W qs inn ord H' kvs' k as l us
 kp:∀k:Nat,(k:Int)∉ds->AG kvs' (.inl (k:Int))=AG kvs (.inl (k:Int))
 ko:Jv kvs' qs.length
variable {H'':Hp} {kvs kvs':Θ} {ds:F'} {fs:List (Int×(Str×Int))} {k:Nat} {q:Qu}
def FT.hit(h:FT W qs inn ord as H H' kvs kvs' ds fs)(i:∀l vs,H l=none->H' l=some (.lst vs)->H'' l=some (.lst vs))(m:qs[k]?=some q){p:Str×Int}(n:Fd W inn ord q as (some p)):FT W qs inn ord as H H'' kvs kvs' (ds++[(k:Int)]) (fs++[((k:Int),p)]):=by refine⟨λf g=>?_,λj e=>?_,λj e=>h.kp j λz=>e (Et _ z),h.ko⟩;rcases B0.mp g with g|g;obtain⟨j,r,a,b,c,d⟩:=h.fd f g;exact⟨j,r,a,Et _ b,c,d⟩;rw[AR.mp g];exact⟨k,q,rfl,by simp,m,n⟩;rcases B0.mp e with e|e;rcases h.al j e with⟨p,o⟩|⟨l,us,a,b,c,d⟩;exact .inl ⟨p,Et _ o⟩;exact .inr ⟨l,us,a,b,i _ _ a c,d⟩;rw[AR.mp e];exact .inl ⟨p,by simp⟩
def FT.wait(h:FT W qs inn ord as H H' kvs kvs' ds fs)(m:∀l vs,H l=none->H' l=some (.lst vs)->H'' l=some (.lst vs))(i:qs[k]?=some q){w:Option Wt}(n:LU (W.late as) inn ord q.1 q.2.1 q.2.2 0 none w ls ts){l:Addr}{us:F'}(o:H l=none)(s:H'' l=some (.lst (us.map V.int)))(t:us.length<=1000)(v:∀u∈us,0<=u)(y:∀x∈CF (W.late as) ls ts,x∈us):FT W qs inn ord as H H'' kvs (AM kvs' (.inl (k:Int)) (.ref l)) (ds++[(k:Int)]) fs:=by have A:k<qs.length:=(AV.mp i).1;refine⟨λf D=>?_,λj g=>?_,λj g=>?_,h.ko.put A _⟩;obtain⟨j,r,a,b,c,d⟩:=h.fd f D;exact⟨j,r,a,Et _ b,c,d⟩;by_cases e:(j:Int)=(k:Int);have:j=k:=(by lia);subst this;exact .inr ⟨l,us,o,by rw[Oj,Ag rfl],s,t,v,q,w,ls,ts,i,n,y⟩;rcases B0.mp g with g|g;rcases h.al j g with⟨p,B⟩|⟨C,E,a,b,c,d⟩;exact .inl ⟨p,B⟩;exact .inr ⟨C,E,a,by rw[Oj,Ah λz=>e (Sum.inl.inj z)];exact b,m _ _ a c,d⟩;exact absurd (AR.mp g) e;rw[Oj,Ah λz=>g (Db _ (by rw[Sum.inl.inj z];simp))];exact h.kp j λz=>g (Et _ z)
end
abbrev fD (f:Int×(Str×Int)):Dt:=.tup [.int f.1,B4 (some f.2)]
structure KU (W:Wd) (qs:Z') (inn:Int) (ord:A'):Prop extends SOk W qs inn ord where
 s3:∀s∈W.ss,s.1.length<=3
 lq:qs.length<=40
def AO{G:Prop}(h:∀N:Prop,(G->N)->N):G:=h G λz=>z
variable {D:Ends}
def IJ{g:TG}{t:TS}(h:let N:=D.nx;let C:=D.ct;g v σ H λσ2 a=>t {D with nx:=N,ct:=C} σ2 a):g v σ H (λσ2 a=>t D σ2 a):=h
def iX{K:Aj}{a:Addr}{xs:U'}{k:Nat}{g:TG}(Pv:Addr->Nat->U'->Hp->Prop)
 (f:∀D,Y D=none->Pv D 0 [] (upd Y D (.lst []))) (c:∀D i ys b,Pv D i ys b->Ae K b a xs)
 (h:∀D i x T ys b(R:VK),Y D=none->xs[i]?=some x->b T=none->Pv D i ys b->(∀y d,d D=some (.lst ys)->ys.length<sizeLine->Pv D (i+1) (ys++[y]) (upd d D (.lst (ys++[y])))->R y d)->g (.ref T) (FI k caps σ) (upd b T (.tup [.int i,x])) λσ4 j=>te σ4 j R)
 (hd:∀D ys b,Y D=none->Pv D xs.length ys b->Q D b):Jo (Iw LK K a) k caps g Ia te σ Y Q:=ML xs.length Pv f (λD i ys b p e=>⟨xs,xs[i],c D i ys b p,by simp[e]⟩) (λD ys b p=>⟨xs,c D _ ys b p,rfl⟩) (λD i ys b x o R q l e p y k r=>by obtain⟨T,v,m,rfl,rfl,n⟩:=y;exact h D i v T ys _ R l (n xs (c D i ys _ p)) m p k) hd
abbrev CW:Type:=List (Int×(Str×Int))
def BY (as:List AI) (fs:CW):List AI:=fs.foldl (λa f=>a.set f.1.toNat (some f.2)) as
def Dh (ts:F') (n:Int) (fs:CW):F':=fs.foldl (λa f=>a.set f.1.toNat n) ts
variable {f:Int×(Str×Int)}
def iY{as:List AI}{fs:CW}(h:fs[i]?=some f):BY as (fs.take (i+1))=(BY as (fs.take i)).set f.1.toNat (some f.2):=by rw[E8,h];show BY as (fs.take i++[f])=_;unfold BY;rw[OU];rfl
def iZ{n:Int}{fs:CW}(h:fs[i]?=some f):Dh ts n (fs.take (i+1))=(Dh ts n (fs.take i)).set f.1.toNat n:=by rw[E8,h];show Dh ts n (fs.take i++[f])=_;unfold Dh;rw[OU];rfl
theorem RY:∀(fs:CW)(as:List AI),(BY as fs).length=as.length
 |[],_=>rfl
 |f::fs,as=>by show(BY (as.set f.1.toNat (some f.2)) fs).length=_;rw[RY fs,FR]
theorem Vu{n:Int}:∀(fs:CW)(ts:F'),(Dh ts n fs).length=ts.length
 |[],_=>rfl
 |f::fs,ts=>by show(Dh (ts.set f.1.toNat n) n fs).length=_;rw[Vu fs,FR]
theorem Nq{k:Nat}:∀{fs:CW}{as:List AI},(∀f∈fs,f.1.toNat≠k)->(BY as fs)[k]?=as[k]?
 |[],_,_=>rfl
 |f::fs,as,h=>by show(BY (as.set f.1.toNat (some f.2)) fs)[k]?=_;rw[Nq λg a=>h g (BQ _ a),t0 (h f Bg)]
theorem Vv{k:Nat}{n:Int}:∀{fs:CW}{ts:F'},(∀f∈fs,f.1.toNat≠k)->(Dh ts n fs)[k]?=ts[k]?
 |[],_,_=>rfl
 |f::fs,ts,h=>by show(Dh (ts.set f.1.toNat n) n fs)[k]?=_;rw[Vv λg a=>h g (BQ _ a),t0 (h f Bg)]
theorem RZ{k:Nat}:∀{fs:CW}{as:List AI},k<as.length->(∃f∈fs,f.1.toNat=k)->∃f∈fs,f.1.toNat=k/\(BY as fs)[k]?=some (some f.2)
 |[],_,_,⟨_,h,_⟩=>by cases h
 |f::fs,as,d,h=>by show ∃g∈f::fs,g.1.toNat=k/\(BY (as.set f.1.toNat (some f.2)) fs)[k]?=some (some g.2);by_cases c:∃g∈fs,g.1.toNat=k;obtain⟨g,a,b,e⟩:=RZ (as:=as.set f.1.toNat (some f.2)) (by rw[FR];exact d) c;exact⟨g,BQ _ a,b,e⟩;obtain⟨g,a,b⟩:=h;rcases B1.mp a with rfl|a;refine⟨g,Bg,b,?_⟩;rw[Nq λx i z=>c ⟨x,i,z⟩,b,u' d];exact absurd ⟨g,a,b⟩ c
theorem Vw{k:Nat}{n:Int}:∀{fs:CW}{ts:F'},k<ts.length->(∃f∈fs,f.1.toNat=k)->(Dh ts n fs)[k]?=some n
 |[],_,_,⟨_,h,_⟩=>by cases h
 |f::fs,ts,b,h=>by show(Dh (ts.set f.1.toNat n) n fs)[k]?=some n;by_cases c:∃g∈fs,g.1.toNat=k;exact Vw (by rw[FR];exact b) c;obtain⟨g,a,d⟩:=h;rcases B1.mp a with rfl|a;rw[Vv λx e z=>c ⟨x,e,z⟩,d,u' b];exact absurd ⟨g,a,d⟩ c
def nn (as:List AI):Nat:=as.countP λa=>a.isNone
def IK(as:List AI)(k:Nat)(p:Str×Int):nn (as.set k (some p))<=nn as/\(as[k]?=some none->nn (as.set k (some p))<nn as):=by unfold nn;by_cases b:k<as.length;rw[List.countP_set b];have c:((some p:AI).isNone=true)=False:=(by simp);simp only[Option.isNone_some,FC,if_false,Nat.add_zero];refine⟨Nat.sub_le _ _,λe=>?_⟩;rw[AD b] at e;rw[Bt e];have:0<as.countP λa=>a.isNone:=List.countP_pos_iff.mpr ⟨none,by rw[<-Bt e];exact Ez b,rfl⟩;simp only[Option.isNone_none,if_true];lia;rw[List.set_eq_of_length_le (by lia)];exact⟨AF _,λe=>by rw[Ek (by lia)] at e;cases e⟩
theorem Vx:∀(fs:CW)(as:List AI),nn (BY as fs)<=nn as
 |[],_=>AF _
 |f::fs,as=>FS (Vx fs (as.set f.1.toNat (some f.2))) (IK as _ _).1
def Qk{fs:CW}{as:List AI}(h:as[f.1.toNat]?=some none):nn (BY as (f::fs))<nn as:=Nat.lt_of_le_of_lt (Vx fs _) ((IK as _ _).2 h)
section
variable {W:Wd} {qs:Z'} {inn:Int} {ord:A'} {H H':Hp} {kvs kvs':Θ} {n:Nat} {as:List AI} {ts:F'} {due:F'} {fs:CW} {X:Addr->Prop}
structure IL (W:Wd) (qs:Z') (inn:Int) (ord:A') (X:Addr->Prop) (H:Hp) (kvs:Θ) (n:Nat) (as:List AI) (ts:F') (due:F'):Prop where
 run:Run W qs inn ord n as ts
 du:∀k∈due,∃j:Nat,k=(j:Int)/\j<qs.length/\as[j]?=some none
 la:due=[]\/n=0\/∃k:Nat,ts[k]?=some (n:Int)
 us:∀k:Nat,k<qs.length->as[k]?=some none->(k:Int)∈due\/∃B l us,¬X l/\IH W qs B/\RX W qs inn ord H kvs k B l us/\Gq B as us
 ko:Jv kvs qs.length
structure OI (W:Wd) (qs:Z') (inn:Int) (ord:A') (X:Addr->Prop) (H:Hp) (kvs:Θ) (n:Nat) (as:List AI) (ts:F') (fs:CW):Prop where
 run:Run W qs inn ord n as ts
 us:∀k:Nat,k<qs.length->as[k]?=some none->∃B l us,¬X l/\IH W qs B/\RX W qs inn ord H kvs k B l us/\∀u∈us,(∀f∈fs,f.1≠u)->as[u.toNat]?=B[u.toNat]?
 ko:Jv kvs qs.length
 fs:fs=[]\/∃k:Nat,ts[k]?=some (n:Int)
def IM(G:SOk W qs inn ord){B:List AI}(b:IH W qs B)(j:IH W qs as){k:Nat}{l:Addr}{us:F'}(h:RX W qs inn ord H kvs k B l us)(c:Gq B as us):∃q,qs[k]?=some q/\Fd W inn ord q as none:=by obtain⟨_,_,_,_,q,w,ls,d,a,e,f⟩:=h;have L:=G.all B b;obtain⟨g,i,_⟩:=L.q q (Bf a);exact⟨q,a,w,ls,d,Ng (W:=W.late B) (as':=as) L.ok L.sm L.inn e g i (c.sub f)⟩
def IL.nxt(G:SOk W qs inn ord)(T:IL W qs inn ord X H kvs n as ts due)(F:FT W qs inn ord as H H' kvs kvs' due fs):Hj W qs inn ord as (BY as fs):=by
 have m:=(T.run.aok G).1
 have x:∀f∈fs,∃(k:Nat)(q:Qu),f.1=(k:Int)/\k<qs.length/\as[k]?=some none/\qs[k]?=some q/\Fd W inn ord q as (some f.2):=λf b=>by
  obtain⟨k,q,g,y,i,r⟩:=F.fd f b;obtain⟨j,v,A,C⟩:=T.du _ y;have:k=j:=(by lia);subst this;exact⟨k,q,g,A,C,i,r⟩
 refine⟨RY _ _,λk p e=>?_,λk q s e=>?_⟩;rw[Nq λf b z=>?_];exact e;obtain⟨j,q,g,_,i,_⟩:=x f b;rw[g,Bn] at z;rw[z,e] at i;cases i;have w:k<qs.length:=(AV.mp s).1;by_cases c:∃f∈fs,f.1.toNat=k;obtain⟨f,t,o,D⟩:=RZ (as:=as) (by rw[m.len];exact w) c;obtain⟨j,a,g,_,i,r,v⟩:=x f t;have:j=k:=by rw[g,Bn] at o;exact o
 subst this;have:a=q:=Bt (r.symm.trans s);subst this;exact⟨_,v,D⟩;rw[Nq λf b z=>c ⟨f,b,z⟩];refine⟨none,?_,e⟩;have K:∃a,qs[k]?=some a/\Fd W inn ord a as none:=(by by_cases d:(k:Int)∈due;rcases F.al k d with⟨p,E⟩|⟨l,us,_,u⟩;exact absurd ⟨_,E,Bn k⟩ c;exact IM G m m u λ_ _=>rfl;rcases T.us k w e with h|⟨B,l,us,_,I,u,J⟩;exact absurd h d;exact IM G I m u J);obtain⟨a,t,o⟩:=K;have:a=q:=Bt (t.symm.trans s);subst this;exact o
def IL.aft(G:SOk W qs inn ord)(T:IL W qs inn ord X H kvs n as ts due)(hd:due≠[])(F:FT W qs inn ord as H H' kvs kvs' due fs)(I:∀l,H l=none->¬X l)(J:∀l vs,¬X l->H l=some (.lst vs)->H' l=some (.lst vs)):OI W qs inn ord X H' kvs' (n+1) (BY as fs) (Dh ts ((n:Int)+1) fs) fs:=by
 have v:=(T.run.aok G).1;have y:=(T.run.aok G).2;have nx:=T.nxt G F
 have x:∀f∈fs,∃k:Nat,f.1=(k:Int)/\k<qs.length/\as[k]?=some none:=λf a=>by
  obtain⟨k,q,b,o,A,R⟩:=F.fd f a;obtain⟨j,S,K,L⟩:=T.du _ o;have:k=j:=(by lia);subst this;exact⟨k,b,K,L⟩
 refine⟨.succ T.run (T.la.resolve_left hd) nx (Vu _ _) λk i=>?_,λk i e=>?_,F.ko,?_⟩;by_cases c:∃f∈fs,f.1.toNat=k;obtain⟨f,C,w,s⟩:=RZ (as:=as) (by rw[v.len];exact i) c;obtain⟨j,b,o,A⟩:=x f C;have:j=k:=by rw[b,Bn] at w;exact w
 subst this;rw[Ag ⟨A,by rw[s];simp⟩];exact Vw (by rw[y];exact i) c;have b:=Nq (as:=as) (k:=k) (fs:=fs) λf a z=>c ⟨f,a,z⟩;rw[Vv λf a z=>c ⟨f,a,z⟩,Ah λz=>z.2 (by rw[b];exact z.1)]
 have D:¬∃f∈fs,f.1.toNat=k:=λc=>by
  obtain⟨f,C,w,s⟩:=RZ (as:=as) (by rw[v.len];exact i) c;rw[e] at s;cases s
 have M:as[k]?=some none:=by rw[<-e,Nq λf a z=>D ⟨f,a,z⟩]
 have same:∀u:Int,0<=u->(∀f∈fs,f.1≠u)->(BY as fs)[u.toNat]?=as[u.toNat]?:=λu U m=>Nq λf a z=>by
  obtain⟨j,b,_⟩:=x f a;exact m f a (by lia)
 by_cases d:(k:Int)∈due;rcases F.al k d with⟨p,N⟩|⟨l,us,O,g⟩;exact absurd ⟨_,N,Bn k⟩ D;exact⟨as,l,us,I l O,v,g,λu t m=>same u (g.2.2.2.1 u t) m⟩;rcases T.us k i M with h|⟨B,l,us,E,P,g,Q⟩;exact absurd h d;refine⟨B,l,us,E,P,⟨by rw[F.kp k d];exact g.1,J _ _ E g.2.1,g.2.2⟩,λu t m=>?_⟩;rw[same u (g.2.2.2.1 u t) m,Q u t]
 cases e:fs with
 |nil=>exact .inl rfl
 |cons f r=>
  right;have a:f∈fs:=by rw[e];exact Bg
  obtain⟨k,b,o,_⟩:=x f a;refine⟨k,?_⟩;rw[<-e,Vw (by rw[y];exact o) ⟨f,a,by rw[b,Bn]⟩]
  push_cast;rfl
def OI.trn(A:OI W qs inn ord X H kvs n as ts fs)(g:∀k∈due,∃j:Nat,k=(j:Int)/\j<qs.length/\as[j]?=some none)(i:fs=[]->due=[])(m:∀k:Nat,k<qs.length->as[k]?=some none->(k:Int)∈due\/∃(l:Addr)(us:F'),AG kvs (.inl (k:Int))=some (.ref l)/\H l=some (.lst (us.map V.int))/\∀u∈us,∀f∈fs,f.1≠u):IL W qs inn ord X H kvs n as ts due:=by
 refine⟨A.run,g,?_,λk b e=>?_,A.ko⟩;rcases A.fs with h|h;exact .inl (i h);exact .inr (.inr h);rcases m k b e with h|⟨l,us,o,p,q⟩;exact .inl h;right;obtain⟨B,r,d,s,t,a,v⟩:=A.us k b e;have w:l=r:=V.ref.inj (Bt (o.symm.trans a.1));subst w;have x:us.map V.int=d.map V.int:=HO.lst.inj (Bt (p.symm.trans a.2.1));refine⟨B,l,d,s,t,a,λu c=>v u c (q u ?_)⟩;have:V.int u∈us.map V.int:=by rw[x];exact AW.mpr ⟨u,c,rfl⟩
 obtain⟨C,y,z⟩:=AW.mp this;rw[<-V.int.inj z];exact y
def IL.end_(G:SOk W qs inn ord)(T:IL W qs inn ord X H kvs n as ts []):Hj W qs inn ord as as:=by have b:=(T.run.aok G).1;refine⟨rfl,λ_ _ e=>e,λk q a e=>⟨none,?_,e⟩⟩;rcases T.us k (AV.mp a).1 e with h|⟨B,l,us,_,c,d,f⟩;cases h;obtain⟨g,i,j⟩:=IM G c b d f;have:g=q:=Bt (i.symm.trans a);subst this;exact j
def IL.start:IL W qs inn ord X H [] 0 (List.replicate qs.length none) (List.replicate qs.length 0) ((List.range qs.length).map λi:Nat=>(i:Int)):=by refine⟨.zero,λk a=>?_,.inr (.inl rfl),λk a _=>.inl (AW.mpr ⟨k,List.mem_range.mpr a,rfl⟩),by simp,λx b=>by cases b⟩;obtain⟨j,c,rfl⟩:=AW.mp a;have:=List.mem_range.mp c;exact⟨j,rfl,this,by rw[List.getElem?_replicate,Ag this]⟩
def OI.keep{H'':Hp}(A:OI W qs inn ord X H kvs n as ts fs)(c:∀l vs,¬X l->H l=some (.lst vs)->H'' l=some (.lst vs)):OI W qs inn ord X H'' kvs n as ts fs:=
 ⟨A.run,λk d e=>by
  obtain⟨B,l,us,b,f,a,g⟩:=A.us k d e;exact⟨B,l,us,b,f,⟨a.1,c _ _ b a.2.1,a.2.2⟩,g⟩,A.ko,A.fs⟩
end
theorem Y2:∀(ps acc:Θ)(k:AJ),(AG (GI acc ps) k).isSome=((AG acc k).isSome || ps.any λp=>decide (p.1=k))
 |[],acc,k=>by simp[GI]
 |p::ps,acc,k=>by show(AG (GI (AM acc p.1 p.2) ps) k).isSome=_;rw[Y2 ps,Oj,List.any_cons];by_cases e:k=p.1;rw[Ag e];simp[e];rw[Ah e];have:decide (p.1=k)=false:=DL λz=>e z.symm;rw[this];simp
theorem AA.set{F:Addr->Prop}{H:Hp}{v:V}{d:Dt}(h:A9 F H v d):∀{vs:U'}{b:List Dt}(j:Nat),AA F H vs b->AA F H (vs.set j v) (b.set j d)
 |_,_,_,.nil=>.nil
 |_,_,0,.cons _ t=>.cons h t
 |_,_,j+1,.cons a t=>.cons a (AA.set h j t)
theorem IP{H:Hp}:∀{b:U'}{fs:CW},AA GZ H b (fs.map fD)->∃ps,Ni H b ps/\ps.map (·.1)=fs.map λf=>(.inl f.1:AJ)
 |_,[],.nil=>⟨[],.nil,rfl⟩
 | _,f :: fs,.cons a t=>by
   obtain⟨ps,c,d⟩:=IP (fs:=fs) t;have g:A9 GZ H _ (.tup [.int f.1,B4 (some f.2)]):=a
   cases g with
   | tup e u=>
    cases u with
    |cons x u=>
     cases u with
     |cons y u=>
      cases u with|nil=>rw[Nl x] at e;exact⟨(.inl f.1,_)::ps,.cons ⟨_,rfl,e⟩ c,by rw[D6,d];rfl⟩
def Y3{ps:Θ}{fs:CW}(h:ps.map (·.1)=fs.map λf=>(.inl f.1:AJ))(u:Int):(AG (GI [] ps) (.inl u)).isSome=fs.any λf=>decide (f.1=u):=by
 rw[Y2];show(false || _)=_;rw[Bool.false_or];have e:(ps.any λp=>decide (p.1=(.inl u:AJ)))=(ps.map (·.1)).any λk=>decide (k=(.inl u:AJ)):=by rw[List.any_map];rfl
 rw[e,h,List.any_map];congr 1;funext f;show decide ((Sum.inl f.1:AJ)=Sum.inl u)=decide (f.1=u);by_cases c:f.1=u;rw[Bs c,Bs (by rw[c])];rw[DL c,DL λz=>c (Sum.inl.inj z)]
def Y4(n:Nat)(x:α):(List.replicate n [x]).flatten=List.replicate n x:=by
 induction n with|zero=>rfl|succ n a=>rw[List.replicate_succ,List.flatten_cons,a];rfl
def Nr{m:Nat}(h:i<m):Rj (.int (i:Int)) ((List.range m).map λj:Nat=>V.int j)=true:=by unfold Rj;exact Gv.mpr ⟨.int i,AW.mpr ⟨i,List.mem_range.mpr h,rfl⟩,by simp[JU]⟩
def i0(m:Nat):(((List.range m).map λj:Nat=>V.int j).all JT)=true:=by rw[List.all_map];exact List.all_eq_true.mpr λ_ _=>rfl
def Fn.get{A:Addr}{as:List AI}(h:Fn H A as){k:Nat}(f:k<as.length):∃vs v,H A=some (.lst vs)/\Bm vs (k:Int)=some v/\((as[k]?=some none/\v=.non)\/∃p t,as[k]?=some (some p)/\v=.ref t/\H t=some (.tup [.str p.1,.int p.2])):=by
 obtain⟨vs,e,h⟩:=h;have b:k<vs.length:=by rw[h.length,Am];exact f
 obtain⟨a,c,d⟩:=OG h (AD b);refine⟨vs,_,e,A8 (AD b),?_⟩;cases a with|none=>exact .inl ⟨c,d.ansN⟩|some p=>obtain⟨t,g,i⟩:=d.ansS;exact .inr ⟨p,t,c,g,i⟩
section
variable {X:Cx}
end
section
variable {ss k:List Bo} {ord:A'}
end
section
variable {W:Wd} {k:List Bo} {ord:A'} {sc st:Int}
end
def Vy (K:Aj) (a:Addr) (n:Nat):It:=
 ⟨λi H=>∃xs x,Ae K H a xs/\xs.length=n/\xs.reverse[i]?=some x,λi H x H'=>H'=H/\∀xs,Ae K H a xs->xs.reverse[i]?=some x,λi H=>∃xs,Ae K H a xs/\xs.length=n/\i=n⟩
theorem i3{P:Program}{w:World}{K:Aj}{O:Expr}(a it:Addr)(n:Nat):F4 P w K O (Vy K a n) [it] it (λi h=>h.IsRevIter it a ((n:Int)-1-i)) where
 mem:=by simp
 obj:=λi h st b f=>by have e:b=it:=(by simpa using f);subst e;obtain⟨o,e,c,d⟩:=st;exact⟨o,e,λv z=>by rw[d] at z;cases z⟩
 keep:=λi h g st k=>st.at λo e=>k it (by simp) o e
 item:=by intro X m q r L i N s σ H E I j st t;subst m q r;obtain⟨xs,x,y,Q,A⟩:=t;obtain⟨aa,R,p,hz⟩:=I.list y;have l:=(AV.mp A).1;rw[List.length_reverse] at l;have M:=A;rw[List.getElem?_reverse l] at M;obtain⟨u,S,T⟩:=R.get M;obtain⟨B,C,U,D,F,G⟩:=j it (by simp);have V:(n:Int)-1-i=((xs.length-1-i:Nat):Int):=(by lia);rw[V] at st;refine wpAny_pyNext_rev_item st p.isList (x:=u) (by simpa using S) λg J W=>?_;have Y:((xs.length-1-i:Nat):Int)-1=(n:Int)-1-((i+1:Nat):Int):=(by lia);rw[Y] at J;have Z:Inv X N σ H {s with heap:=g}:=I.turned (t':=s.toks) (λb o f e=>(W.2 b f).trans e) B C D F G;obtain⟨o,e,c,d⟩:=id J;exact⟨u,rfl,Re (s:={s with heap:=g}) e c d (by decide) ⟨x,H,Z,T,⟨rfl,λys hy=>by rw[I.list_inj hy y];exact A⟩,J,λb f=>(j b f).1⟩⟩
 done:=by intro X m q r L i N s σ H E I j st t;subst m q r;obtain⟨xs,y,Q,l⟩:=t;obtain⟨B,C,U,D,F,G⟩:=j it (by simp);rw[l,show(n:Int)-1-n=-1 by lia] at st;exact wpAny_pyNext_rev_end (I.ok.hd L) st λg eb=>⟨rfl,I.turned (t':=s.toks) (λb o f e=>eb b o f e) B C D F G⟩
 self:=λ_ _ _ _ _ st h=>wpAny_pyIter_revIter st h
def Vz (K:Aj) (ta:TA):TI:=λσ H R=>ta σ H λvs Y=>∃l xs,vs=[.ref l]/\Ae K Y l xs/\R (Vy K l xs.length) Y
def Nt{X:Cx}{i a:Expr}{f:TA}{p pos:Pos}(j:Gl X "reversed")(k:X.mg "reversed" = none)(m:PA X [a] f)(n:starEach [a] X.env=[(false,eval a X.env)]:=by rfl) :
 PI X i (.Call (.Name "reversed" p) [a] [] pos) (Vz X.K f):=by
 intro C s σ H R I h;refine Call_ (Lm I j k (u:=.type "reversed") (by decide +kernel) (PyProof.Rows.callWith_type1 (AX (m pos C s σ H _ I h) λus c⟨E,Y,d,r,t⟩=>?_) (by rw[n];rfl) (by rfl)));obtain⟨l,xs,rfl,v,q⟩:=t;obtain⟨w,rfl,A⟩:=FG r;obtain rfl:w=Value.ref l:=A;obtain⟨B,x,y,F⟩:=d.list v;have D:=x.length;refine call_reversed_list y.isList ?_;have e:((B.toArray.size:Nat):Int)-1=(xs.length:Int)-1-((0:Nat):Int):=by rw[Co,D];lia
 rw[e];have g:(c.heap.push (revObj l ((xs.length:Int)-1-((0:Nat):Int)))).IsRevIter c.heap.objs.size l ((xs.length:Int)-1-((0:Nat):Int)):=⟨_,B9 _ rfl,rfl,rfl⟩;refine wpAny_pyIter_revIter (s:={c with heap:=c.heap.push (revObj l ((xs.length:Int)-1-((0:Nat):Int)))}) g ?_;refine⟨_,[c.heap.objs.size],_,_,Y,rfl,d.kept (t':=c.toks) (λb o e=>Bb _ e),i3 l _ xs.length,g,λb z=>?_,q⟩;have e:b=c.heap.objs.size:=(by simpa using z);subst e;exact d.fpOk (AF _) (d.hok.fresh (AF _))
def OJ (W:Wd) (inn:Int) (ord:A') (q:Qu) (o:Option AI) (v:M'):Prop:=(∃p,o=some (some p)/\v=none)\/(o=some none/\∃(w:Wt)(ls:Γ)(ts:F'),LU W inn ord q.1 q.2.1 q.2.2 0 none (some w) ls ts/\v=some w.2.2)
def oV:M'->V
 |none=>.non
 |some n=>.int n
def Ql{d e:Dt}(h:A9 F H v (.tup [d,e])):∃p x y,v=.ref p/\H p=some (.tup [x,y])/\A9 F H x d/\A9 F H y e:=by
 cases h with
 |tup c h=>
  cases h with
  |cons a h=>cases h with
    |cons b h=>cases h;exact⟨_,_,_,rfl,c,a,b⟩
section
variable {X:Cx}
def Nu (K:Aj):V->U'->Hp->VK->Prop:=λx vs H Q=>∃l y n d ds xs,∃j:Nat,x=.ref l/\vs=[y]/\(∀e∈ds,DV n e d)/\n<=60/\Aq K H y d/\Ae K H l xs/\Ak K H xs ds/\ds[j]?=some d/\(∀m,m<j->ds[m]?≠some d)/\Q (.int j) H
def VA(W:X.A.units+64<cLine):Og X "list.index" (Nu X.K):=by
 intro ab s σ H x Y v us Q I B C h;obtain⟨l,y,n,d,c,xs,j,rfl,rfl,D,Z,M,E,t,f,F,q⟩:=h;cases B;obtain⟨u,rfl,G⟩:=C.one;obtain⟨b,r,p,hz⟩:=I.list E;obtain⟨J,h2⟩:=Uv (A:=X.A.in1) I r t D M G (by rw[Hw];lia);obtain⟨⟨oc,K,oD,os⟩,e,L,k,N⟩:=p.isList;cases L;cases N;have ll:=r.length;have lt:=t.length;have aa:j<c.length:=(AV.mp f).1;have o:j<b.toArray.size:=by rw[Co];lia
 have at_:∀m(h:m<b.toArray.size),dec (∃a,RelV a b.toArray[m]/\Aq X.K H a d)=true↔c[m]?=some d:=λm h=>by
  have O:m<b.length:=(by simpa using h);obtain⟨P,w,g⟩:=r.get (i:=m) (x:=xs[m]'(by lia)) (AD (by lia));obtain⟨e',R,te⟩:=t.get (i:=m) (v:=xs[m]'(by lia)) (AD (by lia));have S:b.toArray[m]=P:=(by rw[AD O] at w;simpa using w);rw[Ev,S,R];refine⟨λ⟨a,T,U⟩=>?_,λz=>?_⟩;have:=g.inj T;subst this;rw[Aq.inj I te U];cases z;exact⟨_,g,te⟩
 have sl:=Mv;have hs:sizeLine=16777216:=sizeLine_eq;refine call_meets PySem.F.slot_list_index ⟨_,e,rfl⟩ PySem.F.entry_list_index (PySem.F.args_list_index_2 _ _) (SeqAt.list_indexAt l b.toArray k K os u (λy=>dec (∃a,RelV a y/\Aq X.K H a d)) j o (by lia) ((at_ j o).mpr f) λm h V=>?_) ⟨e,J,?_⟩;exact Bool.eq_false_iff.mpr λz=>F m V ((at_ m h).mp z);exact⟨.int j,H,I.tok _,⟨_,rfl⟩,q⟩
def Y5(x:X.calm=true):Bc X (.builtin "min") (λxs H Q=>∃p n ns,xs=[.ref p]/\H p=some (.lst ((n::ns).map V.int))/\Q (OB (n::ns)) H):=by
 intro I a σ Y G us Q f y h;obtain⟨l,m,ns,rfl,B,q⟩:=h;obtain⟨u,rfl,C⟩:=FG y;cases C;obtain⟨z,c,n,k,e⟩:=(show AB X.prog X.w Y a.heap l (.lst ((m::ns).map V.int)) from f.hok l _ B);have r:=WM k;have s:a.heap.IsList l c.toArray:=⟨_,e,rfl,n,rfl⟩;have w:c.length=(m::ns).length:=by have:=k.length;rw[Am] at this;exact this.symm
 refine call_min_walk (wpAny_pyIter_list s ⟨_,[a.heap.objs.size,l],[a.heap.objs.size],_,λi v=>c.toArray[i]?=some v,λi h=>h.IsListIter a.heap.objs.size l i/\h.IsList l c.toArray,λi j=>decide ((m::ns).getD i 0<(m::ns).getD j 0),rfl,Walks.list (A:=X.A.in1) (f.ok.hd x) a.heap.objs.size l (Cz (Bq e)) c.toArray,
  ⟨⟨_,B9 _ rfl,rfl,rfl⟩,s.push _⟩,λb g=>?_,by rw[Co,w];exact Nat.succ_pos _,CmpOf.ints_lt (λi=>(m::ns).getD i 0) (λi v d=>r.int_at i v (by simpa using d)),λv D tk d E=>?_⟩)
 show b<(a.heap.push _).objs.size;rw[r9];rcases B1.mp g with rfl|g;exact OV _;rw[AR.mp g];exact Nat.lt_succ_of_lt (Bq e);have F:∀b o,a.heap.get? b=some o->D.get? b=some o:=λb o z=>E b o (by simpa using Cz (Bq z)) (Bb _ z);refine⟨OB (m::ns),Y,f.kept F,?_,q⟩;rw[Co,w,D9,Nat.add_sub_cancel] at d;obtain⟨t,rfl⟩:=r.int_at (argBest (λi j=>decide ((m::ns).getD i 0<(m::ns).getD j 0)) ns.length) v (by rw[<-List.getElem?_toArray];exact d);refine⟨t,?_⟩;rw[US λi=>(m::ns).getD i 0,XV];rfl
end
def i4{K:Aj}{a:Addr}{xs:U'}{k:Nat}{g:TG}{tc:TT}(Pv:Addr->Nat->U'->Hp->Prop)
 (l:∀D,Y D=none->Pv D 0 [] (upd Y D (.lst []))) (f:∀D i ys c,Pv D i ys c->Ae K c a xs)
 (m:∀D i x T ys c(R:VK)(e:Hp->Prop),Y D=none->xs[i]?=some x->c T=none->Pv D i ys c->(∀y h,h D=some (.lst ys)->ys.length<sizeLine->Pv D (i+1) (ys++[y]) (upd h D (.lst (ys++[y])))->R y h)->(∀d,Pv D (i+1) ys d->e d)->g (.ref T) (FI k caps σ) (upd c T (.tup [.int i,x])) λσ4 n=>tc σ4 n λb d=>if b=true then te σ4 d R else e d)
 (hd:∀D ys c,Y D=none->Pv D xs.length ys c->Q D c):Jo (Iw LK K a) k caps g tc te σ Y Q:=ML xs.length Pv l (λD i ys c p j=>⟨xs,xs[i],f D i ys c p,by simp[j]⟩) (λD ys c p=>⟨xs,f D _ ys c p,rfl⟩) (λD i ys c x t R e o j p y k q=>by obtain⟨T,v,r,rfl,rfl,s⟩:=y;exact m D i v T ys _ R e o (s xs (f D i ys _ p)) r p k q) hd
def nx (ws:E') (x:Int):M':=if 0<=x then(ws[x.toNat]?).bind id else none
def it (ws:E') (f:Int):Nat->M'
 |0=>some f
 |n+1=>(it ws f n).bind (nx ws)
def Cl (ws:E'):Prop:=∀x o,nx ws x=some o->∃o',nx ws o=some o'
def CT{ws:E'}{x o:Int}:nx ws x=some o↔0<=x/\ws[x.toNat]?=some (some o):=by
 unfold nx;by_cases h:0<=x;rw[Ag h]
 cases e:ws[x.toNat]? with
 |none=>exact⟨nofun,λz=>by cases z.2⟩
 |some y=>exact⟨λz=>⟨h,Bw some z⟩,λz=>Bt z.2⟩
 rw[Ah h];exact⟨nofun,λz=>absurd z.1 h⟩
def LP{ws:E'}{x o:Int}(h:nx ws x=some o):0<=x/\x<ws.length:=by obtain⟨b,a⟩:=CT.mp h;have:=(AV.mp a).1;lia
structure Rw (ws:E') (f:Int) (row:F'):Prop where
 ne:row≠[]
 nd:row.Nodup
 op:∀x∈row,∃o,nx ws x=some o
 st:∀(i:Nat)(x y:Int),row[i]?=some x->row[i+1]?=some y->nx ws x=some y
 hd:∀(i:Nat)(x:Int),row[i]?=some x->it ws f i=some x
def Nv (ws:E') (R:F'):Prop:=∀(i:Nat)(x:Int),R[i]?=some x->∃y,R[(i+1)%R.length]?=some y/\nx ws x=some y
structure GO (ws:E') (f:Int) (R:F'):Prop where
 ne:R≠[]
 nd:R.Nodup
 low:∀x,R[0]?=some x->∀y∈R,x<=y
 cyc:Nv ws R
 hit:∃n x,n<=ws.length/\it ws f n=some x/\x∈R
section
variable {ws:E'} {f:Int} {row R:F'}
def Rw.one{o:Int}(h:nx ws f=some o):Rw ws f [f] where
 ne:=nofun
 nd:=F0.mpr ⟨nofun,List.nodup_nil⟩
 op x b:=⟨o,by rw[AR.mp b];exact h⟩
 st i x y _ c:=by cases i<;>cases c
 hd i x a:=by
  cases i with|zero=>exact a|succ i=>cases a
def Rw.few(r:Rw ws f row):row.length<=ws.length:=Kf ws.length _ r.nd λy a=>by obtain⟨o,b⟩:=r.op y a;exact LP b
def Rw.more(r:Rw ws f row)(c:Cl ws){x o:Int}(m:row[row.length-1]?=some x)(k:nx ws x=some o)(n:o∉row):Rw ws f (row++[o]):=by have p:0<row.length:=List.length_pos_iff.mpr r.ne;refine⟨by simp,List.nodup_append.mpr ⟨r.nd,F0.mpr ⟨nofun,List.nodup_nil⟩,λa d b g=>by rw[AR.mp g];exact λz=>n (z▸d)⟩,λy j=>?_,λi a b d g=>?_,λi a d=>?_⟩;rcases B0.mp j with j|j;exact r.op y j;rw[AR.mp j];exact c _ _ k;have l:=(AV.mp g).1;rw[A1,D8] at l;rw[D7 (by lia)] at d;rcases t7 (i+1) row.length with h|h;rw[D7 h] at g;exact r.st i a b d g;have e:i=row.length-1:=(by lia);subst e;rw[EA h,show row.length-1+1-row.length=0 by lia] at g;rw[m] at d;cases d;cases g;exact k;rcases t7 i row.length with h|h;rw[D7 h] at d;exact r.hd i a d;rw[EA h] at d;have l:=(AV.mp d).1;rw[D8] at l;have e:i=row.length-1+1:=(by lia);subst e;rw[show row.length-1+1-row.length=0 by lia] at d;cases d;show(it ws f (row.length-1)).bind (nx ws)=_;rw[r.hd _ _ m];exact k
def Rw.cyc(r:Rw ws f row){x o:Int}(e:row[row.length-1]?=some x)(g:nx ws x=some o)(c:row[i]?=some o):Nv ws (row.drop i):=by have k:=(AV.mp c).1;intro j a b;rw[List.getElem?_drop] at b;have l:=(AV.mp b).1;rw[HE];rcases t7 (j+1) (row.length-i) with h|h;rw[Nat.mod_eq_of_lt h];have d:=AD (show i+j+1<row.length by lia);exact⟨_,by rw[List.getElem?_drop];exact d,r.st _ _ _ b d⟩;rw[show j+1=row.length-i by lia,Nat.mod_self];rw[show i+j=row.length-1 by lia,e] at b;cases b;exact⟨o,by rw[List.getElem?_drop];exact c,g⟩
def Qm{l:List α}(a:j<=l.length)(b:i<l.length):(l.drop j++l.take j)[i]?=l[(i+j)%l.length]?:=by rcases t7 i (l.length-j) with h|h;rw[D7 (by rw[HE];exact h),List.getElem?_drop,Nat.mod_eq_of_lt (by lia),Nat.add_comm];rw[EA (by rw[HE];exact h),HE,List.getElem?_take_of_lt (by lia),show i+j=i-(l.length-j)+l.length by lia,Nat.add_mod_right,Nat.mod_eq_of_lt (by lia)]
def OK(l:List α)(j:Nat):(l.drop j++l.take j).length=l.length:=by rw[A1,HE,FQ];lia
def Nv.rot{l:F'}(c:Nv ws l)(e:j<=l.length):Nv ws (l.drop j++l.take j):=by intro i a d;have f:=(AV.mp d).1;rw[OK] at f ⊢;rw[Qm e f] at d;obtain⟨b,g,h⟩:=c _ _ d;refine⟨b,?_,h⟩;rw[Qm e (Nat.mod_lt _ (by lia)),Nat.mod_add_mod,show i+1+j=i+j+1 by lia];rw[Nat.mod_add_mod] at g;exact g
def Rw.ring(r:Rw ws f row){x o m:Int}(l:row[row.length-1]?=some x)(n:nx ws x=some o)(e:row[i]?=some o)(h:(row.drop i)[j]?=some m)(p:∀y∈row.drop i,m<=y):GO ws f ((row.drop i).drop j++(row.drop i).take j):=by
 have c:=r.cyc l n e;have d:=(AV.mp h).1;have s:=(AV.mp e).1;have g:((row.drop i).drop j++(row.drop i).take j).Perm (row.drop i):=(by refine List.perm_append_comm.trans ?_;rw[List.take_append_drop]);refine⟨λz=>?_,g.nodup_iff.mpr (List.Sublist.nodup (List.drop_sublist _ _) r.nd),λa k b q=>?_,c.rot (Cf d),⟨i,o,?_,r.hd i o e,?_⟩⟩;have:=Bw List.length z;rw[OK] at this;rw[this] at d;cases d;rw[Qm (Cf d) (by lia),Nat.zero_add,Nat.mod_eq_of_lt d,h] at k;cases k;exact p b (g.mem_iff.mp q);have:=r.few;lia;exact g.mem_iff.mpr (Bf (i:=0) (by rw[List.getElem?_drop];exact e))
theorem GO.stay(r:GO ws f R):∀(d n:Nat)(x:Int),it ws f n=some x->x∈R->∃y,it ws f (n+d)=some y/\y∈R
 |0,n,x,h,m=>⟨x,h,m⟩
 |d+1,n,x,h,m=>by obtain⟨y,a,b⟩:=r.stay d n x h m;obtain⟨k,c⟩:=List.mem_iff_getElem?.mp b;obtain⟨z,g,e⟩:=r.cyc k y c;refine⟨z,?_,Bf g⟩;show(it ws f (n+d)).bind (nx ws)=_;rw[a];exact e
def GO.end_(r:GO ws f R):∃y,it ws f ws.length=some y/\y∈R:=by obtain⟨n,x,a,h,m⟩:=r.hit;have:=r.stay (ws.length-n) n x h m;rw[show n+(ws.length-n)=ws.length by lia] at this;exact this
end
def Y6(n:Int):∀ns:F',ns.foldl min n∈n::ns/\∀y∈n::ns,ns.foldl min n<=y:=by
 intro ns
 induction ns generalizing n with
 |nil=>exact⟨Bg,λy a=>by rw[AR.mp a];exact Int.le_refl _⟩
 |cons m ns d=>obtain⟨e,b⟩:=d (min n m);have c:=b _ Bg;refine⟨?_,λy a=>?_⟩;rcases B1.mp e with h|h;show ns.foldl min (min n m)∈_;rw[h];rcases Int.le_total n m with g|g;rw[Int.min_eq_left g];exact Bg;rw[Int.min_eq_right g];exact BQ _ Bg;exact BQ _ (BQ _ h);show ns.foldl min (min n m)<=y;rcases B1.mp a with rfl|a;exact Int.le_trans c (Int.min_le_left _ _);rcases B1.mp a with rfl|a;exact Int.le_trans c (Int.min_le_right _ _);exact b y (BQ _ a)
theorem R1{x:Int}:∀{l:F'},x∈l->∃i:Nat,l[i]?=some x/\∀m,m<i->l[m]?≠some x
 |y::l,h=>by
   by_cases e:y=x;exact⟨0,Bw some e,λm a=>absurd a (Nat.not_lt_zero _)⟩;rcases B1.mp h with h|h;exact absurd h.symm e;obtain⟨i,b,c⟩:=R1 h;refine⟨i+1,b,λm a=>?_⟩;cases m with|zero=>exact λz=>e (Bt z)|succ m=>exact c m (by lia)
def Fo{l:F'}{x:Int}:(l.map Dt.int)[i]?=some (.int x)↔l[i]?=some x:=by
 rw[AQ];cases l[i]? with|none=>exact⟨nofun,nofun⟩|some y=>exact⟨λz=>by cases z;rfl,λz=>by cases z;rfl⟩
def R3{l:F'}{x:Int}:∀e∈l.map Dt.int,DV 1 e (.int x):=λe a=>by obtain⟨y,_,rfl⟩:=AW.mp a;exact .int _ _
def IQ{l:F'}{x:Int}:Dt.int x∈l.map Dt.int↔x∈l:=by rw[AW];exact⟨λ⟨y,h,e⟩=>by cases e;exact h,λh=>⟨x,h,rfl⟩⟩
def opn (ws:E') (i:Nat):F':=((List.range i).filter λk=>((ws[k]?).bind id).isSome).map λk:Nat=>(k:Int)
def VB{ws:E'}{o:Int}(h:ws[i]?=some (some o)):opn ws (i+1)=opn ws i++[(i:Int)]:=by unfold opn;rw[List.range_succ,N0,Ba,NW,h];rfl
def VC{ws:E'}(h:ws[i]?=some none):opn ws (i+1)=opn ws i:=by unfold opn;rw[List.range_succ,N0,Ba,NW,h];exact FA _
def Y7(ws:E')(i:Nat):(opn ws i).length<=i:=by unfold opn;rw[Am];exact FS (QX _ _) (Nat.le_of_eq p6)
def VD{ws:E'}{k:Nat}{o:Int}(a:k<i)(h:ws[k]?=some (some o)):(k:Int)∈opn ws i:=
 AW.mpr ⟨k,JC.mpr ⟨List.mem_range.mpr a,by rw[h];rfl⟩,rfl⟩
theorem Qn{ws:E'}:∀{i:Nat}{z:Int}{zs:F'},opn ws i=z::zs->∃(f:Nat)(o:Int),z=f/\ws[f]?=some (some o)/\∀k,k<f->∀b,ws[k]?≠some (some b)
 |0,_,_,h=>by cases h
 | i + 1,z,zs,h=>by
   rcases t7 i ws.length with c|c
   cases e:ws[i]? with
   |none=>rw[List.getElem?_eq_none_iff] at e;lia
   |some w=>
    cases w with
    |none=>rw[VC e] at h;exact Qn h
    |some o=>
     rw[VB e] at h;cases a:opn ws i with|nil=>rw[a] at h;cases h;exact⟨i,o,rfl,e,λk d b z=>by have:=VD d z;rw[a] at this;cases this⟩|cons y ys=>rw[a] at h;cases h;exact Qn a
   have e:opn ws (i+1)=opn ws i:=(by unfold opn;rw[List.range_succ,N0,Ba,NW,Ek c];exact FA _);rw[e] at h;exact Qn h
theorem LQ{ws:E'}{f:Int}:∀{n:Nat}{y:Int},it ws f n=some y->∀m,m<=n->∃z,it ws f m=some z
 |0,y,h,m,a=>⟨y,by rw[Nat.le_zero.mp a];exact h⟩
 |n+1,y,h,m,a=>by
   rcases t7 n m with g|g;rw[show m=n+1 by lia];exact⟨y,h⟩;cases e:it ws f n with|none=>rw[show it ws f (n+1)=(it ws f n).bind (nx ws) from rfl,e] at h;cases h|some z=>exact LQ e m g
def R6 (W:Wd) (inn:Int) (ord:A') (qs:Z') (ws:E'):Prop:=ws.length=qs.length/\∀(k:Nat)(q:Qu)(o:M'),qs[k]?=some q->ws[k]?=some o->OJ W inn ord q W.as[k]? o
section
variable {W:Wd} {inn:Int} {ord:A'} {qs:Z'} {ws:E'}
def KW(G:LM W qs inn ord)(h:R6 W inn ord qs ws){k:Nat}{o:Int}(e:ws[k]?=some (some o)):M8 W.as o:=by have b:=(AV.mp e).1;have a:=AD (show k<qs.length by rw[<-h.1];exact b);rcases h.2 _ _ _ a e with⟨_,_,z⟩|⟨_,w,ls,ts,c,z⟩;cases z;cases z;obtain⟨d,f,_⟩:=G.q _ (Bf a);obtain⟨_,_,_,_,_,_,_,_,_,_,_,g,_⟩:=KC G.ok G.sm G.inn c d f rfl;exact g
def Qo(c:qs.length=W.as.length)(h:R6 W inn ord qs ws){k:Nat}(b:k<qs.length):(W.as[k]?=some none/\∃o,ws[k]?=some (some o))\/((∃p,W.as[k]?=some (some p))/\ws[k]?=some none):=by have a:=AD (show k<ws.length by rw[h.1];exact b);rcases h.2 _ _ _ (AD b) a with⟨p,e,z⟩|⟨e,w,_,_,_,z⟩;rw[z] at a;exact .inr ⟨⟨p,e⟩,a⟩;rw[z] at a;exact .inl ⟨e,_,a⟩
def Qp(G:LM W qs inn ord)(a:qs.length=W.as.length)(h:R6 W inn ord qs ws):Cl ws:=λx o e=>by obtain⟨b,f,c⟩:=KW G h (CT.mp e).2;rcases Qo a h (k:=o.toNat) (by lia) with⟨_,d,g⟩|⟨⟨p,g⟩,_⟩;exact⟨d,CT.mpr ⟨b,g⟩⟩;rw[c] at g;cases g
theorem R7{K:Aj}{H:Hp}:∀ws:E',Ak K H (ws.map oV) (ws.map Kq)
 |[]=>.nil
 |none::ws=>.cons .non (R7 ws)
 |some n::ws=>.cons (.int n) (R7 ws)
end
structure EY (W:Wd):Prop where
 n1:Cw W 1=[]
 to1:∀p∈Cw W 0,p.2=1
 l2:W.sts.length=2
 g9:(Cw W 0).length<=100
 s8:∀s∈W.ss,s.1.length<=8
 t3:∀s∈W.ss,s.2.length<=3
def Y8(h:Cw W st=[]):EX W sc st=[]:=by refine List.eq_nil_iff_forall_not_mem.mpr λr c=>?_;obtain⟨j,p,a,_,b,_⟩:=LD c;rw[h] at b;cases b
def Y9(h:Cw W b.2.2=[]):BK W b=[]:=by unfold BK;rw[Y8 h];rfl
section
variable {W:Wd} {sc st:Int}
set_option tactic.hygienic true in
def EY.steps8(h:EY W)(sc:Int):(BN W sc).length<=8:=by unfold BN;split;rename_i s e;exact h.s8 s (Bf e);exact Dp _
set_option tactic.hygienic true in
def EY.tells3(h:EY W)(sc:Int):(EI W sc).length<=3:=by unfold EI;split;rename_i s e;exact h.t3 s (Bf e);exact Dp _
def EY.after(h:EY W){c:AK}(e:b.2.2=0)(f:c∈BK W b):c.2.2=1:=by obtain⟨r,g,_,_,rfl⟩:=AL.mp f;obtain⟨j,p,a,_,d,rfl⟩:=LD g;rw[e] at d;exact h.to1 _ (UI d)
def EY.beg(h:EY W)(f:st=0\/st=1)(a:AN W sc st b):b=([],sc,st)\/b∈BK W ([],sc,st)/\b.2.2=1:=by
 induction a with
 |root=>exact .inl rfl
 |@kid b c _ k d=>right;rcases d with rfl|⟨_,e⟩;rcases f with rfl|rfl;exact⟨k,h.after rfl k⟩;rw[Y9 (b:=([],sc,1)) h.n1] at k;cases k;rw[Y9 (by rw[e];exact h.n1)] at k;cases k
def Za:(([],sc,st):AK)∉BK W ([],sc,st):=λa=>by obtain⟨r,_,_,_,e⟩:=AL.mp a;have:=Bw (λb:AK=>b.1.length) e;simp at this
def EY.perm(h:EY W)(e:st=0\/st=1){bs:Y'}(c:∀b,b∈bs↔AN W sc st b)(d:bs.Nodup):bs.Perm (([],sc,st)::BK W ([],sc,st)):=
 (List.perm_ext_iff_of_nodup d (F0.mpr ⟨Za,XE _ _⟩)).mpr λb=>(c b).trans ⟨λa=>by
  rcases h.beg e a with rfl|⟨a,_⟩;exact Bg
  exact BQ _ a,λa=>by
  rcases B1.mp a with rfl|a;exact .root;exact .kid .root a⟩
def EY.st01(h:EY W)(a:0<=st/\st<W.sts.length):st=0\/st=1:=by have:=h.l2;lia
def EY.few(h:EY W)(e:0<=st/\st<W.sts.length){F:Y'}(c:F.Nodup)(d:∀b∈F,AN W sc st b):F.length<=9:=by
 have f:=FS (XD W ([],sc,st)) (h.steps8 sc)
 have:=Yh (l:=([],sc,st)::BK W ([],sc,st)) c λb a=>by
  rcases h.beg (h.st01 e) (d b a) with rfl|⟨a,_⟩;exact Bg;exact BQ _ a
 rw[D9] at this;lia
theorem Zb(h:EY W):∀(l:Y'),(∀b∈l,b.2.2=1)->(l.flatMap λb=>(EX W b.2.1 b.2.2).filterMap (ow b))=[]
 |[],_=>rfl
 |b::l,e=>by rw[List.flatMap_cons,Zb h l λc a=>e c (BQ _ a),Y8 (by rw[e b Bg];exact h.n1)];rfl
def EY.owed(h:EY W)(c:st=0\/st=1){bs:Y'}(d:∀b,b∈bs↔AN W sc st b)(f:bs.Nodup):(Gb W bs).Perm ((EX W sc st).filterMap (ow ([],sc,st))):=by refine((h.perm c d f).flatMap_right _).trans ?_;rw[List.flatMap_cons,Zb h _ λb a=>?_,FA];rcases h.beg c (.kid .root a) with rfl|⟨_,e⟩;exact absurd a Za;exact e
def Gf (W:Wd) (x:Str) (b:AK):W':=Dx W b x (EI W b.2.1) 0
def EY.found(h:EY W)(d:st=0\/st=1){bs:Y'}(a:∀b,b∈bs↔AN W sc st b)(c:bs.Nodup)(x:Str):(DY W x bs).Perm (Gf W x ([],sc,st)++(BK W ([],sc,st)).flatMap (Gf W x)):=
 (h.perm d a c).flatMap_right _
def EY.ok(h:EY W)(o:P8 W)(e:W.ss.length<=100)(f:∀s∈W.ss,∀p∈s.2,Kb W.gs.length W.as.length p):BS W/\Bd W:=by refine⟨⟨e,h.s8,o.kst,o.kth,o.an,o.go,λsc st F _ c g i=>?_⟩,⟨f,λx sc st bs _ c a=>?_,λsc st bs _ c a=>?_⟩⟩;have:=h.few c g i;lia;have d:=h.few c a.nd λb j=>(a.mem b).mp j;have k:(DY W x bs).length<=bs.length*3:=Yi _ λb _=>FS (XM W b x _ 0) (h.tells3 _);lia;rw[(h.owed (h.st01 c) a.mem a.nd).length_eq];have d:=List.length_filterMap_le (ow ([],sc,st)) (EX W sc st);have k:=MX W sc (Cw W st) (BN W sc) 0;have l:=h.steps8 sc;unfold EX at d ⊢;lia
end
def Zc (K:Aj):U'->Hp->VK->Prop:=λvs H Q=>∃(l:Addr)(ss:J'),vs=[.ref l]/\Ae K H l (ss.map V.str)/\ss.length<64/\∀(D:Addr)(k:J'),k.Perm ss->k.Pairwise CC.kle->H D=none->Q (.ref D) (upd H D (.lst (k.map V.str)))
def i6{X:Cx}:Bc X (.builtin "sorted") (Zc X.K):=dE
section
variable (lk:Nat->Nat) (bt:Nat->C') (g:Nat->Str×Int->Str×Int)
inductive Dq:Nat->Nat->Str×Int->Prop where
 |one {i:Nat} {p:Str×Int} (h:bt i=some p):Dq i 1 p
 |far {i d:Nat} {p:Str×Int} (h:bt i=none) (k:Dq (lk i) d p):Dq i (d+1) (g i p)
def IR (as:List AI) (i:Nat):AI:=match bt i with
 |some p=>some p
 |none=>match as[lk i]? with
   |some (some p)=>some (g i p)
   |_=>none
def dq:Nat->Nat->Option ((Str×Int)×Nat)
 |0,_=>none
 |f+1,i=>match bt i with
   |some p=>some (p,1)
   |none=>(dq f (lk i)).map λz=>(g i z.1,z.2+1)
def HA (f i:Nat):AI:=(dq lk bt g f i).map (·.1)
def LR (f i:Nat):Int:=match dq lk bt g f i with
 |some z=>(z.2:Int)
 |none=>0
def E7 (n:Nat):E':=(List.range n).map λi=>if(dq lk bt g (n+1) i).isNone=true then some ((lk i:Nat):Int) else none
structure EM (W:Wd) (qs:Z') (inn:Int) (ord:A') (n:Nat):Prop where
 len:qs.length=n
 lt:∀i,i<n->lk i<n
 fd:∀{as:List AI},as.length=n->∀{i:Nat}{q:Qu}{a:AI}{w:Option Wt}{ls:Γ}{ts:F'},qs[i]?=some q->LU (W.late as) inn ord q.1 q.2.1 q.2.2 0 a w ls ts->a=IR lk bt g as i/\∀w0,w=some w0->w0.2.2=((lk i:Nat):Int)
end
section
variable {lk:Nat->Nat} {bt:Nat->C'} {g:Nat->Str×Int->Str×Int} {i d d':Nat} {p R:Str×Int}
def Dq.pos(h:Dq lk bt g i d p):1<=d:=by cases h<;>lia
def Dq.uniq(h:Dq lk bt g i d p)(k:Dq lk bt g i d' R):d=d'/\p=R:=by
 induction h generalizing d' R with
 |one h=>
  cases k with|one a=>rw[h] at a;cases a;exact⟨rfl,rfl⟩|far a k=>rw[h] at a;cases a
 |far h f b=>
  cases k with|one a=>rw[h] at a;cases a|far a k=>obtain⟨c,e⟩:=b k;exact⟨by rw[c],by rw[e]⟩
def Dq.down(lt:∀i,i<n->lk i<n)(h:Dq lk bt g i d p):i<n->∀t,1<=t->t<=d->∃k q,k<n/\Dq lk bt g k t q:=by
 induction h with|one h=>intro a t b c;exact⟨_,_,a,by rw[show t=1 by lia];exact .one h⟩|@far i d p h k f=>intro a t b c;by_cases e:t=d+1;exact⟨i,_,a,by rw[e];exact .far h k⟩;exact f (lt i a) t b (by lia)
theorem Zd:∀(f i:Nat),(∃d p,Dq lk bt g i d p/\d<=f/\dq lk bt g f i=some (p,d))\/((∀d p,Dq lk bt g i d p->f<d)/\dq lk bt g f i=none)
 |0,i=>.inr ⟨λd p h=>h.pos,rfl⟩
 | f + 1,i=>by
   cases e:bt i with
   |some p=>refine .inl ⟨1,p,.one e,by lia,?_⟩;unfold dq;rw[e]
   |none=>
    rcases Zd f (lk i) with⟨d,p,a,b,c⟩|⟨a,b⟩;refine .inl ⟨d+1,g i p,.far e a,by lia,?_⟩;unfold dq;rw[e];dsimp only;rw[c];rfl;refine .inr ⟨λd p k=>?_,?_⟩
    cases k with
    |one h'=>rw[e] at h';cases h'
    |far h' k=>have:=a _ _ k;lia
    unfold dq;rw[e];dsimp only;rw[b];rfl
variable {W:Wd} {qs:Z'} {inn:Int} {ord:A'} {n m:Nat} {as as':List AI} {ts:F'}
def VE (lk:Nat->Nat) (bt:Nat->C') (g:Nat->Str×Int->Str×Int) (m:Nat) (as:List AI) (ts:F') (i:Nat):Prop:=(∃d p,Dq lk bt g i d p/\d<=m/\as[i]?=some (some p)/\ts[i]?=some (d:Int))\/((∀d p,Dq lk bt g i d p->m<d)/\as[i]?=some none/\ts[i]?=some 0)
def EM.nx(N:EM lk bt g W qs inn ord n)(c:as.length=n)(x:Hj W qs inn ord as as')(d:i<n)(h:as[i]?=some none):as'[i]?=some (IR lk bt g as i):=by have b:=AD (show i<qs.length by rw[N.len];exact d);obtain⟨a,⟨w,l,t,k⟩,e⟩:=x.new i _ b h;rw[e,(N.fd c b k).1]
def OL(h:bt i=some p):IR lk bt g as i=some p:=by unfold IR;rw[h]
def OM(h:bt i=none)(k:as[lk i]?=some (some p)):IR lk bt g as i=some (g i p):=by unfold IR;rw[h];dsimp only;rw[k]
def Ze(h:bt i=none)(k:as[lk i]?=some none):IR lk bt g as i=none:=by unfold IR;rw[h];dsimp only;rw[k]
def EM.run(N:EM lk bt g W qs inn ord n)(h:Run W qs inn ord m as ts):as.length=n/\ts.length=n/\∀i,i<n->VE lk bt g m as ts i:=by
 induction h with
 |zero=>refine⟨by rw[p7,N.len],by rw[p7,N.len],λi f=>.inr ⟨λd p k=>k.pos,?_,?_⟩⟩;rw[List.getElem?_replicate,Ag (by rw[N.len];exact f)];rw[List.getElem?_replicate,Ag (by rw[N.len];exact f)]
 |@succ m as as' ts A h e x l t o=>
  obtain⟨s,lt,o⟩:=o;refine⟨x.len.trans s,l.trans lt,λi f=>?_⟩;have b:=t i (by rw[N.len];exact f);rcases o i f with⟨d,p,k,hd,j,q⟩|⟨u,j,q⟩;rw[Ah (λz=>by rw[j] at z;cases z.1)] at b;exact .inl ⟨d,p,k,by lia,x.old i p j,by rw[b,q]⟩;have a:=N.nx s x f j
  cases c:bt i with
  |none=>
   rcases o (lk i) (N.lt i f) with⟨d,p,k,hd,g1,g2⟩|⟨y,g1,g2⟩;rw[OM c g1] at a;rw[Ag ⟨j,by rw[a];simp⟩] at b;have:=u _ _ (.far c k);have v:d=m:=(by lia);subst v;exact .inl ⟨d+1,_,.far c k,AF _,a,by rw[b];push_cast;rfl⟩;rw[Ze c g1] at a;rw[Ah (λz=>z.2 a),q] at b;refine .inr ⟨λd p k=>?_,a,b⟩;cases k with|one r=>rw[c] at r;cases r|far r k=>have:=y _ _ k;lia
  |some p=>rw[OL c] at a;have:=u _ _ (.one c);have w:m=0:=(by lia);subst w;rw[Ag ⟨j,by rw[a];simp⟩] at b;exact .inl ⟨1,p,.one c,by lia,a,by rw[b];rfl⟩
def EM.still(N:EM lk bt g W qs inn ord n)(h:Run W qs inn ord m as ts)(x:Hj W qs inn ord as as):∀i,i<n->(∃d p,Dq lk bt g i d p/\d<=n/\as[i]?=some (some p)/\ts[i]?=some (d:Int))\/((∀d p,¬Dq lk bt g i d p)/\as[i]?=some none/\ts[i]?=some 0):=by
 obtain⟨l,lt,r⟩:=N.run h
 have s:∀{i d:Nat}{p:Str×Int},Dq lk bt g i d p->i<n->as[i]?≠some none:=by
  intro i d p k
  induction k with
  |@one i p f=>intro c z;have:=N.nx l x c z;rw[z,OL f] at this;cases this
  |@far i d p f k u=>intro c z;have:=N.nx l x c z;rw[z] at this;rcases r (lk i) (N.lt i c) with⟨_,q,o,_,g1,_⟩|⟨_,g1,_⟩;rw[OM f g1] at this;cases this;exact u (N.lt i c) g1
 have inn:∀{i d:Nat}{p:Str×Int},Dq lk bt g i d p->i<n->(d:Int)∈ts:=(by intro i d p k c;rcases r i c with⟨D,J,o,_,_,g2⟩|⟨_,g1,_⟩;rw[(k.uniq o).1];exact Bf g2;exact absurd g1 (s k c));intro i c;rcases r i c with⟨d,p,k,_,e,j⟩|⟨_,e,j⟩;refine .inl ⟨d,p,k,?_,e,j⟩;have v:((List.range d).map λt:Nat=>((t+1:Nat):Int)).Nodup:=(by refine List.Pairwise.map _ (λa b B=>?_) List.nodup_range;intro z;apply B;lia)
 have:=v.length_le_of_subset (l₂:=ts) λy w=>by
  obtain⟨t,A,rfl⟩:=AW.mp w;obtain⟨E,F,C,L⟩:=k.down N.lt c (t+1) (by lia) (by have:=List.mem_range.mp A;lia);exact inn L C
 rw[Am,p6,lt] at this;exact this;exact .inr ⟨λd p k=>s k c e,e,j⟩
abbrev Ny (lk:Nat->Nat) (bt:Nat->C') (g:Nat->Str×Int->Str×Int) (n:Nat):List AI:=(List.range n).map (HA lk bt g (n+1))
abbrev Zf (lk:Nat->Nat) (bt:Nat->C') (g:Nat->Str×Int->Str×Int) (n:Nat):F':=(List.range n).map (LR lk bt g (n+1))
def EM.due(N:EM lk bt g W qs inn ord n)(h:Run W qs inn ord m as ts)(x:Hj W qs inn ord as as):as=Ny lk bt g n/\ts=Zf lk bt g n:=by
 obtain⟨o,lt,_⟩:=N.run h
 have j:∀i,i<n->as[i]?=some (HA lk bt g (n+1) i)/\ts[i]?=some (LR lk bt g (n+1) i):=λi a=>by
  unfold HA LR;rcases Zd (lk:=lk) (bt:=bt) (g:=g) (n+1) i with⟨d,p,k,hd,e⟩|⟨l,e⟩<;>rcases N.still h x i a with⟨d',R,f,q,b,c⟩|⟨no,b,c⟩;obtain⟨rfl,rfl⟩:=k.uniq f;rw[e,b,c];exact⟨rfl,rfl⟩;exact absurd k (no _ _);exact absurd (l _ _ f) (by lia);rw[e,b,c];exact⟨rfl,rfl⟩
 refine⟨t4 λi=>?_,t4 λi=>?_⟩<;>rcases t7 i n with a|a;rw[(j i a).1,AQ,p8 a];rfl;rw[Ek (by lia),Ek (by rw[Am,p6];exact a)];rw[(j i a).2,AQ,p8 a];rfl;rw[Ek (by lia),Ek (by rw[Am,p6];exact a)]
def Qq:(E7 lk bt g n).length=n:=by unfold E7;rw[Am,p6]
def VF(h:i<n):(E7 lk bt g n)[i]?=some (if(dq lk bt g (n+1) i).isNone=true then some ((lk i:Nat):Int) else none):=by unfold E7;rw[AQ,p8 h];rfl
def NA{x o:Int}(h:nx (E7 lk bt g n) x=some o):0<=x/\x.toNat<n/\o=((lk x.toNat:Nat):Int):=by obtain⟨c,a⟩:=CT.mp h;have b:=(AV.mp a).1;rw[Qq] at b;refine⟨c,b,?_⟩;rw[VF b] at a;split at a;cases a;rfl;cases a
def EM.wts(N:EM lk bt g W qs inn ord n){ws:E'}(c:R6 (W.late (Ny lk bt g n)) inn ord qs ws):ws=E7 lk bt g n:=by
 have j:(Ny lk bt g n).length=n:=(by rw[Am,p6]);refine t4 λk=>?_;rcases t7 k n with a|a;rw[VF a];have m:=c.1;have h:=AD (show k<ws.length by rw[m,N.len];exact a);have i:=AD (show k<qs.length by rw[N.len];exact a);have d:(Ny lk bt g n)[k]?=some (HA lk bt g (n+1) k):=by rw[AQ,p8 a];rfl
 unfold HA at d;rcases c.2 k _ _ i h with⟨R,e,z⟩|⟨e,w,l,t,o,z⟩;have b:(Ny lk bt g n)[k]?=some (some R):=e;rw[d] at b
 cases f:dq lk bt g (n+1) k with
 |none=>rw[f] at b;cases b
 |some y=>rw[h,z];rfl
 have b:(Ny lk bt g n)[k]?=some none:=e;rw[d] at b;have:=(N.fd j i o).2 w rfl
 cases f:dq lk bt g (n+1) k with
 |none=>rw[h,z,this];rfl
 |some y=>rw[f] at b;cases b
 rw[Ek (by rw[c.1,N.len];exact a),Ek (by rw[Qq];exact a)]
end
structure Zg (H:Hp) (dts:I') (lk:Nat->Nat) (bt:Nat->C') (g:Nat->Str×Int->Str×Int) (n:Nat):Prop where
 len:dts.length=n
 at_:∀(i:Nat)(t:Addr),dts[i]?=some t->∃v,H t=some (.tup [v,.int (LR lk bt g (n+1) i)])/\A9 GZ H v (B4 (HA lk bt g (n+1) i))
def Fp (lk:Nat->Nat) (n:Nat):F':=(List.range n).map λi=>((lk i:Nat):Int)
variable {lk:Nat->Nat}
def R8:(Fp lk n).length=n:=by unfold Fp;rw[Am,p6]
def R9(h:i<n):Bm ((Fp lk n).map V.int) (i:Int)=some (.int (lk i:Nat)):=A8 (by unfold Fp;rw[AQ,AQ,p8 h];rfl)
def VG{bt:Nat->C'}{g:Nat->Str×Int->Str×Int}{x o:Int}(h:nx (E7 lk bt g n) x=some o):Bm ((Fp lk n).map V.int) x=some (.int o):=by obtain⟨a,b,rfl⟩:=NA h;have:=R9 (lk:=lk) b;rw[Int.toNat_of_nonneg a] at this;exact this
def KX{K:Aj}{a:Addr}{xs:U'}{g:TG}{tb:TS}(Pv:Nat->St->Hp->Prop)(d:Pv 0 σ H)(c:∀i σ H,i<=xs.length->Pv i σ H->Ae K H a xs)
 (e:∀i x σ H,xs.reverse[i]?=some x->Pv i σ H->g x σ H λσ' H'=>tb {D with nx:=Pv (i+1),ct:=Pv (i+1),bk:=D.nx} σ' H') (hd:∀σ H,Pv xs.length σ H->D.nx σ H):FF (Vy K a xs.length) g tb D σ H:=Oc xs.length Pv d (λi σ H p b=>⟨xs,xs.reverse[i]'(by rw[List.length_reverse];exact b),c i σ H (Cf b) p,rfl,AD _⟩) (λσ H p=>⟨xs,c _ σ H (AF _) p,rfl,rfl⟩) (λi v σ H H' p b y=>by obtain⟨rfl,y⟩:=y;exact e i v σ _ (y xs (c i σ _ (Cf b) p)) p) hd
def Sa{t u:TS}(h:∀N,N=u D->t {D with nx:=N} σ H):HK t u D σ H:=h _ rfl
def Dz{t u:TS}{N:St->Hp->Prop}(e:N=HK t u D)(h:∀a,a=u D->t {D with nx:=a} σ H):N σ H:=by rw[e];exact h _ rfl
def Sb{N M:St->Hp->Prop}(e:N=M)(h:M σ H):N σ H:=e▸h
structure GP (W:Wd) (qs:Z') (ord:A') (n:Nat) (l1 l4 x:Str) (e0:J') (hr pr lk:Nat->Nat) (wd lb:Nat->Str) (th pt:Nat->Int):Prop where
 sts:W.sts=[([(l1,1)],e0),([],[l4])]
 len:qs.length=n
 q:∀i,i<n->qs[i]?=some ((hr i:Int),0,[x])
 sh:∀i,i<n->W.ss[hr i]?=some ([(l1,n7,(lk i:Int))],if wd i=k' then[] else[(lb i,x,f',th i)])
 sp:∀i,i<n->W.ss[pr i]?=some ([],if pt i<0 then[] else[(l4,x,f',pt i)])
 gl:W.gs.length=n
 gs:∀i,i<n->W.gs[i]?=some (o5,(pr i:Int))
 ne:∀i j,i<n->j<n->pr j≠hr i
 lt:∀i,i<n->lk i<n
 s8:∀s∈W.ss,s.1.length<=8
 t3:∀s∈W.ss,s.2.length<=3
 e_:∀i,i<n->wd i≠k'->lb i∈e0
 bo:∀i,i<n->wd i=n8->(lb i,l1)∈ord
 bn:∀i,i<n->wd i≠n8->(lb i,l1)∉ord
 wo:∀i,i<n->wd i=o2->(l1,lb i)∈ord
 wn:∀i,i<n->wd i≠o2->(l1,lb i)∉ord
 kd:∀i,i<n->wd i=n8\/wd i=o2\/wd i=o7\/wd i=k'
def G0 (wd:Nat->Str) (th:Nat->Int) (i:Nat):C':=if wd i=n8 then some ("thing",th i) else none
def KY (n:Nat) (pt:Nat->Int) (p:Str×Int):M':=if p.1=f'/\p.2.toNat<n/\0<=pt p.2.toNat then some (pt p.2.toNat) else none
def gS (n:Nat) (wd:Nat->Str) (th pt:Nat->Int) (i:Nat) (p:Str×Int):Str×Int:=match KY n pt p with
 |none=>if wd i=k' then("none",0) else("thing",th i)
 |some f=>if wd i=k'\/wd i=o2 then("thing",f) else if wd i=o7/\th i≠f then("torn",0) else("thing",th i)
section
variable {W:Wd} {ss:List Bo} {ord:A'}
def A6{ws:W'}:w∈Cg ss ord ws ws↔w∈ws/\∀v∈ws,BH ss ord v w=false:=by unfold Cg;rw[JC,Bool.not_eq_true',t9];exact and_congr Iff.rfl ⟨λh v a=>Bool.eq_false_iff.mpr (h v a),λh v a=>Bool.eq_false_iff.mp (h v a)⟩
def Qr{n:Int}(a:w∈C)(h:∀w∈C,Bh W w=some n):Cq W C at_=(f',n):=by
 have c:¬∀w∈C,Bh W w=none:=λz=>by have:=z w a;rw[h w a] at this;cases this
 cases C with|nil=>cases a|cons v r=>obtain⟨m,b,d⟩:=P5 (at_:=at_) c λu e=>(h u e).trans (h v Bg).symm;rw[h v Bg] at b;rw[d,Bt b]
def KZ{a b:Int}{v:X'}(hv:v∈C)(g:w∈C)(d:Bh W v=some a)(h:Bh W w=some b)(i:a≠b):Cq W C at_=(p2,at_):=by
 have c:¬∀w∈C,Bh W w=none:=λz=>by have:=z v hv;rw[d] at this;cases this
 cases C with|nil=>cases hv|cons u r=>refine P4 c λz=>i ?_;have e:=z v hv;have f:=z w g;rw[d] at e;rw[h] at f;exact Bt (e.trans f.symm)
def K0{ws:W'}(h:∀v∈ws,BH W.ss ord v o.1=false):BC W ord ws [o] at_=(none,some (at_,o.1,o.2)):=by refine LL ?_;unfold DQ;rw[RK (List.any_eq_false.mpr λv a=>Bool.eq_false_iff.mp (h v a))]
def Sc{ws:W'}(h:∀o∈os,∃v∈ws,BH W.ss ord v o.1=true)(a:∀w∈ws,D0 W w=none):BC W ord ws os at_=(some (Cq W (Cg W.ss ord ws ws) at_),none):=by
 refine Iz ?_
 have e:E6 W.ss ord ws os=none:=by
  induction os with|nil=>rfl|cons o os b=>obtain⟨v,c,d⟩:=h o Bg;rw[RL (Gv.mpr ⟨v,c,d⟩)];exact b λo a=>h o (BQ _ a)
 unfold DQ;rw[e];exact Vg λw f=>a w (A6.mp f).1
end
section
variable {W:Wd} {qs:Z'} {ord:A'} {n:Nat} {l1 l4 x:Str} {e0:J'} {hr pr lk:Nat->Nat} {wd lb:Nat->Str} {th pt:Nat->Int}
def GP.hub(N:GP W qs ord n l1 l4 x e0 hr pr lk wd lb th pt)(as:List AI):EY (W.late as) where
 n1:=by show Cw ⟨W.ss,W.gs,as,W.sts⟩ 1=[];rw[N.sts];rfl
 to1 p a:=by have a:p∈Cw ⟨W.ss,W.gs,as,W.sts⟩ 0:=a;rw[N.sts] at a;have a:p∈[(l1,(1:Int))]:=a;rw[AR.mp a]
 l2:=by show W.sts.length=2;rw[N.sts];rfl
 g9:=by show(Cw ⟨W.ss,W.gs,as,W.sts⟩ 0).length<=100;rw[N.sts];show 1<=100;decide
 s8:=N.s8
 t3:=N.t3
def GP.fd(N:GP W qs ord n l1 l4 x e0 hr pr lk wd lb th pt){as:List AI}(hl:as.length=n){q:Qu}{a:AI}{w:Option Wt}(hq:qs[i]?=some q)(hu:LU (W.late as) inn ord q.1 q.2.1 q.2.2 0 a w ls ts) :
 a=IR lk (G0 wd th) (gS n wd th pt) as i/\∀g,w=some g->g.2.2=((lk i:Nat):Int):=by
 have j:i<n:=by rw[<-N.len];exact(AV.mp hq).1
 rw[N.q i j] at hq;obtain rfl:=Bt hq;have hb:=N.hub as;generalize P:W.late as=V at hu hb;have ak:V.ss=W.ss:=(by rw[<-P]);have av:V.gs=W.gs:=(by rw[<-P]);have aw:V.as=as:=(by rw[<-P]);have ab:V.sts=[([(l1,1)],e0),([],[l4])]:=by rw[<-P];exact N.sts
 clear P;have J:=N.sh i j;rw[<-ak] at J;have eS:BN V (hr i:Int)=[(l1,n7,(lk i:Int))]:=by unfold BN;rw[Bn,J]
 have eT:EI V (hr i:Int)=if wd i=k' then[] else[(lb i,x,f',th i)]:=by unfold EI;rw[Bn,J]
 have ax:Cw V 0=[(l1,1)]:=by unfold Cw;rw[ab];rfl
 have ay:FW V 0=e0:=by unfold FW;rw[ab];rfl
 have az:FW V 1=[l4]:=by unfold FW;rw[ab];rfl
 have al:EX V (hr i:Int) 0=[(((hr i:Int),o1,(0:Int)),Bu W.gs as (l1,n7,(lk i:Int)),(1:Int))]:=(by unfold EX;rw[eS,ax];show EW V (hr i:Int) [(l1,1)] (l1,n7,(lk i:Int)) 0++[]=_;unfold EW;have:En [(l1,1)] l1=some 1:=Ag rfl;dsimp only;rw[this,FA,av,aw];rfl);obtain⟨l,os,H,hA,_⟩:=hu.inv;have c:=H.f.perm.trans (hb.found (.inl rfl) H.b.mem H.b.nd x);have A:=H.o.perm.trans (hb.owed (.inl rfl) H.b.mem H.b.nd);rw[al] at A;have eK:BK V ([],(hr i:Int),0)=[(((hr i:Int),o1,(0:Int)),Bu W.gs as (l1,n7,(lk i:Int)),(1:Int))].filterMap (kid ([],(hr i:Int),0)):=(by unfold BK;rw[show EX V (([],(hr i:Int),0):AK).2.1 (([],(hr i:Int),0):AK).2.2=_ from al]);rw[eK] at c;clear eK;obtain⟨m,X⟩:∃m:Ao,m=((hr i:Int),o1,(0:Int)):=⟨_,rfl⟩;obtain⟨ow,R⟩:∃ow:X',ow=[((hr i:Int),o6,(0:Int))]:=⟨_,rfl⟩;have ar:((hr i:Int),o6,(0:Int))≠m:=λz=>by rw[X] at z;exact absurd (Bw (λau:Ao=>au.2.1) z) (show ¬o6=o1 by decide +kernel)
 have lm:FK V.ss m=l1:=by rw[X];exact XQ (n:=hr i) (k:=0) rfl rfl J rfl rfl
 have fo:Gf V x ([],(hr i:Int),0)=if wd i=k' then[] else[ow]:=by
  unfold Gf;rw[show EI V (([],(hr i:Int),0):AK).2.1=_ from eT];by_cases e:wd i=k';rw[Ag e,Ag e];rfl;rw[Ah e,Ah e];show EJ V ([],(hr i:Int),0) x (lb i,x,f',th i) 0++[]=_;unfold EJ;rw[Ag ⟨rfl,by show lb i∈FW V 0;rw[ay];exact N.e_ i j e⟩,R];rfl
 have an:wd i≠k'->FK V.ss ((hr i:Int),o6,(0:Int))=lb i:=λe=>XR (n:=hr i) (k:=0) (p:=(lb i,x,f',th i)) rfl rfl J (show ¬o6=o1 by decide +kernel) (by rw[Ah e];rfl)
 have a0:wd i≠k'->Cp V.ss ow=(lb i,x,f',th i):=λe=>by
  rw[R];exact(OD V.ss [] _).trans (RI (n:=hr i) (k:=0) rfl rfl J (by rw[Ah e];rfl))
 have ao:¬f'=n7:=by decide +kernel
 have K:wd i≠k'->D0 V ow=none/\Bh V ow=some (th i):=λe=>by
  unfold D0 Bh;rw[a0 e];exact⟨Ah λz=>ao z.1,Ag rfl⟩
 have ae:∀(r:X'),wd i≠k'->BH V.ss ord ow (m::r)=dec ((lb i,l1)∈ord):=λr e=>by
  rw[R,Jr _ _ _ _ ar,an e,lm]
 have a1:∀(r:X'),wd i≠k'->BH V.ss ord (m::r) ow=dec ((l1,lb i)∈ord):=λr e=>by
  rw[R,Jr _ _ _ _ (Ne.symm ar),an e,lm]
 have af:BH V.ss ord ow ow=false:=by rw[R,LG];exact Js _ _ (.inl rfl)
 have S:¬n8=k':=(by decide +kernel);have aA:¬o2=k':=(by decide +kernel);have bw:¬n8=o2:=(by decide +kernel);have ba:¬n8=o7:=(by decide +kernel);have wa:¬o2=o7:=(by decide +kernel);have aB:¬o7=k':=(by decide +kernel)
 have own:∀{os:Δ},l.2.1.Perm (if wd i=k' then[] else[ow])->(∀o∈os,wd i=n8/\o.1=[m])->BC V ord l.2.1 os 0=(some (if wd i=k' then(p0,0) else("thing",th i)),none):=λ{os}c u=>by
  by_cases e:wd i=k';rw[Ag e] at c ⊢;rw[List.perm_nil.mp c,Sc (λo h=>absurd (e.symm.trans (u o h).1).symm S) λw h=>(by cases h)];rfl;rw[Ah e] at c ⊢;rw[List.perm_singleton.mp c,Sc (λo h=>⟨ow,Bg,by rw[(u o h).2,ae [] e];exact Eu (N.bo i j (u o h).1)⟩) λw h=>by rw[AR.mp h];exact(K e).1];rw[Qr (w:=ow) (n:=th i) (A6.mpr ⟨Bg,λv h=>by rw[AR.mp h];exact af⟩) λw h=>by rw[AR.mp (A6.mp h).1];exact(K e).2]
 have D:=AD (show lk i<as.length by rw[hl];exact N.lt i j);generalize as[lk i]'(by rw[hl];exact N.lt i j)=o at D;have aj:¬n7=j':=(by decide +kernel);have a6:¬n5=j':=(by decide +kernel);have a7:¬o4=j':=(by decide +kernel);have a8:¬o4=n5:=(by decide +kernel);have a9:¬j'=n5:=(by decide +kernel)
 have E:∀{b:AI}{Y:Option Wt},BC V ord l.2.1 os 0=(b,Y)->b=IR lk (G0 wd th) (gS n wd th pt) as i->(∀g,Y=some g->g.2.2=((lk i:Nat):Int))->a=IR lk (G0 wd th) (gS n wd th pt) as i/\∀g,w=some g->g.2.2=((lk i:Nat):Int):=λ{b Y}e B Q=>by
  obtain⟨ea,ew,_⟩:=hA b Y e (.inr rfl);rw[<-ea,<-ew];exact⟨B,Q⟩
 have aa:wd i=n8->G0 wd th i=some (f',th i):=λe=>Ag e;have T:wd i≠n8->G0 wd th i=none:=λe=>Ah e;have g0:∀p,KY n pt p=none->gS n wd th pt i p=if wd i=k' then(p0,0) else("thing",th i):=λp e=>by unfold gS;rw[e]
 have aq:(Bu W.gs as (l1,n7,(lk i:Int))).1≠j'->l.2.1.Perm (if wd i=k' then[] else[ow]):=λh=>by
  rw[fo,Md,show kid ([],(hr i:Int),0) (((hr i:Int),o1,(0:Int)),Bu W.gs as (l1,n7,(lk i:Int)),(1:Int))=none from Ah λz=>h z.1] at c;exact c.trans (.of_eq (FA _))
 cases o with
 |none=>
  have F:Bu W.gs as (l1,n7,(lk i:Int))=(n5,(lk i:Int)):=Xq (n:=lk i) aj rfl D;have c:=aq (by rw[F];exact a6);rw[F] at A;have L:os=[([m],(lk i:Int))]:=(by rw[X];exact List.perm_singleton.mp A);by_cases d:wd i=n8;refine E (own c λo u=>⟨d,by rw[L] at u;rw[AR.mp u]⟩) ?_ (λg h=>by cases h);rw[OL (aa d),Ah (by rw[d];exact S)];rw[L] at E;refine E (K0 λv s=>?_) (Ze (T d) D).symm λg h=>by cases h;rfl
  by_cases e:wd i=k';rw[Ag e] at c;rw[List.perm_nil.mp c] at s;cases s;rw[Ah e] at c;rw[List.perm_singleton.mp c] at s;rw[AR.mp s,ae [] e];exact EV (N.bn i j d)
 |some p=>
  by_cases C:p.1=f'/\p.2.toNat<n;generalize ek:p.2.toNat=k at C;have F:Bu W.gs as (l1,n7,(lk i:Int))=(j',(pr k:Int)):=(by unfold Bu;rw[Ah aj];dsimp only;rw[Bn,D];dsimp only;rw[Ag C.1,ek,N.gs k C.2];exact Ag rfl);rw[F] at c A;have e1:([(((hr i:Int),o1,(0:Int)),((j',(pr k:Int)):Str×Int),(1:Int))]:List Gn).filterMap (kid ([],(hr i:Int),0))=[([m],(pr k:Int),1)]:=(by rw[Md,show kid ([],(hr i:Int),0) (((hr i:Int),o1,(0:Int)),((j',(pr k:Int)):Str×Int),(1:Int))=some ([m],(pr k:Int),1) from(Ag ⟨rfl,λz=>N.ne i k j C.2 (Int.ofNat.inj (AR.mp z))⟩).trans (by rw[X];rfl)];rfl);have L:os=[]:=(by rw[Md,UN a9] at A;exact List.perm_nil.mp A);have ag:=N.sp k C.2;rw[<-ak] at ag;have a2:EI V (pr k:Int)=if pt k<0 then[] else[(l4,x,f',pt k)]:=by unfold EI;rw[Bn,ag]
  obtain⟨f,U⟩:∃f:X',f=[m,((pr k:Int),o6,(0:Int))]:=⟨_,rfl⟩
  have fk:Gf V x ([m],(pr k:Int),1)=if pt k<0 then[] else[f]:=by
   unfold Gf;rw[show EI V (([m],(pr k:Int),1):AK).2.1=_ from a2];by_cases e:pt k<0;rw[Ag e,Ag e];rfl;rw[Ah e,Ah e];show EJ V ([m],(pr k:Int),1) x (l4,x,f',pt k) 0++[]=_;unfold EJ;rw[Ag ⟨rfl,by show l4∈FW V 1;rw[az];exact Bg⟩,U];rfl
  rw[e1,fo] at c
  have c:l.2.1.Perm ((if wd i=k' then[] else[ow])++if pt k<0 then[] else[f]):=by
   have:(if wd i=k' then[] else[ow])++[(([m],(pr k:Int),1):AK)].flatMap (Gf V x)=(if wd i=k' then[] else[ow])++if pt k<0 then[] else[f]:=(by rw[<-fk];show _++(Gf V x ([m],(pr k:Int),1)++[])=_;rw[FA]);rw[this] at c;exact c
  rw[L] at E;by_cases ah:pt k<0;rw[Ag ah,FA] at c;refine E (own c λo u=>by cases u) ?_ (λg h=>by cases h);have I:KY n pt p=none:=Ah λz=>by rw[ek] at z;lia
  by_cases d:wd i=n8;rw[OL (aa d),Ah (by rw[d];exact S)];rw[OM (T d) D,g0 p I];rw[Ah ah] at c;have I:KY n pt p=some (pt k):=(by unfold KY;rw[ek];exact Ag ⟨C.1,C.2,by lia⟩);have a3:Cp V.ss f=(l4,x,f',pt k):=(by rw[U];exact(OD V.ss [m] _).trans (RI (n:=pr k) (k:=0) rfl rfl ag (by rw[Ah ah];rfl)));have M:D0 V f=none/\Bh V f=some (pt k):=(by unfold D0 Bh;rw[a3];exact⟨Ah λz=>ao z.1,Ag rfl⟩);have ai:BH V.ss ord f f=false:=(by rw[U,LG,LG];exact Js _ _ (.inl rfl));by_cases e:wd i=k';rw[Ag e,List.nil_append] at c;have el:=List.perm_singleton.mp c;have hm:BC V ord l.2.1 [] 0=(some (f',pt k),none):=(by rw[el,Sc (λo h=>by cases h) λw h=>by rw[AR.mp h];exact M.1];rw[Qr (w:=f) (n:=pt k) (A6.mpr ⟨Bg,λv h=>by rw[AR.mp h];exact ai⟩) λw h=>by rw[AR.mp (A6.mp h).1];exact M.2]);refine E hm ?_ (λg h=>by cases h);rw[OM (T (by rw[e];exact Ne.symm S)) D];unfold gS;rw[I];dsimp only;rw[Ag (.inl e)];rw[Ah e] at c;have y:∀w,w∈l.2.1↔w=ow\/w=f:=λw=>by rw[c.mem_iff];simp
  have mo:=(y ow).mpr (.inl rfl);have mp:=(y f).mpr (.inr rfl);have O:BH V.ss ord ow f=dec ((lb i,l1)∈ord):=by rw[U];exact ae _ e
  have G:BH V.ss ord f ow=dec ((l1,lb i)∈ord):=by rw[U];exact a1 _ e
  have a4:BC V ord l.2.1 [] 0=(some (Cq V (Cg V.ss ord l.2.1 l.2.1) 0),none):=Sc (λo h=>by cases h) λw h=>by
   rcases(y w).mp h with rfl|rfl;exact(K e).1;exact M.1
  refine E a4 ?_ (λg h=>by cases h);by_cases d:wd i=n8;rw[OL (aa d)];rw[Eu (N.bo i j d)] at O;rw[EV (N.wn i j (by rw[d];exact bw))] at G;rw[Qr (w:=ow) (n:=th i) (A6.mpr ⟨mo,λv s=>?_⟩) λw t=>?_];rcases(y v).mp s with rfl|rfl;exact af;exact G;obtain⟨B,Q⟩:=A6.mp t;rcases(y w).mp B with rfl|rfl;exact(K e).2;rw[Q ow mo] at O;cases O;rw[OM (T d) D];unfold gS;rw[I];dsimp only;rw[EV (N.bn i j d)] at O;by_cases t:wd i=o2;rw[Ag (.inr t)];rw[Eu (N.wo i j t)] at G;rw[Qr (w:=f) (n:=pt k) (A6.mpr ⟨mp,λv s=>?_⟩) λw t=>?_];rcases(y v).mp s with rfl|rfl;exact O;exact ai;obtain⟨B,Q⟩:=A6.mp t;rcases(y w).mp B with rfl|rfl;rw[Q f mp] at G;cases G;exact M.2;have a5:wd i=o7:=(by rcases N.kd i j with z|z|z|z;exact absurd z d;exact absurd z t;exact z;exact absurd z e);rw[EV (N.wn i j t)] at G;rw[Ah (λz=>z.elim e t)]
  have so:ow∈Cg V.ss ord l.2.1 l.2.1:=A6.mpr ⟨mo,λv s=>by
   rcases(y v).mp s with rfl|rfl;exact af;exact G⟩
  have sp:f∈Cg V.ss ord l.2.1 l.2.1:=A6.mpr ⟨mp,λv s=>by
   rcases(y v).mp s with rfl|rfl;exact O;exact ai⟩
  by_cases Z:th i=pt k;rw[Ah (λz=>z.2 Z),Qr (n:=th i) so λw t=>?_];rcases(y w).mp (A6.mp t).1 with rfl|rfl;exact(K e).2;rw[Z];exact M.2;rw[Ag ⟨a5,Z⟩,KZ so sp (K e).2 M.2 Z];have I:KY n pt p=none:=Ah λz=>C ⟨z.1,z.2.1⟩;have F:Bu W.gs as (l1,n7,(lk i:Int))=(o4,0):=(by unfold Bu;rw[Ah aj];dsimp only;rw[Bn,D];dsimp only;by_cases B:p.1=f';rw[Ag B,Ek (by rw[N.gl];exact Nat.le_of_not_lt λz=>C ⟨B,z⟩)];rw[Ah B]);have c:=aq (by rw[F];exact a7);rw[F] at A;have L:os=[]:=(by rw[Md,UN a8] at A;exact List.perm_nil.mp A);rw[L] at E;refine E (own c λo u=>by cases u) ?_ (λg h=>by cases h);by_cases d:wd i=n8;rw[OL (aa d),Ah (by rw[d];exact S)];rw[OM (T d) D,g0 p I]
def GP.tnet(N:GP W qs ord n l1 l4 x e0 hr pr lk wd lb th pt)(inn:Int):EM lk (G0 wd th) (gS n wd th pt) W qs inn ord n:=⟨N.len,N.lt,λ{_}a{_ _ _ _ _ _}b c=>N.fd a b c⟩
end
end L2
abbrev L2.SF (n:List (PySem.Str×PySem.NameKind)):PySem.Scope:={kind:=.function,names:=n,isGenerator:=false,isCoroutine:=false,more:=[]}
def L2.new_at{H:L2.Hp}{a:PySem.Addr}{o:L2.HO}(h:H a=none):∃H':L2.Hp,H'=L2.upd H a o/\L2.Ac H H'/\H' a=some o:=⟨_,rfl,L2.A0 h,L2.Aa⟩
variable {α:Type}{i:Nat}
def L2.getm{β:Type}{f:α->β}{l:List α}{x:β}(h:(l.map f)[i]?=some x):∃z,l[i]?=some z/\f z=x:=by rw[AQ] at h;exact E4.mp h
namespace K41
open PySem PySem.Spec PyProof.Rows L2 Ord
local macro_rules | `(tactic| trivial) => `(tactic| exact ⟨rfl, rfl, rfl, by decide +kernel, rfl, by decide +kernel, by decide +kernel⟩)
local macro_rules | `(tactic| trivial) => `(tactic| exact ⟨rfl, by decide +kernel, by decide +kernel, by decide +kernel, rfl, by decide +kernel, by decide +kernel⟩)
local macro_rules | `(tactic| rfl') => `(tactic| try dsimp only[AH,Cx.nox,Cx.wish])
def Jw:Ai ["_law_cell", "_law_many", "_law_letters", "_law_long", "_law_at", "_law_some", "_law_k", "_law_name", "_law_j", "_law_sign"] ["_law_cell", "_law_many"] (AY SH):=by trivial
def i7:Ai ["_law_script", "_law_k"] ["_law_script", "_law_k"] (AY SI):=by trivial
def Zh:Ai ["_law_script", "_law_i", "_law_factor", "_law_cell"] ["_law_script", "_law_i", "_law_factor"] (AY SJ):=by trivial
def HB:Ai ["_law_script", "_law_many", "_law_links", "_law_own", "_law_parts_here", "_law_i", "_law_number_here", "_law_first"] ["_law_script", "_law_many"] (AY N2):=by trivial
def CG:Al (AY N2) ["_law_script", "_law_many", "_law_links", "_law_own", "_law_parts_here", "_law_i", "_law_number_here", "_law_first"] (SF [ (".0",.local),("_law_i",.local),("_law_many",.free)]) ["_law_i", "_law_many"] 1 [1]:=by trivial
def CH:Al (AY N2) ["_law_script", "_law_many", "_law_links", "_law_own", "_law_parts_here", "_law_i", "_law_number_here", "_law_first"] (SF [ (".0",.local),("_law_i",.local),("int",.globalImplicit),("_law_first",.free)]) ["_law_i", "_law_first"] 1 [7]:=by trivial
def CI:Al (AY N2) ["_law_script", "_law_many", "_law_links", "_law_own", "_law_parts_here", "_law_i", "_law_number_here", "_law_first"] (SF [ (".0",.local),("_law_i",.local),("_law_first",.free),("_law_many",.free),("_law_own",.free)]) ["_law_i", "_law_own", "_law_many", "_law_first"] 1 [3,1,7]:=by trivial
def Gg:Ai ["_law_script", "_law_name", "_law_labels", "_law_head", "_law_many", "_law_links", "_law_own", "_law_parts_here", "_law_off", "_law_scopes", "_law_label_by", "_law_i", "_law_here", "_law_things", "_law_questions", "_law_order", "_law_states"] ["_law_script"] (AY N4):=by trivial
def CZ:Al (AY N4) ["_law_script", "_law_name", "_law_labels", "_law_head", "_law_many", "_law_links", "_law_own", "_law_parts_here", "_law_off", "_law_scopes", "_law_label_by", "_law_i", "_law_here", "_law_things", "_law_questions", "_law_order", "_law_states"] (SF [(".0",.local),("_law_k",.local)]) ["_law_k"] 1 []:=by trivial
def C0:Al (AY N4) ["_law_script", "_law_name", "_law_labels", "_law_head", "_law_many", "_law_links", "_law_own", "_law_parts_here", "_law_off", "_law_scopes", "_law_label_by", "_law_i", "_law_here", "_law_things", "_law_questions", "_law_order", "_law_states"] (SF [ (".0",.local),("_law_i",.local),("_law_many",.free),("_law_off",.free)]) ["_law_i", "_law_many", "_law_off"] 1 [4,8]:=by trivial
def C1:Al (AY N4) ["_law_script", "_law_name", "_law_labels", "_law_head", "_law_many", "_law_links", "_law_own", "_law_parts_here", "_law_off", "_law_scopes", "_law_label_by", "_law_i", "_law_here", "_law_things", "_law_questions", "_law_order", "_law_states"] (SF [ (".0",.local),("_law_i",.local),("_law_many",.free),("_law_name",.free),("_law_off",.free)]) ["_law_i", "_law_name", "_law_off", "_law_many"] 1 [1,8,4]:=by trivial
def ON:Ai ["_law_own", "_law_parts_here", "_law_before", "_law_word", "_law_thing", "_law_found"] ["_law_own", "_law_parts_here", "_law_before"] (AY SK):=by trivial
def Qs:Ai ["_law_links", "_law_own", "_law_parts_here", "_law_i", "_law_some", "_law_answer", "_law_k"] ["_law_links", "_law_own", "_law_parts_here", "_law_i"] (AY SM):=by trivial
def Sd:Ai ["table", "state", "label", "goes", "known", "number"] ["table", "state", "label"] (AY SN):=by trivial
def Se:Ai ["net", "answers", "question", "answer", "kind", "number"] ["net", "answers", "question"] (AY SO):=by trivial
def VH:Ai ["net", "answers", "thing", "kind", "number"] ["net", "answers", "thing"] (AY SQ):=by trivial
def Qt:Ai ["net", "answers", "step", "label", "kind", "number", "answer"] ["net", "answers", "step"] (AY SS):=by trivial
def NB:Ai ["net", "answers", "table", "scope", "state", "gone", "index", "step", "after", "kind", "number"] ["net", "answers", "table", "scope", "state"] (AY SU):=by trivial
def Jx:Ai ["net", "answers", "table", "beginning", "marks", "last", "then", "come_to", "longer", "mark", "kind", "number", "after"] ["net", "answers", "table", "beginning"] (AY QY):=by trivial
def BI:Al (AY QY) ["net", "answers", "table", "beginning", "marks", "last", "then", "come_to", "longer", "mark", "kind", "number", "after"] (SF [(".0",.local),("mark",.local)]) ["mark"] 1 []:=by trivial
def Sf:Ai ["net", "answers", "table", "scope", "state", "found", "place"] ["net", "answers", "table", "scope", "state"] (AY SV):=by trivial
def Zi:Ai ["table", "state", "label", "ends"] ["table", "state", "label"] (AY SW):=by trivial
def NC:Ai ["net", "table", "begun", "name", "ways", "marks", "last", "then", "index", "telling"] ["net", "table", "begun", "name"] (AY SX):=by trivial
def i8:Ai ["table"] ["table"] (AY QZ):=by trivial
def Ck:Al (AY QZ) ["table"] (SF [(".0",.local),("pair",.local)]) ["pair"] 1 []:=by trivial
def ND:Ai ["ways", "tree", "number", "way", "branch", "mark"] ["ways"] (AY SY):=by trivial
def OO:Ai ["net", "mark", "scope", "kind", "index", "steps", "tellings"] ["net", "mark"] (AY S0):=by trivial
def NE:Ai ["net", "better", "tree", "way", "numbers", "branch", "mark", "label", "beside"] ["net", "better", "tree", "way"] (AY S1):=by trivial
def VI:Ai ["net", "table", "ways", "better", "tree"] ["net", "table", "ways"] (AY Q0):=by trivial
def C3:Al (AY Q0) ["net", "table", "ways", "better", "tree"] (SF [ (".0",.local),("way",.local),("first_hider",.globalImplicit),("list",.globalImplicit),("better",.free),("net",.free),("tree",.free)]) ["way", "net", "better", "tree"] 1 [0,3,4]:=by trivial
def Zj:Ai ["net", "table", "begun", "name", "found"] ["net", "table", "begun", "name"] (AY S3):=by trivial
def Qv:Ai ["net", "table", "found", "owed", "better", "tree", "way", "question"] ["net", "table", "found", "owed"] (AY S4):=by trivial
def Qw:Ai ["net", "mark", "scope", "kind", "index", "tellings"] ["net", "mark"] (AY S5):=by trivial
def OP:Ai ["net", "answers", "seen", "way", "label", "name", "kind", "number"] ["net", "answers", "seen"] (AY S6):=by trivial
def NF:Ai ["net", "answers", "way", "label", "name", "kind", "number"] ["net", "answers", "way"] (AY S7):=by trivial
def K1:Ai ["net", "answers", "table", "owed", "look", "at", "begun", "found", "seen", "waiting", "way", "question", "meanings"] ["net", "answers", "table", "owed", "look", "at"] (AY N5):=by trivial
def G1:Al (AY N5) ["net", "answers", "table", "owed", "look", "at", "begun", "found", "seen", "waiting", "way", "question", "meanings"] (SF [ (".0",.local),("way",.local),("meaning",.globalImplicit),("answers",.free),("net",.free)]) ["way", "net", "answers"] 1 [0,1]:=by trivial
def G4:Al (AY N5) ["net", "answers", "table", "owed", "look", "at", "begun", "found", "seen", "waiting", "way", "question", "meanings"] (SF [(".0",.local),("thing",.local)]) ["thing"] 1 []:=by trivial
def G5:Al (AY N5) ["net", "answers", "table", "owed", "look", "at", "begun", "found", "seen", "waiting", "way", "question", "meanings"] (SF [ (".0",.local),("thing",.local),("meanings",.free)]) ["thing", "meanings"] 1 [12]:=by trivial
def K2:Ai ["net", "answers", "table", "begun", "ways", "marks", "last", "then", "mark", "kind", "number", "after"] ["net", "answers", "table", "begun"] (AY S8):=by trivial
def GQ:Ai ["net", "answers", "table", "asked", "scope", "state", "path", "looks", "things", "at", "name", "begun", "answer", "wait", "kind", "number"] ["net", "answers", "table", "asked"] (AY S9):=by trivial
def VJ:Ai ["net", "thing", "kind", "number"] ["net", "thing"] (AY Ta):=by trivial
def i9:Ai ["net", "answer"] ["net", "answer"] (AY Tb):=by trivial
def LS:Ai ["net", "answers", "table", "begun", "questions", "marks", "last", "then", "label", "kind", "number"] ["net", "answers", "table", "begun"] (AY Tc):=by trivial
def NG:Ai ["net", "found", "questions", "way", "label", "name", "kind", "number"] ["net", "found"] (AY Td):=by trivial
def OQ:Ai ["net", "answers", "table", "looks", "things", "questions", "begun", "found", "seen", "thing"] ["net", "answers", "table", "looks", "things"] (AY Tf):=by trivial
def NH:Ai ["net", "answers", "table", "due", "uses", "found", "question", "answer", "wait", "looks", "things"] ["net", "answers", "table", "due", "uses"] (AY Tg):=by trivial
def jA:Ai ["questions", "new"] ["questions", "new"] (AY Q1):=by trivial
def DA:Al (AY Q1) ["questions", "new"] (SF [ (".0",.local),("question",.local),("new",.free)]) ["question", "new"] 1 [1]:=by trivial
def Zk:Ai ["net", "answers", "table", "answered", "question"] ["net", "answers", "table", "answered"] (AY Ti):=by trivial
def HC:Ai ["net", "table", "known", "those", "answers", "turns", "uses", "due", "turn", "found", "question", "answer", "new"] ["net", "table", "known", "those"] (AY N6):=by trivial
def CJ:Al (AY N6) ["net", "table", "known", "those", "answers", "turns", "uses", "due", "turn", "found", "question", "answer", "new"] (SF [ (".0",.local),("question",.local),("answer",.local),("those",.free)]) ["question", "answer", "those"] 2 [3]:=by trivial
def Ee:Al (AY N6) ["net", "table", "known", "those", "answers", "turns", "uses", "due", "turn", "found", "question", "answer", "new"] (SF [ (".0",.local),("question",.local),("uses_one",.globalImplicit),("answers",.free),("new",.free),("uses",.free)]) ["question", "new", "answers", "uses"] 1 [12,4,6]:=by trivial
def Ef:Al (AY N6) ["net", "table", "known", "those", "answers", "turns", "uses", "due", "turn", "found", "question", "answer", "new"] (SF [ (".0",.local),("question",.local),("answers",.free)]) ["question", "answers"] 1 [4]:=by trivial
def Zl:Ai ["net", "table", "many"] ["net", "table"] (AY Tj):=by trivial
def VL:Ai ["_law_found", "_law_due_here", "_law_one", "_law_other"] ["_law_found", "_law_due_here"] (AY OW):=by trivial
def Qx:Ai ["net", "answers", "table", "question", "answer", "wait", "looks", "things"] ["net", "answers", "table", "question"] (AY Tl):=by trivial
def Sg:Ai ["net", "answers", "table", "question", "at", "way", "other"] ["net", "answers", "table", "question"] (AY To):=by trivial
def jB:Ai ["net", "answers", "table"] ["net", "answers", "table"] (AY Q2):=by trivial
def Fq:Al (AY Q2) ["net", "answers", "table"] (SF [ (".0",.local),("question",.local),("waited_for",.globalImplicit),("answers",.free),("net",.free),("table",.free)]) ["question", "net", "answers", "table"] 1 [0,1,2]:=by trivial
def OR:Ai ["net", "answers", "table", "waiting", "still_open", "row", "ring", "least"] ["net", "answers", "table"] (AY Q3):=by trivial
def CK:Al (AY Q3) ["net", "answers", "table", "waiting", "still_open", "row", "ring", "least"] (SF [ (".0",.local),("question",.local),("other",.local)]) ["question", "other"] 2 []:=by trivial
def NI:Ai ["_law_links", "_law_dues", "_law_starts", "_law_here", "_law_k", "_law_some", "_law_at"] ["_law_links", "_law_dues"] (AY Q4):=by trivial
def C4:Al (AY Q4) ["_law_links", "_law_dues", "_law_starts", "_law_here", "_law_k", "_law_some", "_law_at"] (SF [ (".0",.local),("_law_i",.local),("_law_dues",.free)]) ["_law_i", "_law_dues"] 1 [1]:=by trivial
def IS:Ai ["_law_script", "_law_net", "_law_table", "_law_handed", "_law_links", "_law_own", "_law_parts_here", "_law_dues", "_law_answers", "_law_turns", "_law_some"] ["_law_script"] (AY Hq):=by trivial
def G6:Al (AY Hq) ["_law_script", "_law_net", "_law_table", "_law_handed", "_law_links", "_law_own", "_law_parts_here", "_law_dues", "_law_answers", "_law_turns", "_law_some"] (SF [ (".0",.local),("_law_i",.local),("_law_due",.globalImplicit),("_law_links",.free),("_law_own",.free),("_law_parts_here",.free)]) ["_law_i", "_law_links", "_law_own", "_law_parts_here"] 1 [4,5,6]:=by trivial
def G7:Al (AY Hq) ["_law_script", "_law_net", "_law_table", "_law_handed", "_law_links", "_law_own", "_law_parts_here", "_law_dues", "_law_answers", "_law_turns", "_law_some"] (SF [(".0",.local),("_law_due_here",.local)]) ["_law_due_here"] 1 []:=by trivial
def G8:Al (AY Hq) ["_law_script", "_law_net", "_law_table", "_law_handed", "_law_links", "_law_own", "_law_parts_here", "_law_dues", "_law_answers", "_law_turns", "_law_some"] (SF [(".0",.local),("_law_due_here",.local)]) ["_law_due_here"] 1 []:=by trivial
def G9:Al (AY Hq) ["_law_script", "_law_net", "_law_table", "_law_handed", "_law_links", "_law_own", "_law_parts_here", "_law_dues", "_law_answers", "_law_turns", "_law_some"] (SF [ (".0",.local),("_law_i",.local),("int",.globalImplicit),("_law_dues",.free),("_law_links",.free)]) ["_law_i", "_law_links", "_law_dues"] 1 [4,7]:=by trivial
structure BO (mg:Str->L'):Prop where
 b_all:mg "all" = none
 b_any:mg "any" = none
 b_bool:mg "bool" = none
 b_dict:mg "dict" = none
 b_enumerate:mg "enumerate" = none
 b_int:mg "int" = none
 b_isinstance:mg "isinstance" = none
 b_len:mg "len" = none
 b_list:mg "list" = none
 b_min:mg "min" = none
 b_range:mg "range" = none
 b_reversed:mg "reversed" = none
 b_set:mg "set" = none
 b_sorted:mg "sorted" = none
 b_str:mg "str" = none
 b_tuple:mg "tuple" = none
 b_zip:mg "zip" = none
 c_MOST_BEGINNINGS:∃t,mg "MOST_BEGINNINGS" = some (.int 200 t)
variable {us:G'}
def IT(h:us.length=1):∃a,us=[a]:=by
 cases us with|nil=>cases h|cons a t=>exact⟨a,by rw[List.length_eq_zero_iff.mp (Nat.succ.inj h)]⟩
def IU(h:us.length=2):∃a b,us=[a,b]:=by
 cases us with|nil=>cases h|cons a t=>obtain⟨b,rfl⟩:=IT (Nat.succ.inj h);exact⟨a,b,rfl⟩
def LV(h:us.length=3):∃a b c,us=[a,b,c]:=by
 cases us with|nil=>cases h|cons a t=>obtain⟨b,c,rfl⟩:=IU (Nat.succ.inj h);exact⟨a,b,c,rfl⟩
def LW(h:us.length=4):∃a b c d,us=[a,b,c,d]:=by
 cases us with|nil=>cases h|cons a t=>obtain⟨b,c,d,rfl⟩:=LV (Nat.succ.inj h);exact⟨a,b,c,d,rfl⟩
def LX(h:us.length=5):∃a b c d e,us=[a,b,c,d,e]:=by
 cases us with|nil=>cases h|cons a t=>obtain⟨b,c,d,e,rfl⟩:=LW (Nat.succ.inj h);exact⟨a,b,c,d,e,rfl⟩
def LY(h:us.length=6):∃a b c d e f,us=[a,b,c,d,e,f]:=by
 cases us with|nil=>cases h|cons a t=>obtain⟨b,c,d,e,f,rfl⟩:=LX (Nat.succ.inj h);exact⟨a,b,c,d,e,f,rfl⟩
open PySem PySem.Spec PyProof.Rows L2 in
def B8{P:Program}{w:World}{K:Aj}{g:Str->L'}{j:Heap}{x e:Str}{st:Stmt}{f:Addr}{fd:FuncData}{N ps:J'}{k:Nat}{sp:Sp}(F:By K x e st f fd)(l:g x=some (.ref f))(S:Ai N ps (AY st))(len:∀vs H Q E,sp vs H Q E->vs.length=ps.length)
  (r:∀(d:Value)(A:Around)(u:List Env)(s:Shared)(H:Hp)(vs:U')(Q:VK)(E:XK),B2 k (A.deeper (envOfC e (AY st) s.heap.objs.size f d))->sp vs H Q E -> ∃t,Gz (AH Jn P w K g j N e (AY st) f d A u s H E).nox (Ji st) t/\t {nx:=λ_ H'=>Q .non H',rt:=Q} (start N vs) H)
  (m:∀(kV q n:Value)(o:Option Addr)(d ct:Value)(us:G'),us.length=ps.length->bindArgs (PySem.W.fnOf x e (Lj st) (Ji st) (AY st) .none kV q n o d ct) ⟨us,[]⟩=pure (ps.zip us):=by intro _ _ _ _ _ _ us a;first|(obtain⟨_,rfl⟩:=IT a;rfl)|(obtain⟨_,_,rfl⟩:=IU a;rfl)|(obtain⟨_,_,_,rfl⟩:=LV a;rfl)|(obtain⟨_,_,_,_,rfl⟩:=LW a;rfl)|(obtain⟨_,_,_,_,_,rfl⟩:=LX a;rfl)|(obtain⟨_,_,_,_,_,_,rfl⟩:=LY a;rfl)):BL P w K g j x (k+1) ps sp:=⟨f,fd,F.ok S len r,l,F.kp,F.binds m⟩
def Qy(h:us.length=7):∃a b c d e f g,us=[a,b,c,d,e,f,g]:=by
 cases us with|nil=>cases h|cons a t=>obtain⟨b,c,d,e,f,g,rfl⟩:=LY (Nat.succ.inj h);exact⟨a,b,c,d,e,f,g,rfl⟩
def Zm(h:us.length=8):∃a b c d e f g i,us=[a,b,c,d,e,f,g,i]:=by
 cases us with|nil=>cases h|cons a t=>obtain⟨b,c,d,e,f,g,i,rfl⟩:=Qy (Nat.succ.inj h);exact⟨a,b,c,d,e,f,g,i,rfl⟩
section
set_option maxHeartbeats 4000000
seal L2.PE L2.PA L2.PS L2.Gz L2.PT L2.PW L2.PC L2.PG L2.O6 L2.PI L2.PF L2.JL L2.DS L2.Rh L2.Bc L2.Og L2.Jm L2.TY L2.PO
variable {P:Program} {w:World} {K:Aj} {mg:Str->L'} {base:Heap} {f:Addr} {fd:FuncData}
def Zn:(p3).cps.toList.length=26:=by decide +kernel
def Sh(w:Str)(c:Nat):(w++(⟨#[c]⟩:Str)).length=w.length+1:=by
 show(w.cps++#[c]).size=w.cps.size+1;simp
def NJ:∀n,n<26->(p3).cps.toList[n]?=some (97+n):=by decide +kernel
def Zo(n:Int):Bm (p3).cps.toList (n%26)=some (97+(n%26).toNat):=by have a:=HG n (by decide:(26:Int)≠0);have c:=JD n (by decide:(0:Int)<26);obtain⟨k,b⟩:=Ea a;rw[b,Bn];exact A8 (NJ k (by lia))
def jC(w:Str)(c:Nat):(w++(⟨#[c]⟩:Str)).cps.toList=w.cps.toList++[c]:=by
 show(w.cps++#[c]).toList=_;simp
abbrev Hk (n:Int):Str:=⟨#[97+(n%26).toNat]⟩
def NK (c:Int) (k j:Nat):Int:=c/(64+3*(j:Int))+(j:Int)*(c/64%2)+(k:Int)*(if(j:Int)=c/8%(1+c%8) then 1 else 0)
def EZ (c:Int) (k:Nat):Nat->Str
 |0 => ""
 |j+1=>EZ c k j++Hk (NK c k j)
def Gr (c:Int) (m:Nat):J':=(List.range m).map λk=>EZ c k (1+c%8).toNat
def Gh (c:Int) (m:Nat):J':=if c/128%3=1/\1+c%8<8 then(Gr c m).set 1 (EZ c 0 (1+c%8).toNat++Hk (c/384)) else Gr c m
theorem K3(c:Int)(k:Nat):∀j,(EZ c k j).length=j
 |0=>show k'.length=0 by decide +kernel
 |j+1=>by show(EZ c k j++Hk (NK c k j)).length=j+1;rw[Sh,K3 c k j]
theorem VM(c:Int)(k:Nat){a:Nat}:∀{j:Nat},a<j->(EZ c k j).cps.toList[a]?=some (97+(NK c k a%26).toNat)
 |0,h=>absurd h (Nat.not_lt_zero _)
 |j+1,h=>by
   show(EZ c k j++Hk (NK c k j)).cps.toList[a]?=_;rw[jC];have b:(EZ c k j).cps.toList.length=j:=by rw[Array.length_toList];exact K3 c k j
   by_cases d:a<j;rw[D7 (by rw[b];exact d)];exact VM c k d;have e:a=j:=(by lia);subst e;rw[EA (by rw[b];exact AF _),b,Nat.sub_self];rfl
def Qz(c:Int)(m:Nat):(Gr c m).length=m:=by unfold Gr;rw[Am,p6]
def VN(c:Int)(m:Nat):(Gh c m).length=m:=by unfold Gh;split;rw[FR,Qz];exact Qz c m
variable {c:Int}{j:Nat}
def NL(l:i<26)(m:j<26)(h:EZ c i (1+c%8).toNat=EZ c j (1+c%8).toNat):i=j:=by have g:=HG (c/8) (show(1+c%8)≠0 by lia);have n:=JD (c/8) (show 0<1+c%8 by lia);obtain⟨a,k⟩:=Ea g;have f:a<(1+c%8).toNat:=(by lia);have e:=VM c i f;rw[h,VM c j f] at e;have d:=Bt e;unfold NK at d;rw[Ag k.symm] at d;generalize c/(64+3*(a:Int))+(a:Int)*(c/64%2)=b at d;lia
variable {m:Nat}
def IV(d:m<=26):(Gr c m).Nodup:=by unfold Gr;refine List.pairwise_iff_getElem.mpr λi j a b f e=>?_;rw[Am,p6] at a b;rw[List.getElem_map,List.getElem_map,List.getElem_range,List.getElem_range] at e;have:=NL (by lia) (by lia) e;lia
def jD:∀y∈Gr c m,y.length=(1+c%8).toNat:=λy a=>by obtain⟨k,_,rfl⟩:=AW.mp a;exact K3 _ _ _
def jE(a:m<=26):(Gh c m).Nodup:=by unfold Gh;split;refine List.pairwise_iff_getElem.mpr λi j f g h e=>?_;rw[FR,Qz] at f g;have d:∀(k:Nat)(b:k<(Gr c m).length),(Gr c m)[k].length=(1+c%8).toNat:=λk b=>jD _ (Ez b);rw[List.getElem_set,List.getElem_set] at e;split at e;rw[Ah (by lia)] at e;have:=Bw Str.length e;rw[Sh,K3,d] at this;lia;split at e;have:=Bw Str.length e;rw[Sh,K3,d] at this;lia;exact absurd e ((List.pairwise_iff_getElem.mp (IV (c:=c) a)) i j _ _ h);exact IV a
def jF{k:Nat}:(EZ c k (1+c%8).toNat).length<=8:=by rw[K3];lia
set_option tactic.hygienic true in
def LZ:∀x∈Gh c m,x.length<=8:=by
 intro x a;unfold Gh at a
 have b:∀y∈Gr c m,y.length<=8:=λy d=>by
  obtain⟨k,_,rfl⟩:=AW.mp d;exact jF
 split at a;rename_i e;rcases List.mem_or_eq_of_mem_set a with h|rfl;exact b x h;rw[Sh,K3];lia;exact b x a
inductive DB (K:Aj) (vs:U') (H:Hp) (Q:VK):Prop where
 |mk (c:Int) (m:Nat) (h0:vs=[.int c,.int m]) (h1:2<=m) (h2:m<=26) (h3:∀(L:Addr)(H':Hp),H L=none->Ac H H'->H' L=some (.lst ((Gh c m).map V.str))->Q (.ref L) H'):DB K vs H Q
def jG (K:Aj):Sp:=λvs H Q _=>DB K vs H Q
abbrev VO(P w K mg base):=BL P w K mg base "_law_names" 1 ["_law_cell", "_law_many"] (jG K)
theorem jH(B:BO mg)(F:By K "_law_names" "_law_names" SH f fd)(N:mg "_law_names" = some (.ref f)):VO P w K mg base:=by
 refine B8 F N Jw (λO H Q E h=>?_) (λae A ag s H O Q E hr h=>?_);obtain⟨c,m,rfl,_⟩:=h;rfl
 . obtain⟨c,m,rfl,m0,m9,q⟩:=h
   refine⟨_,(An (AU (i:=2) Jw.nd Br)
    (An (AU (i:=3) Jw.nd (A2 F6 Ap (A2 DO (pv 0) Ap)))
    (An (AU (i:=4) Jw.nd (A2 DO (A2 Jk (pv 0) Ap) (pv 3)))
    (An (AU (i:=5) Jw.nd (BV Af))
    (An (Dr CP rfl (GD rfl B.b_range (Ab (pv 1) Af)) (Aw (i:=6) Jw.nd) (An (AU (i:=7) Jw.nd Br)
     (An (Dr CP rfl (GD rfl B.b_range (Ab (pv 3) Af)) (Aw (i:=8) Jw.nd) (An (AU (i:=9) Jw.nd (A2 F6 (A2 Jk (pv 0) (A2 F6 Ap (A2 He Ap (pv 8)))) (A2 He (pv 8) (A2 DO (A2 Jk (pv 0) Ap) Ap))))
      (Az (AU (i:=7) Jw.nd (A2 WG (pv 7) (At Au (pv 2) (A2 DO (A2 F6 (pv 9) (A2 He (pv 6) (HU Pe B.b_int (Ab (Jl Dd (pv 8) (pv 4) (BJ _)) Af)))) Ap)))))))
     (Az (DR (Ds DM E9 Fa Fc (pv 5) (Ab (pv 7) Af)))))))
    (An (BA (PW.pt (HJ (BU Dd (A2 DO (A2 Jk (pv 0) Ap) Ap) Ap (BJ _)) (Jj (BU Ri (pv 3) Ap (BJ _))))) (Az (Dl (A2 WG (At Au (pv 5) Ap) (At Au (pv 2) (A2 DO (A2 Jk (pv 0) Ap) Ap))) (Q9 (pv 5) Ap T1))) BE)
    (Az (AZ (pv 5))))))))),?_⟩
   rfl';refine Uo ?_;cbv;refine⟨(by show(0:Int)<8;decide),?_⟩;cbv;have z0:1<=1+c%8/\1+c%8<=8:=(by lia);refine⟨⟨by decide,by decide⟩,(by show 0<1+c%8;lia),?_⟩;cbv;refine⟨by decide,λL t=>?_⟩;obtain⟨aa,U,R,W⟩:=new_at (o:=.lst []) t;rw[<-U];refine⟨by lia,by lia,Pc (lo:=0) (n:=m) (λi σ g=>∃u v a d,σ=[some (.int c),some (.int m),some (.str "abcdefghijklmnopqrstuvwxyz"),some (.int (1+c%8)),some (.int (c/8%(1+c%8))),some (.ref L),u,v,a,d]/\Ac H g/\g L=some (.lst ((Gr c i).map V.str))) ⟨none,none,none,none,rfl,R,W⟩ ?_ ?_⟩;rotate_left
   . refine λσ M G=>AO λS r=>?_
     obtain⟨u,v,a,d,rfl,p,l⟩:=G;refine r ?_;clear r;cbv;refine Jp (λσ' g=>σ'=[some (.int c),some (.int m),some (.str "abcdefghijklmnopqrstuvwxyz"),some (.int (1+c%8)),some (.int (c/8%(1+c%8))),some (.ref L),u,v,a,d]/\Ac H g/\g L=some (.lst ((Gh c m).map V.str))) ?_ (λab x=>?_)
     case refine_2 =>
      refine⟨⟨by decide,by decide⟩,(by show(0:Int)<3;decide),rfl,rfl,As (λy=>?_) (λy=>Bi ?_)⟩;rotate_left;have I:¬c/128%3=1:=λe=>y (Bs (by show V.int (c/128%3)=V.int 1;rw[e]));refine x _ _ ⟨rfl,p,?_⟩;unfold Gh;rw[Ah λz=>I z.1];exact l;have I:c/128%3=1:=V.int.inj (BG y);refine⟨rfl,As (λC=>?_) (λC=>?_)⟩;rotate_left;have J:¬1+c%8<8:=λe=>C (Bs e);refine x _ _ ⟨rfl,p,?_⟩;unfold Gh;rw[Ah λz=>J z.2];exact l;have J:1+c%8<8:=BG C;have hl:(Gr c m).length=m:=Qz c m;have X:(Gr c m)[0]?=some (EZ c 0 (1+c%8).toNat):=(by unfold Gr;rw[AQ,p8 (by lia)];rfl);have Y:Bm ((Gr c m).map V.str) 0=some (V.str (EZ c 0 (1+c%8).toNat)):=A8 (j:=0) (by rw[AQ,X];rfl);refine p4 ⟨_,.str (EZ c 0 (1+c%8).toNat),Ae.of l,Y,⟨by decide,by decide⟩,(by show(0:Int)<26;decide),p5 (p5 ⟨_,_,_,rfl,rfl,by decide +kernel,Zo (c/384),EZ c 0 (1+c%8).toNat,_,rfl,rfl,?_,L,_,_,1,rfl,rfl,l,?_,?_⟩)⟩;show(EZ c 0 (1+c%8).toNat).length+1<=sizeLine;rw[K3];exact Cf (Bz (by lia));exact Up (k:=1) (by decide) (by rw[Am];lia);refine x _ _ ⟨rfl,λb o e=>?_,?_⟩;rw[AC (A3 e t)];exact p _ _ e;unfold Gh;rw[Aa,Ag ⟨I,J⟩,List.map_set]
     rintro σ' D ⟨rfl,T,Z⟩;exact q L D t T Z
   refine λi σ M hi G=>AO λS r=>?_;obtain⟨u,v,a,d,rfl,p,l⟩:=G;refine r ?_;clear r;refine Uo ?_;cbv;refine⟨by lia,by lia,Pc (lo:=0) (n:=(1+c%8).toNat) (λj σ g=>∃(a d:V'),σ=[some (.int c),some (.int m),some (.str "abcdefghijklmnopqrstuvwxyz"),some (.int (1+c%8)),some (.int (c/8%(1+c%8))),some (.ref L),some (.int (0+(i:Int))),some (.str (EZ c i j)),a,d]/\g=M) ⟨_,_,rfl,rfl⟩ ?_ ?_⟩;rotate_left;rintro σ D ⟨a,d,rfl,rfl⟩;refine⟨p4 ⟨rfl,_,Ae.of l⟩,_,l,by rw[Am,Qz];exact Bz (by lia),?_⟩;refine⟨_,_,_,_,rfl,λb o e=>?_,?_⟩;rw[AC (A3 e t)];exact p _ _ e;rw[Aa];unfold Gr;rw[List.range_succ,Ba,Ba];rfl;rintro j σ D hj ⟨a,d,rfl,rfl⟩;have af:j<8:=(by lia);refine⟨p4 ⟨by lia,by lia⟩,⟨by lia,by lia⟩,⟨by decide,by decide⟩,(by show(0:Int)<2;decide),p4 ⟨by lia,by lia⟩,?_⟩;refine⟨rfl,p5 ⟨_,rfl,p4 ⟨by lia,by lia⟩,(by show(0:Int)<26;decide),p5 (p5 ⟨_,_,_,rfl,rfl,by decide +kernel,Zo _,EZ c i j,_,rfl,rfl,?_,?_⟩)⟩⟩;show(EZ c i j).length+1<=sizeLine;rw[K3];exact Cf (Bz (by lia));refine⟨some (.int (0+(j:Int))),some (.int (c/(64+3*(0+(j:Int)))+(0+(j:Int))*(c/64%2))),?_,rfl⟩;have e:EZ c i (j+1)=EZ c i j++Hk (c/(64+3*(0+(j:Int)))+(0+(j:Int))*(c/64%2)+(0+(i:Int))*(if decide (V.int (0+(j:Int))=V.int (c/8%(1+c%8)))=true then 1 else 0)):=(by show EZ c i j++Hk (NK c i j)=_;unfold NK;simp only[Int.zero_add,decide_eq_true_eq,V.int.injEq]);rw[e];rfl
variable {ns:F'}
def jI{k:Int}(b:0<=k)(c:k<ns.length):Bm (ns.map V.int) k=some (V.int (DU ns k)):=by obtain⟨n,rfl⟩:=Ea b;have a:n<ns.length:=(by lia);refine A8 ?_;rw[AQ,AD a];show some (V.int ns[n])=some (V.int ((ns[((n:Int)).toNat]?).getD 0));rw[Bn,AD a];rfl
def jJ{k:Int}(a:0<=k)(b:¬k<ns.length):DU ns k=0:=by unfold DU;rw[Ek (by lia)];rfl
def jK (K:Aj):Sp:=λvs H Q _=>∃a ns k,vs=[.ref a,.int k]/\0<=k/\Ae K H a (ns.map V.int)/\Q (.int (DU ns k)) H
abbrev QA(P w K mg base):=BL P w K mg base "_law_cell_at" 1 ["_law_script", "_law_k"] (jK K)
theorem jL(B:BO mg)(F:By K "_law_cell_at" "_law_cell_at" SI f fd)(g:mg "_law_cell_at" = some (.ref f)):QA P w K mg base:=by
 refine B8 F g i7 (λi H Q E h=>?_) (λl A m s H i Q E j h=>?_);obtain⟨a,ns,k,rfl,_⟩:=h;rfl;obtain⟨a,ns,k,rfl,d,e,q⟩:=h
 refine⟨_,(An (BA (BU Ri (pv 1) (Cv F7 B.b_len (Ab (pv 0) Af)) (BJ _)) (Az (AZ (At Au (pv 0) (pv 1)))) BE)
  (Az (AZ Ap))),?_⟩
 rfl';refine⟨_,p4 ⟨_,e,rfl⟩,rfl,?_⟩;rw[Am];refine As (λb=>?_) (λc=>?_);have b:=BG b;exact p4 ⟨_,_,e,jI d b,q⟩;have c:¬k<(ns.length:Int):=λz=>c (Bs z);show Q (.int 0) H;rw[jJ d c] at q;exact q
def Ce (ns:F') (i:Nat) (f:Int):Int:=(DU ns (6+(i:Int))+DU ns 4%65521*(2*(i:Int)+1))%2147483647*f%2147483629
inductive C5 (K:Aj) (vs:U') (H:Hp) (Q:VK):Prop where
 |mk (a:Addr) (ns:F') (i:Nat) (f:Int) (h0:vs=[.ref a,.int i,.int f]) (h1:Ae K H a (ns.map V.int)) (h2:(-(2 ^ 64)<f/\f<2 ^ 64)) (h3:Q (.int (Ce ns i f)) H):C5 K vs H Q
def jM (K:Aj):Sp:=λvs H Q _=>C5 K vs H Q
abbrev VP(P w K mg base):=BL P w K mg base "_law_number" 2 ["_law_script", "_law_i", "_law_factor"] (jM K)
def jN(B:BO mg)(c:QA P w K mg base)(F:By K "_law_number" "_law_number" SJ f fd)(d:mg "_law_number" = some (.ref f)):VP P w K mg base:=by
 refine B8 F d Zh (λe H Q E h=>?_) (λk A l s H e Q E j h=>?_);obtain⟨a,ns,i,f,rfl,_⟩:=h;rfl;obtain⟨a,ns,i,f,rfl,b,g,q⟩:=h
 refine⟨_,(An (AU (i:=3) Zh.nd (A2 F6 (A7 c (Ab (pv 0) (Ab (A2 F6 Ap (pv 1)) Af))) (A2 He (A2 DO (A7 c (Ab (pv 0) (Ab Ap Af))) Ap) (A2 F6 (A2 He Ap (pv 1)) Ap))))
  (Az (AZ (A2 DO (A2 He (A2 DO (pv 3) Ap) (pv 2)) Ap)))),?_⟩
 rfl';refine⟨a,ns,6+(i:Int),rfl,by lia,b,a,ns,4,rfl,by decide,b,(by show(0:Int)<65521;decide),p4 ⟨by decide,by decide⟩,p4 ⟨(by show -(2 ^ 64)<DU ns 4%65521;lia),(by show DU ns 4%65521<2 ^ 64;lia)⟩,?_⟩;exact⟨(by show(0:Int)<2147483647;decide),p5 g,(by show(0:Int)<2147483629;decide),q⟩
def w6:J':=["better", "worse", "alike", "", "worse", ""]
def w3:J':=["better", "", "worse"]
def IW (ns:F') (n i:Nat):Int:=if Ce ns i 48271%4=0 then Ce ns i 48271/4%n else((i:Int)-1)%n
def Jy (ns:F') (i:Nat):Str:=w6.getD (Ce ns i 69621%6).toNat default
def L0 (ns:F') (n i:Nat):Int:=Ce ns i 69621/6%n
def Hl (ns:F') (n i:Nat):Int:=if Ce ns i 16807%4=0 then -1 else Ce ns i 16807/4%n
abbrev L1 (ns:F') (n:Nat):Int:=DU ns 5/3%n
def Hm (ns:F') (n i:Nat):Str:=if(i:Int)=L1 ns n then "better" else if(i:Int)%2=0 then "" else "worse"
abbrev QB (ns:F'):Prop:=DU ns 5%3=1
def GR (ns:F') (n i:Nat):Nat:=(if QB ns then((i:Int)-1)%n else IW ns n i).toNat
def HD (ns:F') (n i:Nat):Str:=if QB ns then Hm ns n i else Jy ns i
def Jz (ns:F') (n i:Nat):Int:=if QB ns then((i:Int)+L1 ns n)%n else L0 ns n i
def Zp(z:Int):z%6=0\/z%6=1\/z%6=2\/z%6=3\/z%6=4\/z%6=5:=by lia
variable {n:Nat}
def Zq(ns:F')(a:1<=n)(i:Nat):0<=IW ns n i/\IW ns n i<n:=by unfold IW;split<;>exact⟨HG _ (by lia),JD _ (by lia)⟩
def IX(ns:F')(a:1<=n)(i:Nat):GR ns n i<n:=by unfold GR;have b:=Zq ns a i;have c:=JD ((i:Int)-1) (show(0:Int)<n by lia);split<;>lia
def Zr(ns:F')(a:1<=n)(i:Nat):0<=Jz ns n i/\Jz ns n i<n:=by unfold Jz L0;split<;>exact⟨HG _ (by lia),JD _ (by lia)⟩
def Zs(ns:F')(a:1<=n)(i:Nat):-1<=Hl ns n i/\Hl ns n i<n:=by unfold Hl;have b:=HG (Ce ns i 16807/4) (show(n:Int)≠0 by lia);have c:=JD (Ce ns i 16807/4) (show(0:Int)<n by lia);split<;>lia
def IY(ns:F')(n i:Nat):HD ns n i=n8\/HD ns n i=o2\/HD ns n i=o7\/HD ns n i=k':=by unfold HD;split;unfold Hm;split;exact .inl rfl;split;exact .inr (.inr (.inr rfl));exact .inr (.inl rfl);unfold Jy;rcases Zp (Ce ns i 69621) with e|e|e|e|e|e<;>rw[e];exact .inl rfl;exact .inr (.inl rfl);exact .inr (.inr (.inl rfl));exact .inr (.inr (.inr rfl));exact .inr (.inl rfl);exact .inr (.inr (.inr rfl))
def L3(f:Nat->α)(n:Nat):(List.range (n+1)).map f=(List.range n).map f++[f n]:=by rw[List.range_succ,Ba];rfl
def GS(f:Nat->α)(n:Nat):((List.range n).map f).length=n:=by rw[Am,p6]
variable {H:Hp}
def IZ{a:Addr}{xs:U'}(v:V)(e:H a=some (.lst xs)):∃H',upd H a (.lst (xs++[v]))=H'/\H' a=some (.lst (xs++[v]))/\(∀b,b≠a->H' b=H b)/\Keeps (·=a) H H':=⟨_,rfl,Aa,λb h=>AC h,Keeps.one e⟩
def Zt(a b:V):Bm [a,b] 0=some a:=A8 (j:=0) rfl
def Zu(a b:V):Bm [a,b] 1=some b:=A8 (j:=1) rfl
inductive DC (K:Aj) (vs:U') (H:Hp) (Q:VK):Prop where
 |mk (a:Addr) (ns:F') (n:Nat) (h0:vs=[.ref a,.int n]) (h1:Ae K H a (ns.map V.int)) (h2:1<=n) (h3:n<=40) (h4:∀(r L O P:Addr)(to:I')(H':Hp),Ac H H'->H' r=some (.tup [.ref L,.ref O,.ref P])->H' L=some (.lst ((Fp (GR ns n) n).map V.int))->H' O=some (.lst (to.map V.ref))->GT H' to ((List.range n).map λi=>(HD ns n i,Jz ns n i))->H' P=some (.lst (((List.range n).map (Hl ns n)).map V.int))->Q (.ref r) H'):DC K vs H Q
def jO (K:Aj):Sp:=λvs H Q _=>DC K vs H Q
abbrev QC(P w K mg base):=BL P w K mg base "_law_parts" 3 ["_law_script", "_law_many"] (jO K)
theorem jP(B:BO mg)(af:VP P w K mg base)(ay:QA P w K mg base)(F:By K "_law_parts" "_law_parts" N2 f fd)(hm:mg "_law_parts" = some (.ref f)):QC P w K mg base:=by
 refine B8 F hm HB (λvs H Q a4 ae=>?_) (λbd ba bi bb H vs Q a4 hr ae=>?_);obtain⟨a,ns,n,rfl,_⟩:=ae;rfl
 . obtain⟨a,ns,n,rfl,G,n1,be,a5⟩:=ae
   refine⟨_,(An (AU (i:=2) HB.nd (BV Af))
    (An (AU (i:=3) HB.nd (BV Af))
    (An (AU (i:=4) HB.nd (BV Af))
    (An (Dr CP rfl (GD rfl B.b_range (Ab (pv 1) Af)) (Aw (i:=5) HB.nd) (An (AU (i:=6) HB.nd (A7 af (Ab (pv 0) (Ab (pv 5) (Ab Ap Af)))))
     (An (DR (Ds DM E9 Fa Fc (pv 2) (Ab (At Au (BV (Ab (A2 DO (A2 TN (pv 5) Ap) (pv 1)) (Ab (A2 DO (A2 Jk (pv 6) Ap) (pv 1)) Af))) (HU Pe B.b_int (Ab (Jl Dd (A2 DO (pv 6) Ap) Ap (BJ _)) Af))) Af)))
     (An (AU (i:=6) HB.nd (A7 af (Ab (pv 0) (Ab (pv 5) (Ab Ap Af)))))
     (An (DR (Ds DM E9 Fa Fc (pv 3) (Ab (Bl (Ab (At Au (BV (Ab Br (Ab Br (Ab Br (Ab Br (Ab Br (Ab Br Af))))))) (A2 DO (pv 6) Ap)) (Ab (A2 DO (A2 Jk (pv 6) Ap) (pv 1)) Af))) Af)))
     (An (AU (i:=6) HB.nd (A7 af (Ab (pv 0) (Ab (pv 5) (Ab Ap Af)))))
     (Az (DR (Ds DM E9 Fa Fc (pv 4) (Ab (At Au (BV (Ab (A2 DO (A2 Jk (pv 6) Ap) (pv 1)) (Ab (GG GH Ap) Af))) (HU Pe B.b_int (Ab (Jl Dd (A2 DO (pv 6) Ap) Ap (BJ _)) Af))) Af))))))))))
    (An (BA (BU Dd (A2 DO (A7 ay (Ab (pv 0) (Ab Ap Af))) Ap) Ap (BJ _)) (An (AU (i:=7) HB.nd (A2 DO (A2 Jk (A7 ay (Ab (pv 0) (Ab Ap Af))) Ap) (pv 1)))
     (An (Lw (i:=2) HB.nd rfl (p4 rfl) rfl CG (GD rfl B.b_range (Ab (pv 1) Af)) (λ_ _ _ _ _=>(Aw (i:=0) CG.nd)) (λ_ _ _ _ _=>FV) (λ_ _ _ _ _=>(A2 DO (A2 TN (pv 0) Ap) (pv 1))))
     (An (AU (i:=3) HB.nd (GJ (te:=Ct (DT K) (FH (Cu (tC (.str "better")) (Cu (tC (.str "")) (Cu (tC (.str "worse")) B3)))) (Ct (rI JM λi j=>.int (i*j)) (My (λxs H Q=>(∃i,xs=[V.int i]/\Q (.int i) H)\/∃k,xs=[V.bl k]/\Q (.int (if k then 1 else 0)) H) (Cu (Ct TR (AS 0) (AS 1)) B3)) (Ct (GF λi j=>.int (i+j)) (tC (.int ((1:Nat):Int))) (Ct (rI (λ_ j=>0<j) λi j=>.int (i%j)) (AS 0) (tC (.int ((2:Nat):Int))))))) rfl CH (GD rfl B.b_range (Ab (pv 1) Af)) (λ_ _ _ _ _=>(Aw (i:=0) CH.nd)) (λ_ _ _ _ _=>FV) (λ_ _ _ _ _=>(At Au (BV (Ab Br (Ab Br (Ab Br Af)))) (A2 He (HU Pe B.b_int (Ab (Jl JN (pv 0) (pv 1) (BJ _)) Af)) (A2 F6 Ap (A2 DO (pv 0) Ap)))))))
     (Az (AU (i:=3) HB.nd (GJ (te:=F8 (Cu (Ct (DT K) (AS 1) (AS 0)) (Cu (Ct (rI (λ_ j=>0<j) λi j=>.int (i%j)) (Ct (GF λi j=>.int (i+j)) (AS 0) (AS 3)) (AS 2)) B3))) rfl CI (GD rfl B.b_range (Ab (pv 1) Af)) (λ_ _ _ _ _=>(Aw (i:=0) CI.nd)) (λ_ _ _ _ _=>FV) (λ_ _ _ _ _=>(Bl (Ab (At Au (pv 1) (pv 0)) (Ab (A2 DO (A2 F6 (pv 0) (pv 3)) (pv 2)) Af)))))))))) BE)
    (Az (AZ (Bl (Ab (pv 2) (Ab (pv 3) (Ab (pv 4) Af))))))))))),?_⟩
   rfl';refine Sa λR v=>?_;refine⟨by decide,λL hL=>?_⟩;obtain⟨bc,a7,s1,S⟩:=new_at (o:=.lst []) hL;rw[<-a7];refine Dz v λR v=>?_;refine⟨by decide,λO hO=>?_⟩;obtain⟨H2,a8,T,eO⟩:=new_at (o:=.lst []) hO;rw[<-a8];refine Dz v λR v=>?_;refine⟨by decide,λP x=>?_⟩;obtain⟨H3,a9,s3,eP⟩:=new_at (o:=.lst []) x;rw[<-a9];have az:L≠O:=λz=>by rw[z,hO] at S;cases S
   have a0:L≠P:=λz=>by rw[<-z,T _ _ S] at x;cases x
   have a1:O≠P:=λz=>by rw[<-z,eO] at x;cases x
   have aA:=s1.free hO;have aB:=(s1.trans T).free x;refine Dz v λR v=>?_;refine⟨by lia,by lia,Pc (lo:=0) (n:=n) (λi σ b=>∃(U W:V')(l:I'),σ=[some (.ref a),some (.int n),some (.ref L),some (.ref O),some (.ref P),U,W,none]/\Ac H b/\b L=some (.lst (((List.range i).map (IW ns n)).map V.int))/\b O=some (.lst (l.map V.ref))/\GT b l ((List.range i).map λi=>(Jy ns i,L0 ns n i))/\b P=some (.lst (((List.range i).map (Hl ns n)).map V.int))) ⟨none,none,[],rfl,s1.trans (T.trans s3),(T.trans s3) _ _ S,s3 _ _ eO,GT.nil,eP⟩ ?_ ?_⟩;refine λi σ H4 X M=>AO λNz q=>?_;obtain⟨U,W,l,rfl,r,N,ag,TO,aa⟩:=M;refine q ?_;clear q;refine IJ ?_;intro R Cy;rw[Int.zero_add];have aC:l.length=i:=(by rw[TO.len,GS]);refine⟨a,ns,i,48271,rfl,r.seq G,⟨by decide,by decide⟩,?_⟩;refine⟨p4 ⟨rfl,_,Ae.of N⟩,(by show(0:Int)<n;lia),⟨by decide,by decide⟩,(by show(0:Int)<n;lia),BP,λl1 aD=>?_⟩;obtain⟨Y,aE,d,aF⟩:=new_at (o:=.lst [.int (((i:Int)-1)%n),.int (Ce ns i 48271/4%n)]) aD;rw[<-aE];have aU:Bm [V.int (((i:Int)-1)%n),.int (Ce ns i 48271/4%n)] (if decide (V.int (Ce ns i 48271%4)=V.int 0)=true then 1 else 0)=some (.int (IW ns n i)):=(by unfold IW;by_cases e:Ce ns i 48271%4=0;rw[Ag (Bs (by rw[e])),Ag e];exact Zu _ _;rw[Ah (λz=>e (V.int.inj (BG z))),Ah e];exact Zt _ _);refine⟨(by show(0:Int)<4;decide),rfl,p5 ⟨_,rfl,p4 ⟨_,.int (IW ns n i),Ae.of aF,aU,_,d _ _ N,by rw[Am,GS];exact Bz (by lia),?_⟩⟩⟩;obtain⟨I,h6,ah,n6,kL⟩:=IZ (.int (IW ns n i)) (d _ _ N);rw[h6];have h:Ac H I:=λaw o e=>by rw[n6 _ (A3 e hL)];exact d _ _ (r _ _ e)
   have ah:I L=some (.lst (((List.range (i+1)).map (IW ns n)).map V.int)):=by rw[ah,L3,Ba];rfl
   have ai:=(n6 _ (Ne.symm az)).trans (d _ _ ag);have aG:=(n6 _ (Ne.symm a0)).trans (d _ _ aa);have aH:=(TO.same d).keeps kL;refine⟨a,ns,i,69621,rfl,h.seq G,⟨by decide,by decide⟩,?_⟩;refine⟨p4 ⟨rfl,_,Ae.of ai⟩,(by show 6<=sizeLine;decide),λl2 aI=>?_⟩;obtain⟨H7,aj,t2,aJ⟩:=new_at (o:=.lst [.str "better",.str "worse",.str "alike",.str "",.str "worse",.str ""]) aI;rw[<-aj];have aV:Bm [V.str "better",.str "worse",.str "alike",.str "",.str "worse",.str ""] (Ce ns i 69621%6)=some (.str (Jy ns i)):=(by unfold Jy;rcases Zp (Ce ns i 69621) with e|e|e|e|e|e<;>rw[e];exact A8 (j:=0) rfl;exact A8 (j:=1) rfl;exact A8 (j:=2) rfl;exact A8 (j:=3) rfl;exact A8 (j:=4) rfl;exact A8 (j:=5) rfl);refine⟨(by show(0:Int)<6;decide),p4 ⟨_,.str (Jy ns i),Ae.of aJ,aV,⟨by decide,by decide⟩,(by show(0:Int)<n;lia),BP,λJ ak=>?_⟩⟩;dsimp only[GV];rw[show Ce ns i 69621/6%(n:Int)=L0 ns n i from rfl];obtain⟨H8,al,t3,an⟩:=new_at (o:=.tup [.str (Jy ns i),.int (L0 ns n i)]) ak;rw[<-al];have E:=t2.trans t3;refine⟨_,E _ _ ai,by rw[Am,aC];exact Bz (by lia),?_⟩;obtain⟨H9,h9,ao,n9,kO⟩:=IZ (.ref J) (E _ _ ai);rw[h9];have s9:Ac H H9:=λaw o e=>by rw[n9 _ (A3 e aA)];exact E _ _ (h _ _ e)
   have aK:=(n9 _ az).trans (E _ _ ah);have ao:H9 O=some (.lst ((l++[J]).map V.ref)):=by rw[ao,Ba];rfl
   have aq:=(n9 _ (Ne.symm a1)).trans (E _ _ aG);have a2:=((aH.same E).snoc (p:=(Jy ns i,L0 ns n i)) an).keeps kO;rw[<-L3 (λi=>(Jy ns i,L0 ns n i))] at a2;refine⟨a,ns,i,16807,rfl,s9.seq G,⟨by decide,by decide⟩,?_⟩;refine⟨p4 ⟨rfl,_,Ae.of aq⟩,⟨by decide,by decide⟩,(by show(0:Int)<n;omega),BP,λl3 aL=>?_⟩;obtain⟨a3,aW,y,aM⟩:=new_at (o:=.lst [.int (Ce ns i 16807/4%n),.int (-1)]) aL;rw[<-aW];have aX:Bm [V.int (Ce ns i 16807/4%n),.int (-1)] (if decide (V.int (Ce ns i 16807%4)=V.int 0)=true then 1 else 0)=some (.int (Hl ns n i)):=(by unfold Hl;by_cases e:Ce ns i 16807%4=0;rw[Ag (Bs (by rw[e])),Ag e];exact Zu _ _;rw[Ah (λz=>e (V.int.inj (BG z))),Ah e];exact Zt _ _);refine⟨(by show(0:Int)<4;decide),rfl,p5 ⟨_,rfl,p4 ⟨_,.int (Hl ns n i),Ae.of aM,aX,_,y _ _ aq,by rw[Am,GS];exact Bz (by omega),?_⟩⟩⟩;have kP:Keeps (·=P) a3 (upd a3 P (.lst (((List.range i).map (Hl ns n)).map V.int++[.int (Hl ns n i)]))):=Keeps.one (y _ _ aq);exact⟨_,_,l++[J],rfl,λaw o e=>by rw[AC (A3 e aB)];exact y _ _ (s9 _ _ e),by rw[AC a0];exact y _ _ aK,by rw[AC a1];exact y _ _ ao,(a2.same y).keeps kP,by rw[Aa,L3,Ba];rfl⟩;refine λσ H4 M=>AO λNz q=>?_;obtain⟨U,W,l,rfl,r,N,ag,TO,aa⟩:=M;refine q ?_;clear q;refine Sb v ?_;cbv;refine Jp (λσ' b=>∃(s t:Addr)(u7:V')(ab:I'),σ'=[some (.ref a),some (.int n),some (.ref s),some (.ref t),some (.ref P),U,W,u7]/\Ac H b/\b s=some (.lst ((Fp (GR ns n) n).map V.int))/\b t=some (.lst (ab.map V.ref))/\GT b ab ((List.range n).map λi=>(HD ns n i,Jz ns n i))/\b P=some (.lst (((List.range n).map (Hl ns n)).map V.int))) ?_ (λNX hN=>?_);refine λσ Y M=>AO λNz q=>?_;obtain⟨s,t,u7,ab,rfl,A,ar,aN,aO,aP⟩:=M;refine q ?_;clear q;refine⟨GK,λa6 hr=>?_⟩;have h:=A0 (o:=.tup [.ref s,.ref t,.ref P]) hr;exact a5 a6 s t P ab _ (A.trans h) Aa (h _ _ ar) (h _ _ aN) (aO.same h) (h _ _ aP);refine⟨a,ns,5,rfl,by decide,r.seq G,(by show(0:Int)<3;decide),rfl,rfl,As (λc=>?_) (λc=>?_)⟩;rotate_left;have u:¬QB ns:=λe=>c (Bs (by show V.int (DU ns 5%3)=V.int 1;rw[e]));refine hN _ _ ⟨L,O,none,l,rfl,r,?_,ag,?_,aa⟩;rw[N];unfold Fp;rw[show(λi=>((GR ns n i:Nat):Int))=IW ns n from funext λi=>by unfold GR;rw[Ah u];have:=Zq ns n1 i;omega];rw[show(λi=>(HD ns n i,Jz ns n i))=λi=>(Jy ns i,L0 ns n i) from funext λi=>by unfold HD Jz;rw[Ah u,Ah u]];exact TO;have u:QB ns:=V.int.inj (BG c);refine⟨a,ns,5,rfl,by decide,r.seq G,⟨by decide,by decide⟩,(by show(0:Int)<n;omega),?_⟩;refine⟨by omega,by omega,J9 (lo:=0) (n:=n) (λD i g b=>Ac H4 b/\b D=some (.lst g)/\g=((List.range i).map λi:Nat=>((i:Int)-1)%n).map V.int) (λD m=>⟨A0 m,Aa,rfl⟩) (λD i g Y RR m X p k=>?_) (λs g Y bf p=>?_)⟩;obtain⟨A,C,rfl⟩:=p;refine⟨(by show(0:Int)<n;omega),?_⟩;refine k _ _ C (by rw[Am,GS];exact Bz (by omega)) ⟨λax o e=>by rw[AC (A3 e m)];exact A _ _ e,Aa,?_⟩;rw[L3,Ba,Int.zero_add];rfl;obtain⟨A,ar,rfl⟩:=p;refine⟨by omega,by omega,J9 (lo:=0) (n:=n) (λD i g b=>Ac Y b/\b D=some (.lst g)/\g=((List.range i).map (Hm ns n)).map V.str) (λD m=>⟨A0 m,Aa,rfl⟩) (λD i g I RR m X p k=>?_) (λO1 g I bg p=>?_)⟩;obtain⟨h,C,rfl⟩:=p;refine⟨GK,λl4 aQ=>?_⟩;obtain⟨H7,aj,d,aR⟩:=new_at (o:=.lst [.str "better",.str "",.str "worse"]) aQ;rw[<-aj];have m2:=HG (0+(i:Int)) (by decide:(2:Int)≠0);have m3:=JD (0+(i:Int)) (by decide:(0:Int)<2);have aY:Bm [V.str "better",.str "",.str "worse"] ((if(!decide (V.int (0+(i:Int))=V.int (L1 ns n)))=true then 1 else 0)*(1+(0+(i:Int))%2))=some (.str (Hm ns n i)):=(by unfold Hm;rw[Int.zero_add] at m2 m3 ⊢;by_cases e:(i:Int)=L1 ns n;rw[Ag e,Ah (by rw[Bs (by rw[e])];decide),Int.zero_mul];exact A8 (j:=0) rfl;rw[Ah e,Ag (by rw[DL λz=>e (V.int.inj z)];rfl),Int.one_mul];by_cases e2:(i:Int)%2=0;rw[Ag e2,e2];exact A8 (j:=1) rfl;rw[Ah e2,show(i:Int)%2=1 by omega];exact A8 (j:=2) rfl);refine⟨rfl,p5 ⟨_,rfl,(by show(0:Int)<2;decide),p5 ⟨by show -(2 ^ 64)<1+(0+(i:Int))%2;omega,by show 1+(0+(i:Int))%2<2 ^ 64;omega⟩,p4 ⟨_,.str (Hm ns n i),Ae.of aR,aY,?_⟩⟩⟩;refine k _ _ (d _ _ C) (by rw[Am,GS];exact Bz (by omega)) ⟨λax o e=>by rw[AC (A3 e m)];exact d _ _ (h _ _ e),Aa,?_⟩;rw[L3,Ba];rfl;obtain⟨h,aS,rfl⟩:=p;refine⟨by omega,by omega,J9 (lo:=0) (n:=n) (λD i g b=>∃l:I',g=l.map V.ref/\Ac I b/\b D=some (.lst g)/\GT b l ((List.range i).map λi:Nat=>(Hm ns n i,((i:Int)+L1 ns n)%n))) (λD m=>⟨[],rfl,A0 m,Aa,GT.nil⟩) (λD i g H7 RR m X p k=>?_) (λt g H7 bh p=>?_)⟩;obtain⟨au,rfl,Z,C,T7⟩:=p;have aZ:Bm (((List.range n).map (Hm ns n)).map V.str) (0+(i:Int))=some (.str (Hm ns n i)):=by rw[Int.zero_add];exact A8 (by rw[AQ,AQ,p8 X];rfl)
   refine p4 ⟨_,.str (Hm ns n i),Ae.of (Z _ _ aS),aZ,(by show(0:Int)<n;lia),BP,λJ ak=>?_⟩;rw[Int.zero_add];obtain⟨H8,al,d,an⟩:=new_at (o:=.tup [.str (Hm ns n i),.int (((i:Int)+L1 ns n)%n)]) ak;rw[<-al];refine k _ _ (d _ _ C) (by rw[Am,T7.len,GS];exact Bz (by lia)) ⟨au++[J],by rw[Ba];rfl,λax o e=>by rw[AC (A3 e m)];exact d _ _ (Z _ _ e),Aa,?_⟩;rw[L3];exact((T7.same d).snoc (p:=(Hm ns n i,((i:Int)+L1 ns n)%n)) an).updL (d _ _ C);obtain⟨au,rfl,Z,aT,T7⟩:=p;have av:=h.trans Z;refine hN _ _ ⟨s,t,_,au,rfl,r.trans (A.trans av),?_,aT,?_,(A.trans av) _ _ aa⟩;rw[av _ _ ar];unfold Fp;rw[show(λi=>((GR ns n i:Nat):Int))=λi:Nat=>((i:Int)-1)%n from funext λi=>by unfold GR;rw[Ag u];have:=HG ((i:Int)-1) (show(n:Int)≠0 by lia);lia];rw[show(λi=>(HD ns n i,Jz ns n i))=λi:Nat=>(Hm ns n i,((i:Int)+L1 ns n)%n) from funext λi=>by unfold HD Jz;rw[Ag u,Ag u]];exact T7
def FO (ns:F'):Int:=if DU ns 2/20%8=7 then 20 else 12
def mM (ns:F'):Nat:=(1+DU ns 2%FO ns).toNat
def QD(ns:F'):1<=mM ns/\mM ns<=20:=by unfold mM FO;split<;>lia
def NM(ns:F'):(mM ns:Int)=1+DU ns 2%FO ns:=by unfold mM FO;split<;>lia
abbrev Ho (ns:F'):Str:=(Gh (DU ns 0) 2).getD 0 default
abbrev Bp (ns:F') (k:Nat):Str:=(Gh (DU ns 1) 5).getD k default
abbrev Di (ns:F'):Int:=DU ns 3%(2*(mM ns:Int))
def K4 (ns:F') (k:Nat):Nat:=((Di ns+(k:Int))%(2*(mM ns:Int))).toNat
abbrev Er (ns:F') (i:Nat):Nat:=K4 ns i
abbrev FZ (ns:F') (i:Nat):Nat:=K4 ns (mM ns+i)
set_option tactic.hygienic true in
def VQ{a m:Int}(b:0<=a)(c:a<2*m):a%m=if a<m then a else a-m:=by
 split;rename_i h;exact Int.emod_eq_of_lt b h;rename_i h;rw[show a=a-m+m by lia,Int.add_emod_right,Int.emod_eq_of_lt (by lia) (by lia)];lia
def Si(ns:F'):0<=Di ns/\Di ns<2*(mM ns:Int):=by have:=QD ns;exact⟨HG _ (by lia),JD _ (by lia)⟩
def QE{k:Nat}(h:k<2*mM ns):(K4 ns k:Int)=if Di ns+(k:Int)<2*(mM ns:Int) then Di ns+(k:Int) else Di ns+(k:Int)-2*(mM ns:Int):=by have o:=Si ns;unfold K4;rw[VQ (by lia) (by lia)];split<;>lia
def L4(h:i<mM ns):(Di ns+(i:Int))%(2*(mM ns:Int))=(Er ns i:Int):=(Int.toNat_of_nonneg (HG _ (by lia))).symm
def L5(h:i<mM ns):(Di ns+(mM ns:Int)+(i:Int))%(2*(mM ns:Int))=(FZ ns i:Int):=by rw[Int.add_assoc];exact(Int.toNat_of_nonneg (HG _ (by lia))).symm
def L6{k:Nat}(h:k<2*mM ns):K4 ns k<2*mM ns:=by have o:=Si ns;have:=QE h;split at this<;>lia
def VR{k:Nat}(e:K4 ns j=K4 ns k)(a:j<2*mM ns)(b:k<2*mM ns):j=k:=by have o:=Si ns;have c:=QE a;have d:=QE b;split at c<;>split at d<;>lia
def QF(a:i<mM ns)(b:j<mM ns):FZ ns j≠Er ns i:=λe=>by have:=VR e (by lia) (by lia);lia
def Zv{h:Nat}(a:h<2*mM ns):∃i,i<mM ns/\(Er ns i=h\/FZ ns i=h):=by
 have o:=Si ns
 obtain⟨k,b,e⟩:∃k,k<2*mM ns/\K4 ns k=h:=by
  by_cases c:Di ns<=h;refine⟨(h-Di ns).toNat,by lia,?_⟩;have:=QE (ns:=ns) (k:=(h-Di ns).toNat) (by lia);split at this<;>lia;refine⟨(h-Di ns+2*(mM ns:Int)).toNat,by lia,?_⟩;have:=QE (ns:=ns) (k:=(h-Di ns+2*(mM ns:Int)).toNat) (by lia);split at this<;>lia
 by_cases c:k<mM ns;exact⟨k,c,.inl e⟩;exact⟨k-mM ns,by lia,.inr (by show K4 ns (mM ns+(k-mM ns))=h;rw[show mM ns+(k-mM ns)=k by lia];exact e)⟩
abbrev EN (ns:F'):Nat->Nat:=GR ns (mM ns)
abbrev Ey (ns:F'):Nat->Str:=HD ns (mM ns)
abbrev L7 (ns:F'):Nat->Int:=Jz ns (mM ns)
abbrev GU (ns:F'):Nat->Int:=Hl ns (mM ns)
def JA (ns:F') (i:Nat):Str:=if Ey ns i=n8 then Bp ns 0 else if Ey ns i=o2 then Bp ns 2 else Bp ns 3
def I0 (ns:F') (i:Nat):Bo:=([(Bp ns 1,n7,(EN ns i:Int))],if Ey ns i=k' then[] else[(JA ns i,Ho ns,f',L7 ns i)])
def L8 (ns:F') (i:Nat):Bo:=([],if GU ns i<0 then[] else[(Bp ns 4,Ho ns,f',GU ns i)])
structure Gi (ns:F') (i:Nat) (ss:List Bo):Prop where
 len:ss.length=2*mM ns
 h:∀j,j<mM ns->ss[Er ns j]?=some (if j<i then I0 ns j else([],[]))
 p:∀j,j<mM ns->ss[FZ ns j]?=some (if j<i then L8 ns j else([],[]))
def Gi.zero(ns:F'):Gi ns 0 (List.replicate (2*mM ns) ([],[])):=⟨p7,λj a=>by rw[List.getElem?_replicate,Ag ((L6 (by lia)))];rfl,λj a=>by rw[List.getElem?_replicate,Ag ((L6 (by lia)))];rfl⟩
def Gi.uniq{ss k:List Bo}(a:Gi ns (mM ns) ss)(b:Gi ns (mM ns) k):ss=k:=by refine t4 λh=>?_;rcases t7 h (2*mM ns) with c|c;obtain⟨i,d,e|e⟩:=Zv c;rw[<-e,a.h i d,b.h i d];rw[<-e,a.p i d,b.p i d];rw[Ek (by rw[a.len];exact c),Ek (by rw[b.len];exact c)]
def Gi.next{ss:List Bo}(a:Gi ns i ss)(c:i<mM ns):Gi ns (i+1) ((ss.set (Er ns i) (I0 ns i)).set (FZ ns i) (L8 ns i)):=by refine⟨by rw[FR,FR];exact a.len,λj b=>?_,λj b=>?_⟩;rw[t0 (QF b c)];by_cases e:j=i;subst e;rw[u' (by rw[a.len];exact(L6 (by lia))),Ag (by lia)];rw[t0 λz=>e (VR z (by lia) (by lia)).symm,a.h j b];by_cases l:j<i;rw[Ag l,Ag (by lia)];rw[Ah l,Ah (by lia)];by_cases e:j=i;subst e;rw[u' (by rw[FR,a.len];exact(L6 (by lia))),Ag (by lia)];rw[t0 λz=>e (by have:=VR z (by lia) (by lia);lia),t0 λz=>QF c b z.symm,a.p j b];by_cases l:j<i;rw[Ag l,Ag (by lia)];rw[Ah l,Ah (by lia)]
variable {x:Str}{v:V}
def I7{a:Θ}{j:Str}:AG (AM a (.inr x) v) (.inr j:AJ)=if j=x then some v else AG a (.inr j):=by rw[Oj];by_cases e:j=x;rw[Ag e,Ag (by rw[e])];rw[Ah e,Ah λz=>e (Sum.inr.inj z)]
def K5{y z j:Str}{a b c:V}:AG (GI [] [((.inr x:AJ),a),(.inr y,b),(.inr z,c)]) (.inr j)=if j=z then some c else if j=y then some b else if j=x then some a else none:=by show AG (AM (AM (AM [] (.inr x) a) (.inr y) b) (.inr z) c) (.inr j:AJ)=_;rw[I7,I7,I7];rfl
def L9:([]:U').length+1+1+1+1<=sizeLine:=by decide
def jQ{l:List α}{a:α}(h:l[i]?=some a):l.set i a=l:=by refine t4 λj=>?_;by_cases e:i=j;subst e;rw[u' (AV.mp h).1,h];rw[t0 e]
def OS{xs:J'}(h:n<xs.length):Bm (xs.map V.str) (n:Int)=some (.str (xs.getD n default)):=by rw[CU,AD h];exact A8 (by rw[AQ,AD h];rfl)
abbrev K6 (ns:F') (i:Nat):K':=(List.range i).map λj=>(o5,(FZ ns j:Int))
abbrev Gj (ns:F') (i:Nat):Z':=(List.range i).map λj=>((Er ns j:Int),(0:Int),[Ho ns])
abbrev VS (ns:F'):J':=[Bp ns 0,Bp ns 2,Bp ns 3]
abbrev QG (ns:F'):A':=[(Bp ns 0,Bp ns 1),(Bp ns 1,Bp ns 2),(Bp ns 0,Bp ns 2)]
def Ja{te:TE}{g:TG}{D:Ends}{σ:L2.St}(h:te σ H λx Y=>g x σ Y D.nx):HM te g D σ H:=h
def K7{l:J'}(h:l.length=5):l.map V.str=[.str (l.getD 0 default),.str (l.getD 1 default),.str (l.getD 2 default),.str (l.getD 3 default),.str (l.getD 4 default)]:=by
 match l,h with
 |[_,_,_,_,_],_=>rfl
def jR{X:Cx}{C D:V'}{r:L2.St}{L:Addr}{a b c d e:Str}{Q:V->Hp->Prop}(f:H L=some (.lst [.str a,.str b,.str c,.str d,.str e]))
 (k:∀(O:Addr)(g:I')(ord:A')(H':Hp),Ac H H'->H' O=some (.lst (g.map V.ref))->CB H' g ord->ord.Perm [(a,b),(b,c),(a,c)]->ord.Pairwise (BW CC CC).kle->Q (.ref O) H') :
 My (Ie X EF EF) (Cu (FH (Cu (F8 (Cu (Ct (DT X.K) (AS 2) (tC (.int 0))) (Cu (Ct (DT X.K) (AS 2) (tC (.int 1))) B3))) (Cu (F8 (Cu (Ct (DT X.K) (AS 2) (tC (.int 1))) (Cu (Ct (DT X.K) (AS 2) (tC (.int 2))) B3))) (Cu (F8 (Cu (Ct (DT X.K) (AS 2) (tC (.int 0))) (Cu (Ct (DT X.K) (AS 2) (tC (.int 2))) B3))) B3)))) B3) (C::D::some (.ref L)::r) H Q:=by
 refine p4 ⟨_,_,Ae.of f,A8 (j:=0) rfl,p4 ⟨_,_,Ae.of f,A8 (j:=1) rfl,BP,λi T=>?_⟩⟩;obtain⟨U1,U,l,W⟩:=new_at (o:=.tup [.str a,.str b]) T;rw[<-U];have f:=l _ _ f;refine p4 ⟨_,_,Ae.of f,A8 (j:=1) rfl,p4 ⟨_,_,Ae.of f,A8 (j:=2) rfl,BP,λJ Y=>?_⟩⟩;obtain⟨U2,Z,m,aa⟩:=new_at (o:=.tup [.str b,.str c]) Y;rw[<-Z];have f:=m _ _ f;refine p4 ⟨_,_,Ae.of f,A8 (j:=0) rfl,p4 ⟨_,_,Ae.of f,A8 (j:=2) rfl,BP,λn ab=>?_⟩⟩;obtain⟨U3,ae,E,af⟩:=new_at (o:=.tup [.str a,.str c]) ab;rw[<-ae];refine⟨GK,λF ag=>?_⟩;obtain⟨q,ah,s,ai⟩:=new_at (o:=.lst [.ref i,.ref J,.ref n]) ag;rw[<-ah];have y:=E.trans s;have A:=m.trans y;have G:CB q [i,J,n] [(a,b),(b,c),(a,c)]:=((CB.nil.snoc (p:=(_,_)) (A _ _ W)).snoc (p:=(_,_)) (y _ _ aa)).snoc (p:=(_,_)) (s _ _ af);obtain⟨zs,I,u,v⟩:=XH G;have lz:zs.length=3:=by have:=Bw List.length u;rw[Am] at this;exact this
 refine⟨F,zs,rfl,Ae.of (by rw[I];exact ai),by lia,λz h=>?_,λK B w M aj=>?_⟩;obtain⟨t,N,P⟩:=v z h;exact⟨t,N,Ar.of P⟩;have x:=A0 (o:=.lst (B.map (·.1))) aj;obtain⟨g,R,S⟩:=XI (H:=q) (zs:=B) λz h=>v z (w.mem_iff.mp h);exact k K g _ _ (l.trans (A.trans x)) (by rw[Aa,R]) (S.same x) (by rw[<-u];exact w.map _) M
def K8{T U:V'}{r:L2.St}{L:Addr}{a b c d e:Str}{Q:V->Hp->Prop}(f:H L=some (.lst [.str a,.str b,.str c,.str d,.str e]))
 (k:∀(D:Addr)(us:I')(h:J')(H':Hp),Ac H H'->H D=none->H' D=some (.lst (us.map V.ref))->Bk K (λ_=>True) H' D us [([(b,1)],h),([],[e])]->h.Perm [a,c,d]->h.Pairwise CC.kle->Q (.ref D) H') :
 FH (Cu (F8 (Cu (FH (Cu (F8 (Cu (Ct (DT K) (AS 2) (tC (.int 1))) (Cu (tC (.int 1)) B3))) B3)) (Cu (My (Zc K) (Cu (FH (Cu (Ct (DT K) (AS 2) (tC (.int 0))) (Cu (Ct (DT K) (AS 2) (tC (.int 2))) (Cu (Ct (DT K) (AS 2) (tC (.int 3))) B3)))) B3)) B3))) (Cu (F8 (Cu (FH B3) (Cu (FH (Cu (Ct (DT K) (AS 2) (tC (.int 4))) B3)) B3))) B3)) (T::U::some (.ref L)::r) H Q:=by
 refine p4 ⟨_,_,Ae.of f,A8 (j:=1) rfl,BP,λW aa=>?_⟩;obtain⟨U6,ab,A,ae⟩:=new_at (o:=.tup [.str b,.int 1]) aa;rw[<-ab];refine⟨GW,λX af=>?_⟩;obtain⟨B,ag,m,s⟩:=new_at (o:=.lst [.ref W]) af;rw[<-ag];have f:=(A.trans m) _ _ f;refine p4 ⟨_,_,Ae.of f,A8 (j:=0) rfl,p4 ⟨_,_,Ae.of f,A8 (j:=2) rfl,p4 ⟨_,_,Ae.of f,A8 (j:=3) rfl,GK,λle ah=>?_⟩⟩⟩;have n:=A0 (o:=.lst [.str a,.str c,.str d]) ah;have M:(upd B le (.lst [.str a,.str c,.str d])) le=some (.lst ([a,c,d].map V.str)):=Aa;generalize upd B le (.lst [.str a,.str c,.str d])=U8 at n M ⊢;refine⟨le,_,rfl,Ae.of M,(by show 3<64;decide),λE0 h ai aj ak=>?_⟩;obtain⟨U9,al,C,N⟩:=new_at (o:=.lst (h.map V.str)) ak;rw[<-al];refine⟨BP,λO aw=>?_⟩;obtain⟨V1,an,E,ax⟩:=new_at (o:=.tup [.ref X,.ref E0]) aw;rw[<-an];refine⟨by decide,λY ao=>?_⟩;obtain⟨G,aq,I,t⟩:=new_at (o:=.lst []) ao;rw[<-aq];have ar:=C.trans (E.trans I);have f:=(n.trans ar) _ _ f;refine p4 ⟨_,_,Ae.of f,A8 (j:=4) rfl,GW,λi au=>?_⟩;have J:=A0 (o:=.lst [.str e]) au;have u:(upd G i (.lst [.str e])) i=some (.lst ([e].map V.str)):=Aa;generalize upd G i (.lst [.str e])=V3 at J u ⊢;refine⟨BP,λP ay=>?_⟩;obtain⟨Z,av,p,az⟩:=new_at (o:=.tup [.ref Y,.ref i]) ay;rw[<-av];refine⟨BP,λD q=>?_⟩;have g:=A0 (o:=.lst [.ref O,.ref P]) q;have nn:∀{x:Addr}{o:HO},Z x=some o->x≠D:=λe z=>by rw[z,q] at e;cases e
 have l:=J.trans p;have R:=I.trans l;have v:=E.trans R;have w:=n.trans (C.trans v);have S:=A.trans (m.trans w);have y:=w.trans g;refine k D [O,P] h _ (S.trans g) (S.free q) Aa ?_ ai aj;exact((Bk.nil (F:=λ_=>True)).snoc (r:=([(b,1)],h)) ((R.trans g) _ _ ax) ⟨_,Ae.of (y _ _ s),.cons (.tup (Ar.of ((m.trans y) _ _ ae)) (.cons (.str _) (.cons (.int _) .nil))) .nil⟩ (y _ _ s) ((v.trans g) _ _ N) (nn (w _ _ s)) (nn (v _ _ N)) True.intro True.intro).snoc (r:=([],[e])) (g _ _ az) ⟨[],Ae.of ((l.trans g) _ _ t),.nil⟩ ((l.trans g) _ _ t) ((p.trans g) _ _ u) (nn (l _ _ t)) (nn (p _ _ u)) True.intro True.intro
inductive Eg (K:Aj) (vs:U') (H:Hp) (Q:VK):Prop where
 |mk (a:Addr) (ns:F') (h0:vs=[.ref a]) (h1:Ae K H a (ns.map V.int)) (h2:∀(r nt t S T R:Addr)(us Gs Es gt qt:I')(ss:List Bo)(e0:J')(ord:A')(H':Hp),Ac H H'->H' r=some (.tup [.ref nt,.ref t])->H' nt=some (.tup [.ref S,.ref T,.ref R])->FJ H' S T R us Gs Es gt qt ss (K6 ns (mM ns)) (Gj ns (mM ns))->Gi ns (mM ns) ss->Go K (λ_=>True) H' t [([(Bp ns 1,1)],e0),([],[Bp ns 4])] 1 ord->e0.Perm (VS ns)->e0.Pairwise CC.kle->ord.Perm (QG ns)->ord.Pairwise (BW CC CC).kle->Q (.ref r) H'):Eg K vs H Q
def jS (K:Aj):Sp:=λvs H Q _=>Eg K vs H Q
abbrev Sj(P w K mg base):=BL P w K mg base "_law_made" 4 ["_law_script"] (jS K)
theorem jT (B:BO mg) (aQ:VO P w K mg base) (an:QA P w K mg base) (bo:QC P w K mg base) (F:By K "_law_made" "_law_made" N4 f fd) (hm:mg "_law_made" = some (.ref f)):Sj P w K mg base:=by
 refine B8 F hm Gg (λvs H bj bk h=>?_) (λcj cb cn cc H vs bj bk hr h=>?_);obtain⟨a,ns,rfl,_⟩:=h;rfl
 . obtain⟨a,ns,rfl,hS,q⟩:=h
   obtain⟨m1,ck⟩:=QD ns
   refine⟨_,(An (AU (i:=1) Gg.nd (At Au (A7 aQ (Ab (A7 an (Ab (pv 0) (Ab Ap Af))) (Ab Ap Af))) Ap))
    (An (AU (i:=2) Gg.nd (A7 aQ (Ab (A7 an (Ab (pv 0) (Ab Ap Af))) (Ab Ap Af))))
    (An (AU (i:=3) Gg.nd (A7 an (Ab (pv 0) (Ab Ap Af))))
    (An (AU (i:=4) Gg.nd (A2 F6 Ap (A2 DO (pv 3) (At Au (BV (Ab Ap (Ab Ap (Ab Ap (Ab Ap (Ab Ap (Ab Ap (Ab Ap (Ab Ap Af))))))))) (A2 DO (A2 Jk (pv 3) Ap) Ap)))))
    (An (Dl (A7 bo (Ab (pv 0) (Ab (pv 4) Af))) (Cb (n:=3) rfl (AE (Aw (i:=5) Gg.nd) (AE (Aw (i:=6) Gg.nd) (AE (Aw (i:=7) Gg.nd) Ca)))))
    (An (AU (i:=8) Gg.nd (A2 DO (A7 an (Ab (pv 0) (Ab Ap Af))) (A2 He Ap (pv 4))))
    (An (Lw (i:=9) Gg.nd rfl (p4 rfl) rfl CZ (GD rfl B.b_range (Ab (A2 He Ap (pv 4)) Af)) (λ_ _ _ _ _=>(Aw (i:=0) CZ.nd)) (λ_ _ _ _ _=>FV) (λ_ _ _ _ _=>(Bl (Ab (BV Af) (Ab (BV Af) Af)))))
    (An (AU (i:=10) Gg.nd (JY (Ug Br (At Au (pv 2) Ap) (Ug Br (At Au (pv 2) Ap) (Ug Br (At Au (pv 2) Ap) JX))) rfl rfl (by simp) (Nat.le_of_ble_eq_true rfl)))
    (An (Dr CP rfl (GD rfl B.b_range (Ab (pv 4) Af)) (Aw (i:=11) Gg.nd) (An (AU (i:=12) Gg.nd (A2 DO (A2 F6 (pv 8) (pv 11)) (A2 He Ap (pv 4))))
     (An (DR (Ds DM E9 Fa Fc (At Au (At Au (pv 9) (pv 12)) Ap) (Ab (Bl (Ab (At Au (pv 2) Ap) (Ab Br (Ab (At Au (pv 5) (pv 11)) Af)))) Af)))
     (An (BA (BU JN (At Au (At Au (pv 6) (pv 11)) Ap) Br (BJ _)) (Az (DR (Ds DM E9 Fa Fc (At Au (At Au (pv 9) (pv 12)) Ap) (Ab (Bl (Ab (Uc (Ls hr) (pv 10) (At Au (At Au (pv 6) (pv 11)) Ap) (λ_ _=>rfl)) (Ab (pv 1) (Ab Br (Ab (At Au (At Au (pv 6) (pv 11)) Ap) Af))))) Af)))) BE)
     (Az (BA (BU HP (At Au (pv 7) (pv 11)) Ap (BJ _)) (Az (DR (Ds DM E9 Fa Fc (At Au (At Au (pv 9) (A2 DO (A2 F6 (A2 F6 (pv 8) (pv 4)) (pv 11)) (A2 He Ap (pv 4)))) Ap) (Ab (Bl (Ab (At Au (pv 2) Ap) (Ab (pv 1) (Ab Br (Ab (At Au (pv 7) (pv 11)) Af))))) Af)))) BE))))))
    (An (Lw (i:=13) Gg.nd rfl (p4 rfl) rfl C0 (GD rfl B.b_range (Ab (pv 4) Af)) (λ_ _ _ _ _=>(Aw (i:=0) C0.nd)) (λ_ _ _ _ _=>FV) (λ_ _ _ _ _=>(Bl (Ab Br (Ab (A2 DO (A2 F6 (A2 F6 (pv 2) (pv 1)) (pv 0)) (A2 He Ap (pv 1))) Af)))))
    (An (Lw (i:=14) Gg.nd rfl (p4 rfl) rfl C1 (GD rfl B.b_range (Ab (pv 4) Af)) (λ_ _ _ _ _=>(Aw (i:=0) C1.nd)) (λ_ _ _ _ _=>FV) (λ_ _ _ _ _=>(Bl (Ab (A2 DO (A2 F6 (pv 2) (pv 0)) (A2 He Ap (pv 3))) (Ab Ap (Ab (Bl (Ab (pv 1) Af)) Af))))))
    (An (AU (i:=15) Gg.nd (Cv (dC EF EF) B.b_sorted (Ab (BV (Ab (Bl (Ab (At Au (pv 2) Ap) (Ab (At Au (pv 2) Ap) Af))) (Ab (Bl (Ab (At Au (pv 2) Ap) (Ab (At Au (pv 2) Ap) Af))) (Ab (Bl (Ab (At Au (pv 2) Ap) (Ab (At Au (pv 2) Ap) Af))) Af)))) Af)))
    (An (AU (i:=16) Gg.nd (BV (Ab (Bl (Ab (BV (Ab (Bl (Ab (At Au (pv 2) Ap) (Ab Ap Af))) Af)) (Ab (Cv i6 B.b_sorted (Ab (BV (Ab (At Au (pv 2) Ap) (Ab (At Au (pv 2) Ap) (Ab (At Au (pv 2) Ap) Af)))) Af)) Af))) (Ab (Bl (Ab (BV Af) (Ab (BV (Ab (At Au (pv 2) Ap) Af)) Af))) Af))))
    (Az (AZ (Bl (Ab (Bl (Ab (pv 9) (Ab (pv 13) (Ab (pv 14) Af)))) (Ab (Bl (Ab (pv 16) (Ab Ap (Ab (pv 15) Af)))) Af)))))))))))))))))),?_⟩
   rfl';refine Sa λI d=>?_;refine⟨a,ns,0,rfl,by decide,hS,_,2,rfl,by decide,by decide,λcd cf hN s1 eN=>?_⟩;have lN:(Gh (DU ns 0) 2).length=2:=VN _ _;have W:(Gh (DU ns 1) 5).length=5:=VN _ _;refine p4 ⟨_,.str (Ho ns),Ae.of eN,OS (n:=0) (by rw[lN];decide),?_⟩;refine Dz d λI d=>?_;refine⟨a,ns,1,rfl,by decide,s1.seq hS,_,5,rfl,by decide,by decide,λaL H2 hL s2 eL=>?_⟩;have aR:=s1.trans s2;refine Dz d λI d=>?_;refine⟨a,ns,2,rfl,by decide,aR.seq hS,?_⟩;refine Dz d λI d=>?_;refine⟨(by show 8<=sizeLine;decide),λcg hl=>?_⟩;obtain⟨H3,bp,s3,el⟩:=new_at (o:=.lst [.int 12,.int 12,.int 12,.int 12,.int 12,.int 12,.int 12,.int 20]) hl;rw[<-bp];have bR:Bm [V.int 12,.int 12,.int 12,.int 12,.int 12,.int 12,.int 12,.int 20] (DU ns 2/20%8)=some (.int (FO ns)):=(by unfold FO;have h0:=HG (DU ns 2/20) (by decide:(8:Int)≠0);have h1:=JD (DU ns 2/20) (by decide:(0:Int)<8);generalize DU ns 2/20%8=z at h0 h1;rcases(show z=0\/z=1\/z=2\/z=3\/z=4\/z=5\/z=6\/z=7 by lia) with rfl|rfl|rfl|rfl|rfl|rfl|rfl|rfl;exact A8 (j:=0) rfl;exact A8 (j:=1) rfl;exact A8 (j:=2) rfl;exact A8 (j:=3) rfl;exact A8 (j:=4) rfl;exact A8 (j:=5) rfl;exact A8 (j:=6) rfl;exact A8 (j:=7) rfl);have bS:(0:Int)<FO ns:=by unfold FO;split<;>decide
   refine⟨⟨by decide,by decide⟩,(by show(0:Int)<8;decide),p4 ⟨_,.int (FO ns),Ae.of el,bR,bS,?_⟩⟩;dsimp only[GF,GV];rw[<-NM ns];have aS:=aR.trans s3;refine Dz d λI d=>?_;refine⟨a,ns,mM ns,rfl,aS.seq hS,m1,by lia,λr0 Lk aM P to H4 s4 bq br eO TO eP=>?_⟩;refine⟨_,Ar.of bq,rfl,?_⟩;have aT:=aS.trans s4;have ao:=(s3.trans s4) _ _ eL;refine Dz d λI d=>?_;refine⟨a,ns,3,rfl,by decide,aT.seq hS,p4 ⟨by decide,by decide⟩,(by show(0:Int)<2*(mM ns:Int);lia),?_⟩;refine Dz d λI d=>?_
   refine⟨p4 ⟨by decide,by decide⟩,by omega,by omega,J9 (lo:=0) (n:=(2*(mM ns:Int)).toNat) (λD i J s=>∃us g l:I',J=us.map V.ref/\Ac H4 s/\Do s D us g l (List.replicate i (([],[]):Bo))/\(D::(g++l)).Nodup/\∀x∈g++l,H4 x=none)
    (λD C=>⟨[],[],[],rfl,A0 C,Do.nil Aa,by simp,λx X=>by simp at X⟩) (λD i J H7 RR C u hv k=>?_) (λS J H7 cl hv=>?_)⟩
   refine AO λY r=>?_;obtain⟨us,g,l,rfl,O,SC,Z,a1⟩:=hv;refine r ?_;clear r;have aU:=SC.lu;rw[p7] at aU;refine⟨by decide,λG hG=>?_⟩;obtain⟨H8,bs,v,eG⟩:=new_at (o:=.lst []) hG;rw[<-bs];refine⟨by decide,λM N=>?_⟩;obtain⟨H9,bt,A,bu⟩:=new_at (o:=.lst []) N;rw[<-bt];refine⟨BP,λab hu=>?_⟩;obtain⟨T,aF,t3,eu⟩:=new_at (o:=.tup [.ref G,.ref M]) hu;rw[<-aF];have aV:=(v.trans A).trans t3;have bv:=A.trans t3;have ae:=SC.same aV;have al:=SC.alive
   have nG:G∉D::(g++l):=λy=>by
    rcases B1.mp y with y|y;rw[y,SC.top] at hG;cases hG;obtain⟨xs,e⟩:=al G y;rw[e] at hG;cases hG
   have nE:M∉D::(g++l):=λy=>by
    rcases B1.mp y with y|y;rw[y,v _ _ SC.top] at N;cases N;obtain⟨xs,e⟩:=al M y;rw[v _ _ e] at N;cases N
   have bx:G≠M:=λy=>by rw[<-y,eG] at N;cases N
   have bz:Hz T ab G M ([],[]):=⟨eu,⟨[],bv _ _ eG,RT.nil⟩,⟨[],t3 _ _ bu,RT.nil⟩⟩;have U:=ae.snoc bz (λz=>nG (z▸Bg)) (λz=>nE (z▸Bg)) (λx X z=>(F0.mp Z).1 (z▸X));refine k _ _ ae.top (by rw[Am,aU];exact Bz (by lia)) ⟨us++[ab],g++[G],l++[M],by rw[Ba];rfl,λb o e=>?_,?_,dL Z nG nE bx,λx X=>?_⟩;rw[AC (A3 e C)];exact aV _ _ (O _ _ e);rw[List.replicate_succ'];exact U;have:x∈g++l\/x=G\/x=M:=(by simp only[B0,AR] at X ⊢;rcases X with(h|h)|(h|h);exact .inl (.inl h);exact .inr (.inl h);exact .inl (.inr h);exact .inr (.inr h));rcases this with h|h|h;exact a1 x h;rw[h];exact O.free hG;rw[h];exact(O.trans v).free N;refine AO λY r=>?_;obtain⟨us,g,l,rfl,s5,a2,Z,a1⟩:=hv;refine r ?_;clear r;rw[show(2*(mM ns:Int)).toNat=2*mM ns by lia] at a2;cbv;refine Dz d λI d=>?_;refine λL aq=>?_;obtain⟨H6,b0,s6,e6⟩:=new_at (o:=.dK []) aq;rw[<-b0];have a3:=(s5.trans s6) _ _ ao;refine p4 ⟨_,.str (Bp ns 0),Ae.of a3,OS (n:=0) (by rw[W];decide),p4 ⟨_,.str (Bp ns 2),Ae.of a3,OS (n:=2) (by rw[W];decide),p4 ⟨_,.str (Bp ns 3),Ae.of a3,OS (n:=3) (by rw[W];decide),e6,[(.inr "better",.str (Bp ns 0)),(.inr "worse",.str (Bp ns 2)),(.inr "alike",.str (Bp ns 3))],rfl,show 3<=15 by decide,?_⟩⟩⟩;have vk:=λj:Str=>K5 (x:= "better") (y:= "worse") (z:= "alike") (j:=j) (a:=V.str (Bp ns 0)) (b:=V.str (Bp ns 2)) (c:=V.str (Bp ns 3));generalize GI [] [((.inr "better" : AJ),V.str (Bp ns 0)),(.inr "worse",V.str (Bp ns 2)),(.inr "alike",V.str (Bp ns 3))]=k1 at vk ⊢;have O:Ac H7 (upd H6 L (.dK k1)):=λb o e=>by rw[AC (A3 e aq)];exact s6 _ _ e
   have aW:(upd H6 L (.dK k1)) L=some (.dK k1):=Aa;generalize upd H6 L (.dK k1)=H8 at O aW ⊢;have ae:=a2.same O;have b5:=s5.trans O;have M4:∀x o,H4 x=some o->x∉g++l:=λx o e y=>by rw[a1 x y] at e;cases e
   have b6:L∉g++l:=λy=>by
    obtain⟨xs,e⟩:=a2.alive L y;rw[e] at aq;cases aq
   have ar:∀{s:Hp},Keeps (λx=>x∈g++l) H8 s->Ac H4 s:=λk x o e=>k.at_ _ _ (b5 _ _ e) (M4 x o e);have bw:¬n8=o2:=(by decide +kernel);have ba:¬n8=o7:=(by decide +kernel);have wa:¬o2=o7:=(by decide +kernel);have cm:to.length=mM ns:=(by rw[TO.len,GS]);refine Dz d λI d=>?_;refine⟨by omega,by omega,Pc (lo:=0) (n:=mM ns) (λi σ s=>∃(a4 a5:V')(E:List Bo),σ=[some (.ref a),some (.str (Ho ns)),some (.ref aL),some (.int (DU ns 2)),some (.int (mM ns)),some (.ref Lk),some (.ref aM),some (.ref P),some (.int (Di ns)),some (.ref S),some (.ref L),a4,a5,none,none,none,none]/\Keeps (λx=>x∈g++l) H8 s/\Do s S us g l E/\Gi ns i E) ⟨none,none,_,rfl,Keeps.refl λx o m e=>?_,ae,Gi.zero ns⟩ ?_ ?_⟩;obtain⟨xs,e'⟩:=ae.alive x m;rw[e'] at e;exact⟨xs,(Bt e).symm⟩
   . refine λi σ H9 u a6=>AO λY r=>?_
     obtain⟨a4,a5,E,rfl,k9,U,Q⟩:=a6;refine r ?_;clear r;refine IJ ?_;intro I Cy;rw[Int.zero_add];refine⟨p4 ⟨by decide,by decide⟩,(by show(0:Int)<2*(mM ns:Int);lia),?_⟩;dsimp only[GF,GV];rw[L4 u];refine Em ?_;have af:=ar k9;have a7:=af _ _ ao;have a8:Er ns i<E.length:=by rw[Q.len];exact L6 (by lia)
     have b7:E[Er ns i]?=some ([],[]):=(by rw[Q.h i u,Ah (by lia)]);have aX:E[FZ ns i]?=some ([],[]):=(by rw[Q.p i u,Ah (by lia)]);refine AO λY r=>?_;obtain⟨ab,G,M,bm,aP,ch,g4,⟨c0,⟨tG,b1,b2⟩,⟨tE,b3,b4⟩⟩⟩:=U.get a8;refine r ?_;clear r;have eh:E[Er ns i]=([],[]):=Bt (g4.symm.trans b7);have bT:Bm (us.map V.ref) (Er ns i:Int)=some (.ref ab):=A8 (by rw[AQ,bm];rfl);have b8:tG.length=0:=by rw[b2.len,eh];rfl
     refine p4 ⟨_,.ref ab,Ae.of U.top,bT,p5 (p4 ⟨_,.ref G,Ar.of c0,rfl,p4 ⟨rfl,_,Ae.of b1⟩,p4 ⟨_,.str (Bp ns 1),Ae.of a7,OS (n:=1) (by rw[W];decide),p4 ⟨_,.int (EN ns i),Ae.of (af _ _ br),R9 u,GK,λtp b9=>?_⟩⟩⟩)⟩;obtain⟨T,aF,v,bA⟩:=new_at (o:=.tup (Hf (Bp ns 1,n7,(EN ns i:Int)))) b9;rw[<-aF];have aY:=v _ _ b1;have mG:G∈g++l:=Et _ (Bf aP);refine⟨_,aY,by rw[Am,b8];exact Bz (by lia),?_⟩;have aa:=(U.same v).step Z a8 aP aY (b2.same v) bA;rw[eh] at aa;have ag:Keeps (λx=>x∈g++l) H8 (upd T G (.lst (tG.map V.ref++[.ref tp]))):=(k9.same v).set mG;generalize upd T G (.lst (tG.map V.ref++[.ref tp]))=au at aa ag ⊢;have ay:=ar ag;have eta:=AD (show i<to.length by lia);generalize to[i]'(by lia)=ta at eta;have ea:=TO.at_ i ta (Ey ns i,L7 ns i) eta (by rw[AQ,p8 u];rfl);have aG:Bm (to.map V.ref) (i:Int)=some (.ref ta):=A8 (by rw[AQ,eta];rfl);have aH:=Ar.of (K:=K) (ay _ _ ea);dsimp only;refine Jp (λσ' s=>σ'=[some (.ref a),some (.str (Ho ns)),some (.ref aL),some (.int (DU ns 2)),some (.int (mM ns)),some (.ref Lk),some (.ref aM),some (.ref P),some (.int (Di ns)),some (.ref S),some (.ref L),some (.int i),some (.int (Er ns i)),none,none,none,none]/\Keeps (λx=>x∈g++l) H8 s/\Do s S us g l (E.set (Er ns i) (I0 ns i))) ?_ (λNX aZ=>?_);rotate_left
     . refine p4 ⟨_,.ref ta,Ae.of (ay _ _ eO),aG,p5 (p4 ⟨_,.str (Ey ns i),aH,rfl,rfl,rfl,As (λc=>?_) (λc=>?_)⟩)⟩
       rotate_left;have e:Ey ns i=k':=p9 λz=>c (by rw[DL λy=>z (V.str.inj y)];rfl);refine aZ _ _ ⟨rfl,ag,?_⟩;unfold I0;rw[Ag e];exact aa;have e:Ey ns i≠k':=λz=>by rw[z] at c;simp at c
       have bf:Er ns i<(E.set (Er ns i) ([]++[(Bp ns 1,n7,(EN ns i:Int))],[])).length:=by rw[FR];exact a8
       refine AO λY r=>?_;obtain⟨u2,G2,E2,a0,bn,f3,f4,⟨d0,_,⟨bB,d3,d4⟩⟩⟩:=aa.get bf;refine r ?_;clear r;rw[List.getElem_set_self] at d4;have bZ:Bm (us.map V.ref) (Er ns i:Int)=some (.ref u2):=A8 (by rw[AQ,a0];rfl);have a9:bB.length=0:=by rw[d4.len];rfl
       have bU:AG k1 (.inr (Ey ns i))=some (.str (JA ns i)):=by
        rw[vk];unfold JA;rcases IY ns (mM ns) i with z|z|z|z;rw[show Ey ns i=_ from z,Ah ba,Ah bw,Ag rfl,Ag rfl];rw[show Ey ns i=_ from z,Ah wa,Ag rfl,Ah (Ne.symm bw),Ag rfl];rw[show Ey ns i=_ from z,Ag rfl,Ah (Ne.symm ba),Ah (Ne.symm wa)];exact absurd z e
       have bV:au L=some (.dK k1):=ag.at_ _ _ aW b6;refine p4 ⟨_,.ref u2,Ae.of aa.top,bZ,p5 (p4 ⟨_,.ref E2,Ar.of d0,rfl,p4 ⟨rfl,_,Ae.of d3⟩,p4 ⟨_,.ref ta,Ae.of (ay _ _ eO),aG,p5 (p4 ⟨_,.str (Ey ns i),aH,rfl,L,.str (JA ns i),rfl,bU▸De.k (k:=.inr (Ey ns i)) bV,p4 ⟨_,.ref ta,Ae.of (ay _ _ eO),aG,p5 (p4 ⟨_,.int (L7 ns i),aH,rfl,L9,λtq ah=>?_⟩)⟩⟩)⟩⟩)⟩;obtain⟨bb,aI,A,ai⟩:=new_at (o:=.tup (GL (JA ns i,Ho ns,f',L7 ns i))) ah;rw[<-aI];have aj:=A _ _ d3;have mE:E2∈g++l:=Db _ (Bf f3);refine⟨_,aj,by rw[Am,a9];exact Bz (by lia),aZ _ _ ⟨rfl,(ag.same A).set mE,?_⟩⟩;have:=(aa.same A).tell Z bf f3 aj (by rw[List.getElem_set_self];exact d4.same A) ai;rw[List.getElem_set_self,List.set_set] at this;unfold I0;rw[Ah e];exact this
     rintro σ' bb ⟨rfl,aA,az⟩;have aJ:=ar aA;have bg:Bm (((List.range (mM ns)).map (Hl ns (mM ns))).map V.int) (i:Int)=some (.int (GU ns i)):=A8 (by rw[AQ,AQ,p8 u];rfl);have nx:=Q.next u;refine p4 ⟨_,.int (GU ns i),Ae.of (aJ _ _ eP),bg,rfl,As (λc=>?_) (λc=>?_)⟩;rotate_left;have c':GU ns i<0:=(by have:¬0<=GU ns i:=λz=>c (Bs z);lia);refine⟨_,_,_,rfl,aA,?_,nx⟩;rw[jQ];exact az;unfold L8;rw[Ag c',t0 λz=>QF u u z.symm];exact aX;have c':¬GU ns i<0:=(by have:0<=GU ns i:=BG c;lia);have bh:FZ ns i<(E.set (Er ns i) (I0 ns i)).length:=by rw[FR,Q.len];exact L6 (by lia)
     refine AO λY r=>?_;obtain⟨u3,G3,E3,a0,bn,f3,f4,⟨d0,_,⟨bC,d3,d4⟩⟩⟩:=az.get bh;refine r ?_;clear r
     have bc:(E.set (Er ns i) (I0 ns i))[FZ ns i]=([],[]):=by
      have:(E.set (Er ns i) (I0 ns i))[FZ ns i]?=some ([],[]):=by rw[t0 λz=>QF u u z.symm];exact aX
      exact Bt (f4.symm.trans this)
     have ca:Bm (us.map V.ref) (FZ ns i:Int)=some (.ref u3):=A8 (by rw[AQ,a0];rfl);have a9:bC.length=0:=by rw[d4.len,bc];rfl
     refine⟨p4 ⟨by decide,by decide⟩,(by show(0:Int)<2*(mM ns:Int);lia),?_⟩;dsimp only[GF,GV];rw[L5 u];refine p4 ⟨_,.ref u3,Ae.of az.top,ca,p5 (p4 ⟨_,.ref E3,Ar.of d0,rfl,p4 ⟨rfl,_,Ae.of d3⟩,p4 ⟨_,.str (Bp ns 4),Ae.of (aJ _ _ ao),OS (n:=4) (by rw[W];decide),p4 ⟨_,.int (GU ns i),Ae.of (aJ _ _ eP),bg,L9,λtq ah=>?_⟩⟩⟩)⟩;obtain⟨aB,aK,A,ai⟩:=new_at (o:=.tup (GL (Bp ns 4,Ho ns,f',GU ns i))) ah;rw[<-aK];have aj:=A _ _ d3;have mE:E3∈g++l:=Db _ (Bf f3);refine⟨_,aj,by rw[Am,a9];exact Bz (by lia),⟨_,_,_,rfl,(aA.same A).set mE,?_,nx⟩⟩;have:=(az.same A).tell Z bh f3 aj (d4.same A) ai;rw[bc] at this;rw[show L8 ns i=([],[]++[(Bp ns 4,Ho ns,f',GU ns i)]) by unfold L8;rw[Ah c'];rfl];exact this
   refine λσ H9 a6=>AO λY r=>?_;obtain⟨a4,a5,E,rfl,k9,U,Q⟩:=a6;refine r ?_;clear r;have af:=ar k9;have a7:=af _ _ ao;refine Dz d λI d=>?_;refine⟨by omega,by omega,J9 (lo:=0) (n:=mM ns) (λD i J s=>∃gt:I',J=gt.map V.ref/\Ac H9 s/\s D=some (.lst J)/\GT s gt (K6 ns i)) (λD C=>⟨[],rfl,A0 C,Aa,GT.nil⟩) (λD i J T RR C u p k=>?_) (λaN J T hT p=>?_)⟩;obtain⟨gt,rfl,av,eD,aw⟩:=p;refine⟨p4 ⟨by decide,by decide⟩,(by show(0:Int)<2*(mM ns:Int);omega),BP,λtw bD=>?_⟩;dsimp only[GF,GV];rw[Int.zero_add,L5 u];obtain⟨au,bW,v,bE⟩:=new_at (o:=.tup [.str "part",.int (FZ ns i)]) bD;rw[<-bW];refine k _ _ (v _ _ eD) (by rw[Am,aw.len,GS];exact Bz (by omega)) ⟨gt++[tw],by rw[Ba];rfl,λb o e=>by rw[AC (A3 e C)];exact v _ _ (av _ _ e),Aa,?_⟩;rw[show K6 ns (i+1)=K6 ns i++[(o5,(FZ ns i:Int))] from L3 _ _];exact((aw.same v).snoc (p:=(o5,(FZ ns i:Int))) bE).updL (v _ _ eD);obtain⟨gt,rfl,av,eT,aw⟩:=p;refine Dz d λI d=>?_;refine⟨by omega,by omega,J9 (lo:=0) (n:=mM ns) (λD i J s=>∃R:I',J=R.map V.ref/\Ac T s/\s D=some (.lst J)/\QT s R (Gj ns i)) (λD C=>⟨[],rfl,A0 C,Aa,QT.nil⟩) (λD i J au RR C u p k=>?_) (λaO J au hR p=>?_)⟩;obtain⟨R,rfl,ax,eD,TQ⟩:=p;refine⟨p4 ⟨by decide,by decide⟩,(by show(0:Int)<2*(mM ns:Int);omega),GW,λpu bF=>?_⟩;obtain⟨bb,aI,v,bG⟩:=new_at (o:=.tup [.str (Ho ns)]) bF;rw[<-aI];refine⟨GK,λtq ah=>?_⟩;dsimp only[GF,GV];rw[Int.zero_add,L4 u];obtain⟨aB,aK,A,ai⟩:=new_at (o:=.tup [.int (Er ns i),.int 0,.ref pu]) ah;rw[<-aK];have aC:=v.trans A;have bi:=aC _ _ eD;have kD:Keeps (·=D) aB (upd aB D (.lst (R.map V.ref++[.ref tq]))):=Keeps.one bi;refine k _ _ bi (by rw[Am,TQ.len,GS];exact Bz (by omega)) ⟨R++[tq],by rw[Ba];rfl,λb o e=>by rw[AC (A3 e C)];exact aC _ _ (ax _ _ e),Aa,?_⟩;rw[show Gj ns (i+1)=Gj ns i++[((Er ns i:Int),(0:Int),[Ho ns])] from L3 _ _];exact((TQ.same aC).keeps kD).snoc (q:=((Er ns i:Int),0,[Ho ns])) (kD.tup ai) (kD.tup (A _ _ bG));obtain⟨R,rfl,ax,eR,TQ⟩:=p;have bX:=av.trans ax;have ak:=bX _ _ a7;refine Dz d λI d=>?_;rw[K7 W] at ak;refine Ja (jR ak λO2 bH bI U5 y5 bd bJ bY hw=>?_);have ak:=y5 _ _ ak;refine Dz d λI d=>?_;refine Ja (K8 ak λD bK e0 V5 q5 C eD SR bL bM=>?_);refine Sb d ?_;refine⟨GK,λnt bN=>?_⟩;obtain⟨V6,bO,q6,bP⟩:=new_at (o:=.tup [.ref S,.ref aN,.ref aO]) bN;rw[<-bO];refine⟨GK,λt ht=>?_⟩;obtain⟨V7,bQ,q7,et⟩:=new_at (o:=.tup [.ref D,.int 1,.ref O2]) ht;rw[<-bQ];refine⟨BP,λbl hr=>?_⟩;have q8:=A0 (o:=.tup [.ref nt,.ref t]) hr;have be:=q7.trans q8;have aD:=q6.trans be;have aE:=q5.trans aD;have yA:=y5.trans aE;have yB:=ax.trans yA;have yC:=av.trans yB;refine q bl nt t S aN aO us g l gt R E e0 bI _ (aT.trans (af.trans yC)) Aa (be _ _ bP) ⟨U.same yC,yB _ _ eT,aw.same yB,yA _ _ eR,TQ.same yA⟩ Q ⟨D,O2,bK,bH,q8 _ _ et,True.intro,True.intro,λz=>?_,aD _ _ eD,SR.same aD,aE _ _ bd,bJ.same aE⟩ bL bM bY hw;rw[z,bd] at C;cases C
def QH{ps:F'}{k:Nat}(h:k<ps.length):Bm (ps.map V.int) (k:Int)=some (.int (ps.getD k 0)):=by rw[CU,AD h];exact A8 (by rw[AQ,AD h];rfl)
def CL (w:Str) (t f:Int):Int:=if w=k'\/(0<=f/\w=o2) then f else t
def FP (w:Str) (t f:Int):Str×Int:=if 0<=f/\w=o7/\CL w t f≠f then("torn",0) else if CL w t f<0 then("none",0) else("thing",CL w t f)
inductive C6 (K:Aj) (vs:U') (H:Hp) (Q:VK):Prop where
 |mk (o P b:Addr) (w:Str) (t:Int) (ps:F') (p:Str×Int) (h0:vs=[.ref o,.ref P,.ref b]) (h1:Ar K H o [.str w,.int t]) (h2:Ae K H P (ps.map V.int)) (h3:Ar K H b [.str p.1,.int p.2]) (h4:(p.1=f'->0<=p.2/\p.2<ps.length)) (h5:∀(r:Addr)(H':Hp)(f:Int),H r=none->Ac H H'->f=(if p.1=f' then ps.getD p.2.toNat 0 else -1)->H' r=some (.tup [.str (FP w t f).1,.int (FP w t f).2])->Q (.ref r) H'):C6 K vs H Q
def jU (K:Aj):Sp:=λvs H Q _=>C6 K vs H Q
abbrev VT(P w K mg base):=BL P w K mg base "_law_behind" 1 ["_law_own", "_law_parts_here", "_law_before"] (jU K)
def jV(aa:BO mg)(F:By K "_law_behind" "_law_behind" SK f fd)(L:mg "_law_behind" = some (.ref f)):VT P w K mg base:=by
 refine B8 F L ON (λM H Q E h=>?_) (λaf ab ag ae H M Q E s h=>?_);obtain⟨o,P,b,w,t,u,p,rfl,_⟩:=h;rfl
 . obtain⟨o,P,b,a,t,u,p,rfl,N,O,D,R,q⟩:=h
   refine⟨_,(An (Dl (pv 0) (Cb (n:=2) rfl (AE (Aw (i:=3) ON.nd) (AE (Aw (i:=4) ON.nd) Ca))))
    (An (AU (i:=5) ON.nd (GG GH Ap))
    (An (BA (BU Dd (At Au (pv 2) Ap) Br (BJ _)) (Az (AU (i:=5) ON.nd (At Au (pv 1) (At Au (pv 2) Ap)))) BE)
    (An (BA (PW.pt (OZ (BU Dd (pv 3) Br (BJ _)) (Q7 (PW.pt (HJ (BU HP (pv 5) Ap (BJ _)) (Jj (BU Dd (pv 3) Br (BJ _)))))))) (Az (AU (i:=4) ON.nd (pv 5))) BE)
    (An (BA (PW.pt (HJ (BU HP (pv 5) Ap (BJ _)) (HJ (BU Dd (pv 3) Br (BJ _)) (Jj (BU JN (pv 4) (pv 5) (BJ _)))))) (Az (AZ (Bl (Ab Br (Ab Ap Af))))) BE)
    (An (BA (BU Ri (pv 4) Ap (BJ _)) (Az (AZ (Bl (Ab Br (Ab Ap Af))))) BE)
    (Az (AZ (Bl (Ab Br (Ab (pv 4) Af))))))))))),?_⟩
   rfl';refine⟨_,N,rfl,?_⟩;dsimp only[Mn,HL,Hr,mC,mN];refine Jp (λσ' j=>σ'=[some (.ref o),some (.ref P),some (.ref b),some (.str a),some (.int t),some (.int (-1))]/\j=H) ?_ (λm d=>d _ _ ⟨rfl,rfl⟩);rintro σ Y ⟨rfl,rfl⟩;obtain⟨f,v⟩:∃f,f=if p.1=f' then u.getD p.2.toNat 0 else -1:=⟨_,rfl⟩;refine Jp (λσ' j=>σ'=[some (.ref o),some (.ref P),some (.ref b),some (.str a),some (.int t),some (.int f)]/\j=Y) ?_ (λm d=>?_);rotate_left;refine p5 (p4 ⟨_,.str p.1,D,rfl,rfl,rfl,As (λc=>?_) (λc=>?_)⟩);have e:p.1=f':=V.str.inj (BG c);obtain⟨S,p1⟩:=R e;obtain⟨k,T⟩:=Ea S;have Z:Bm (u.map V.int) p.2=some (.int f):=(by rw[v,Ag e,T,Bn];exact QH (by lia));exact p5 (p4 ⟨_,.int p.2,D,rfl,p4 ⟨_,.int f,O,Z,d _ _ ⟨rfl,rfl⟩⟩⟩);have e:¬p.1=f':=λe=>c (Bs (by rw[e]));refine d _ _ ⟨?_,rfl⟩;rw[v,Ah e];rintro σ x ⟨rfl,rfl⟩;refine Jp (λσ' j=>σ'=[some (.ref o),some (.ref P),some (.ref b),some (.str a),some (.int (CL a t f)),some (.int f)]/\j=x) ?_ (λm d=>?_);rotate_left
   . have J:(a=k'\/(0<=f/\a=o2))->m [some (.ref o),some (.ref P),some (.ref b),some (.str a),some (.int f),some (.int f)] x:=λh=>d _ _ ⟨by unfold CL;rw[Ag h],rfl⟩
     have no:¬(a=k'\/(0<=f/\a=o2))->m [some (.ref o),some (.ref P),some (.ref b),some (.str a),some (.int t),some (.int f)] x:=λh=>d _ _ ⟨by unfold CL;rw[Ah h],rfl⟩;refine⟨rfl,rfl,As (λc=>Ch ?_) (λc=>?_)⟩;exact J (.inl (V.str.inj (BG c)));have G:¬a=k':=λe=>c (Bs (by rw[e]));refine⟨rfl,As (λl=>?_) (λl=>Bi ?_)⟩;rotate_left;exact no λz=>z.elim G λy=>l (Bs y.1);have U:0<=f:=BG l;refine⟨rfl,rfl,As (λg=>?_) (λg=>?_)⟩;exact J (.inr ⟨U,V.str.inj (BG g)⟩);exact no λz=>z.elim G λy=>g (Bs (by rw[y.2]))
   rintro σ A ⟨rfl,rfl⟩;have C:∀k,FP a t f=k->∀r,A r=none->Q (.ref r) (upd A r (.tup [.str k.1,.int k.2])):=λk W r s=>q r _ f s (A0 s) v (by rw[Aa,W]);have go:¬(0<=f/\a=o7/\CL a t f≠f)->FP a t f=if CL a t f<0 then(p0,0) else("thing",CL a t f):=λh=>Ah h;refine Jp (λσ' j=>σ'=[some (.ref o),some (.ref P),some (.ref b),some (.str a),some (.int (CL a t f)),some (.int f)]/\j=A/\FP a t f=if CL a t f<0 then(p0,0) else("thing",CL a t f)) ?_ (λm d=>?_);rotate_left
   . refine⟨rfl,As (λB=>?_) (λB=>Bi ?_)⟩
     rotate_left;exact d _ _ ⟨rfl,rfl,go λz=>B (Bs z.1)⟩;refine⟨rfl,rfl,As (λl=>?_) (λl=>Bi ?_)⟩;rotate_left;exact d _ _ ⟨rfl,rfl,go λz=>l (Bs (by rw[z.2.1]))⟩;refine⟨rfl,rfl,As (λg=>?_) (λg=>?_)⟩;rotate_left;exact d _ _ ⟨rfl,rfl,go λz=>g (by rw[DL λy=>z.2.2 (V.int.inj y)];rfl)⟩;have X:CL a t f≠f:=λz=>by rw[z] at g;simp at g
     exact⟨BP,C (p2,0) (Ag ⟨BG B,V.str.inj (BG l),X⟩)⟩
   rintro σ H4 ⟨rfl,rfl,I⟩;refine⟨rfl,As (λc=>?_) (λc=>?_)⟩;exact⟨BP,C (p0,0) (I.trans (Ag (BG c)))⟩;exact⟨BP,C (f',CL a t f) (I.trans (Ah λz=>c (Bs z)))⟩
def NN{a:Nat->Str}{b pt:Nat->Int}{p:Str×Int}{f:Int}(r:0<=b i)(l:p.1=f'->0<=p.2/\p.2<n)(e:f=if p.1=f' then pt p.2.toNat else -1):FP (a i) (b i) f=gS n a b pt i p:=by
 have s:¬o7=k':=(by decide +kernel);have t:¬o7=o2:=(by decide +kernel);unfold gS KY;by_cases g:0<=f;have j:p.1=f':=p9 λz=>by rw[Ah z] at e;lia
 rw[Ag j] at e;have m:p.2.toNat<n:=by have:=l j;lia
 rw[Ag ⟨j,m,by rw[<-e];exact g⟩];dsimp only;rw[<-e];unfold FP CL;by_cases d:a i=k'\/a i=o2;have k:a i=k'\/(0<=f/\a i=o2):=d.elim .inl λz=>.inr ⟨g,z⟩;rw[Ag k,Ah (λz=>z.2.2 rfl),Ah (by lia),Ag d];have k:¬(a i=k'\/(0<=f/\a i=o2)):=λz=>d (z.elim .inl λy=>.inr y.2);rw[Ah k,Ah d];by_cases h:a i=o7/\b i≠f;rw[Ag ⟨g,h⟩,Ag h];rw[Ah (λz=>h z.2),Ah h,Ah (by lia)];have o:¬(p.1=f'/\p.2.toNat<n/\0<=pt p.2.toNat):=λz=>by rw[Ag z.1] at e;lia
 rw[Ah o];dsimp only
 have q:CL (a i) (b i) f=if a i=k' then f else b i:=by
  unfold CL;by_cases c:a i=k';rw[Ag (show a i=k'\/(0<=f/\a i=o2) from .inl c),Ag c];rw[Ah (show ¬(a i=k'\/(0<=f/\a i=o2)) from λz=>z.elim c λy=>g y.1),Ah c]
 unfold FP;rw[Ah (λz=>g z.1),q];by_cases d:a i=k';rw[show(if a i=k' then f else b i)=f from Ag d,Ag (show f<0 by lia)];exact(Ag d).symm;rw[show(if a i=k' then f else b i)=b i from Ah d,Ah (show ¬b i<0 by lia)];exact(Ah d).symm
set_option tactic.hygienic true in
def QI{c:Nat->Str}{b pt:Nat->Int}{p:Str×Int}(d:0<=b i/\b i<n)(l:∀k,k<n->pt k<n)(e:(gS n c b pt i p).1=f'):0<=(gS n c b pt i p).2/\(gS n c b pt i p).2<n:=by
 unfold gS at e ⊢;cases a:KY n pt p with|none=>rw[a] at e;dsimp only at e ⊢;split at e;exact absurd e P7;rename_i h;rw[Ah h];exact d|some f=>rw[a] at e;dsimp only at e ⊢;unfold KY at a;split at a;rename_i g;cases a;have:=l _ g.2.1;split at e;rename_i h;rw[Ag h];exact⟨g.2.2,this⟩;rename_i h;rw[Ah h];split at e;exact absurd e RM;rename_i j;rw[Ah j];exact d;cases a
def Dj (lk:Nat->Nat) (i:Nat):Nat->Nat
 |0=>i
 |k+1=>lk (Dj lk i k)
theorem Jb(lk:Nat->Nat)(i:Nat):∀k,Dj lk (lk i) k=Dj lk i (k+1)
 |0=>rfl
 |k+1=>by show lk (Dj lk (lk i) k)=_;rw[Jb lk i k];rfl
theorem Zw{lk:Nat->Nat}{bt:Nat->C'}{g:Nat->Str×Int->Str×Int}:∀(f i:Nat),(∀j,j<f->bt (Dj lk i j)=none)->dq lk bt g f i=none
 |0,_,_=>rfl
 |f+1,i,h=>by unfold dq;rw[show bt i=none from h 0 (by lia)];dsimp only;rw[Zw f (lk i) λj a=>by rw[Jb];exact h (j+1) (by lia)];rfl
theorem Zx{lk:Nat->Nat}{bt:Nat->C'}{g:Nat->Str×Int->Str×Int}{z:(Str×Int)×Nat}:∀(f i:Nat),dq lk bt g f i=some z->dq lk bt g (f+1) i=some z
 |0,i,h=>by cases h
 | f + 1,i,h=>by
   unfold dq at h ⊢
   cases e:bt i with
   |some p=>rw[e] at h;exact h
   |none=>
    rw[e] at h;dsimp only at h ⊢;cases a:dq lk bt g f (lk i) with|none=>rw[a] at h;cases h|some y=>rw[a] at h;rw[Zx f _ a];exact h
variable {lk:Nat->Nat}
def K9{bt:Nat->C'}{g:Nat->Str×Int->Str×Int}{z:(Str×Int)×Nat}{f:Nat}(h:dq lk bt g f i=some z):∀{a:Nat},f<=a->dq lk bt g a i=some z:=λ{a}b=>by
 induction b with|refl=>exact h|step _ c=>exact Zx _ _ c
def Dk (lk:Nat->Nat) (i k:Nat):F':=(List.range k).map λj=>((Dj lk i j:Nat):Int)
def OT(lk:Nat->Nat)(i k:Nat):(Dk lk i k).length=k:=by unfold Dk;rw[Am,p6]
def Zy(lk:Nat->Nat)(i k:Nat):Dk lk i (k+1)=Dk lk i k++[((Dj lk i k:Nat):Int)]:=by unfold Dk;rw[List.range_succ,Ba];rfl
def Zz{k:Nat}(h:j<k):(Dk lk i k)[j]?=some ((Dj lk i j:Nat):Int):=by unfold Dk;rw[AQ,p8 h];rfl
theorem VU{lk:Nat->Nat}{n i:Nat}(lt:∀i,i<n->lk i<n)(h:i<n):∀k,Dj lk i k<n
 |0=>h
 |k+1=>lt _ (VU lt h k)
def VW{k:Nat}:Bm ((Dk lk i (k+1)).map V.int) (-1)=some (.int (Dj lk i k:Nat)):=Uw (by rw[Am,OT,AQ,Nat.add_sub_cancel,Zz (OV k)];rfl)
inductive EO (K:Aj) (vs:U') (H:Hp) (Q:VK):Prop where
 |mk (L O P:Addr) (to:I') (n i:Nat) (lk:Nat->Nat) (wd:Nat->Str) (th pt:Nat->Int) (h0:vs=[.ref L,.ref O,.ref P,.int i]) (h1:H L=some (.lst ((Fp lk n).map V.int))) (h2:H O=some (.lst (to.map V.ref))) (h3:GT H to ((List.range n).map λi=>(wd i,th i))) (h4:H P=some (.lst (((List.range n).map pt).map V.int))) (h5:i<n) (h6:n<=40) (h7:(∀i,i<n->lk i<n)) (h8:(∀i,i<n->0<=th i/\th i<n)) (h9:(∀i,i<n->pt i<n)) (h10:∀(t:Addr)(v:V)(H':Hp),H t=none->Ac H H'->H' t=some (.tup [v,.int (LR lk (G0 wd th) (gS n wd th pt) (n+1) i)])->A9 GZ H' v (B4 (HA lk (G0 wd th) (gS n wd th pt) (n+1) i))->Q (.ref t) H'):EO K vs H Q
def jW (K:Aj):Sp:=λvs H Q _=>EO K vs H Q
abbrev Sk(P w K mg base):=BL P w K mg base "_law_due" 2 ["_law_links", "_law_own", "_law_parts_here", "_law_i"] (jW K)
theorem jX(B:BO mg)(ao:VT P w K mg base)(F:By K "_law_due" "_law_due" SM f fd)(R:mg "_law_due" = some (.ref f)):Sk P w K mg base:=by
 refine B8 F R Qs (λvs H al an h=>?_) (λa7 a4 aA s H vs al an t h=>?_);obtain⟨L,O,P,G,n,i,lk,a,b,pt,rfl,_⟩:=h;rfl;obtain⟨L,O,P,G,n,i,lk,a,b,pt,rfl,eL,S,TO,eP,hi,a8,lt,Y,aq,ag⟩:=h;have a9:G.length=n:=(by rw[TO.len,Am,p6])
 have own:∀{d:Hp}{k:Nat},Ac H d->k<n->∃v,Bm (G.map V.ref) (k:Int)=some (.ref v)/\d v=some (.tup [.str (a k),.int (b k)]):=λ{d k}s hk=>by
  have eta:=AD (show k<G.length by lia);exact⟨_,A8 (by rw[AQ,eta];rfl),s _ _ (TO.at_ k _ (a k,b k) eta (by rw[AQ,p8 hk];rfl))⟩
 refine⟨_,(An (AU (i:=4) Qs.nd (BV (Ab (pv 3) Af)))
  (An (O8 CP (BU JN (At Au (At Au (pv 1) (At Au (pv 4) (GG GH Ap))) Ap) Br (BJ _)) (An (BA (BU Lp (Cv F7 B.b_len (Ab (pv 4) Af)) (Cv F7 B.b_len (Ab (pv 0) Af)) (BJ _)) (Az (AZ (Bl (Ab GA (Ab Ap Af))))) BE)
   (Az (DR (Ds DM E9 Fa Fc (pv 4) (Ab (At Au (pv 0) (At Au (pv 4) (GG GH Ap))) Af))))))
  (An (AU (i:=5) Qs.nd (Bl (Ab Br (Ab (At Au (At Au (pv 1) (At Au (pv 4) (GG GH Ap))) Ap) Af))))
  (An (Dr CP rfl (Nt rfl B.b_reversed (Ab (Of Oh (pv 4) Od (Oe (GG GH Ap))) Af)) (Aw (i:=6) Qs.nd) (Az (AU (i:=5) Qs.nd (A7 ao (Ab (At Au (pv 1) (pv 6)) (Ab (pv 2) (Ab (pv 5) Af)))))))
  (Az (AZ (Bl (Ab (pv 5) (Ab (Cv F7 B.b_len (Ab (pv 4) Af)) Af))))))))),?_⟩
 rfl';refine⟨GW,λD hD=>?_⟩;have s1:=A0 (o:=.lst [.int (i:Int)]) hD;have eD:(upd H D (.lst [.int (i:Int)])) D=some (.lst ((Dk lk i (0+1)).map V.int)):=Aa;generalize upd H D (.lst [.int (i:Int)])=a5 at s1 eD ⊢;refine⟨λmm σ d=>∃k:Nat,σ=[some (.ref L),some (.ref O),some (.ref P),some (.int i),some (.ref D),none,none]/\Ac H d/\d D=some (.lst ((Dk lk i (k+1)).map V.int))/\k<=n/\(∀j,j<k->a (Dj lk i j)≠n8)/\mm=n+1-k,⟨_,0,rfl,s1,eD,Dp _,(λj hj=>by lia),rfl⟩,?_⟩;refine λmm σ H2 E=>AO λNz l=>?_;obtain⟨k,rfl,g,q,hk,ah,rfl⟩:=E;refine l ?_;clear l;have Z:=VU lt hi k;obtain⟨v,a1,a2⟩:=own g Z;have Q:((Dk lk i (k+1)).map V.int).length=k+1:=(by rw[Am,OT]);refine p4 ⟨_,.int _,Ae.of q,VW,p4 ⟨_,.ref v,Ae.of (g _ _ S),a1,p5 (p4 ⟨_,.str (a (Dj lk i k)),Ar.of a2,rfl,rfl,rfl,As (λc=>?_) (λc=>?_)⟩)⟩⟩;have T:a (Dj lk i k)≠n8:=λz=>by rw[z] at c;simp at c
 have ak:∀j,j<k+1->a (Dj lk i j)≠n8:=λj hj=>by
  by_cases e:j=k;rw[e];exact T;exact ah j (by lia)
 refine⟨_,λ_ _ z=>z,_,p4 ⟨_,Ae.of q,rfl⟩,_,p4 ⟨_,Ae.of (g _ _ eL),rfl⟩,rfl,As (λy=>?_) (λy=>?_)⟩;have ai:=BG y;rw[Q,Am,R8] at ai;have ek:k=n:=(by lia);have A:dq lk (G0 a b) (gS n a b pt) (n+1) i=none:=Zw _ _ λj hj=>Ah (ak j (by lia));refine⟨BP,λr t=>?_⟩;have C:=A0 (o:=.tup [.non,.int 0]) t;refine ag r .non _ (g.free t) (g.trans C) ?_ ?_;rw[Aa];unfold LR;rw[A];unfold HA;rw[A];exact .non;have ai:¬(k+1:Nat) > n:=λz=>y (Bs (by rw[Q,Am,R8];lia));refine⟨p4 ⟨rfl,_,Ae.of q⟩,p4 ⟨_,.int _,Ae.of q,VW,p4 ⟨_,.int _,Ae.of (g _ _ eL),R9 Z,_,q,by rw[Q];exact Bz (by lia),?_⟩⟩⟩;refine⟨n+1-(k+1),by lia,k+1,rfl,λa6 o e=>by rw[AC (A3 e hD)];exact g _ _ e,?_,by lia,ak,rfl⟩;rw[Aa,Zy lk i (k+1),Ba];rfl;have T:a (Dj lk i k)=n8:=p9 λz=>c (by rw[DL λe=>z (V.str.inj e)];rfl);refine p4 ⟨_,.int _,Ae.of q,VW,p4 ⟨_,.ref v,Ae.of (g _ _ S),a1,p5 (p4 ⟨_,.int (b (Dj lk i k)),Ar.of a2,rfl,BP,λI ar=>?_⟩)⟩⟩;obtain⟨H3,au,C,av⟩:=new_at (o:=.tup [.str "thing",.int (b (Dj lk i k))]) ar;rw[<-au];refine⟨_,rfl,D,_,rfl,Ae.of (C _ _ q),λsl aw=>?_⟩;have a0:EE ((Dk lk i (k+1)).map V.int) none (some (-1))=(Dk lk i k).map V.int:=by rw[cQ,Zy,Ba];exact List.dropLast_concat
 rw[a0];obtain⟨H4,ax,U,aj⟩:=new_at (o:=.lst ((Dk lk i k).map V.int)) aw;rw[<-ax];have a3:=U _ _ av;have aa:=g.trans (C.trans U);have b0:G0 a b (Dj lk i k)=some (f',b (Dj lk i k)):=Ag T;refine⟨sl,_,rfl,Ae.of aj,KX (xs:=(Dk lk i k).map V.int) (λm σ d=>∃(I:Addr)(W:V')(p:Str×Int),σ=[some (.ref L),some (.ref O),some (.ref P),some (.int i),some (.ref D),some (.ref I),W]/\Ac H4 d/\d I=some (.tup [.str p.1,.int p.2])/\m<=k/\(p.1=f'->0<=p.2/\p.2<n)/\dq lk (G0 a b) (gS n a b pt) (m+1) (Dj lk i (k-m))=some (p,m+1)) ⟨I,none,(f',b (Dj lk i k)),rfl,Ac.refl _,a3,Dp _,(λ_=>Y _ Z),(by unfold dq;rw[Nat.sub_zero,b0])⟩ (λm σ d _ ay=>by obtain⟨_,_,_,_,s,_⟩:=ay;exact Ae.of (s _ _ aj)) ?_ ?_⟩;refine λm x σ H5 X E=>AO λNz l=>?_;obtain⟨M,W,p,rfl,u,af,R,N,hd⟩:=E;refine l ?_;clear l;have az:m<k:=(by have:=(AV.mp X).1;rw[List.length_reverse,Am,OT] at this;exact this);have ex:x=.int (Dj lk i (k-(m+1)):Nat):=(by rw[<-List.map_reverse,AQ,List.getElem?_reverse (by rw[OT];exact az),OT,show k-1-m=k-(m+1) by lia,Zz (by lia)] at X;exact(Bt X).symm);subst ex;have ab:=VU lt hi (k-(m+1));have ae:=aa.trans u;obtain⟨tb,c1,y⟩:=own ae ab;refine p4 ⟨_,.ref tb,Ae.of (ae _ _ S),c1,tb,P,M,a (Dj lk i (k-(m+1))),b (Dj lk i (k-(m+1))),(List.range n).map pt,p,rfl,Ar.of y,Ae.of (ae _ _ eP),Ar.of af,(λe=>by rw[Am,p6];exact N e),λr H6 f t J ef er=>?_⟩
 have eg:FP (a (Dj lk i (k-(m+1)))) (b (Dj lk i (k-(m+1)))) f=gS n a b pt (Dj lk i (k-(m+1))) p:=NN (Y _ ab).1 N (by
  rw[ef];by_cases e:p.1=f';rw[Ag e,Ag e,CU,AQ,p8 (by have:=N e;lia)];rfl;rw[Ah e,Ah e])
 rw[eg] at er;refine⟨r,_,gS n a b pt (Dj lk i (k-(m+1))) p,rfl,u.trans J,er,by lia,(λe=>QI (Y _ ab) aq e),?_⟩;have bn:G0 a b (Dj lk i (k-(m+1)))=none:=Ah (ah _ (by lia));unfold dq;rw[bn];dsimp only;rw[show lk (Dj lk i (k-(m+1)))=Dj lk i (k-m) by rw[show k-m=k-(m+1)+1 by lia];rfl,hd];rfl;refine λσ H5 E=>AO λNz l=>?_;obtain⟨M,W,p,rfl,u,af,R,N,hd⟩:=E;refine l ?_;clear l;rw[Am,OT,Nat.sub_self] at hd;have A:dq lk (G0 a b) (gS n a b pt) (n+1) i=some (p,k+1):=K9 hd (by lia);refine⟨_,p4 ⟨_,Ae.of ((C.trans (U.trans u)) _ _ q),rfl⟩,BP,λr t=>?_⟩;rw[Q];have J:=A0 (o:=.tup [.ref M,.int ((k+1:Nat):Int)]) t;refine ag r (.ref M) _ ((aa.trans u).free t) ((aa.trans u).trans J) ?_ ?_;rw[Aa];unfold LR;rw[A];unfold HA;rw[A];exact .tup (J _ _ af) (.cons (.str _) (.cons (.int _) .nil))
inductive DD (K:Aj) (vs:U') (H:Hp) (Q:VK):Prop where
 |mk (t a o:Addr) (inn:V) (ss:List Ew) (n:Int) (k:Nat) (s:Ew) (x:Str) (h0:vs=[.ref t,.int n,.str x]) (h1:n=k) (h2:Ar K H t [.ref a,inn,.ref o]) (h3:Ig K H a ss) (h4:ss[k]?=some s) (h5:Q (Eo (En s.1 x)) H):DD K vs H Q
def jY (K:Aj):Sp:=λvs H Q _=>DD K vs H Q
abbrev Sl(P w K mg base):=BL P w K mg base "next_state" 1 ["table", "state", "label"] (jY K)
theorem jZ(aa:BO mg)(F:By K "next_state" "next_state" SN f fd)(C:mg "next_state" = some (.ref f)):Sl P w K mg base:=by
 refine B8 F C Sd (λl H Q E h=>?_) (λaf ab ag s H l Q E hr h=>?_);obtain⟨t,a,o,U,D,n,k,s,x,rfl,_⟩:=h;rfl;obtain⟨t,a,o,U,D,n,k,s,x,rfl,rfl,G,⟨l,I,J⟩,L,q⟩:=h;obtain⟨v,M,W⟩:=J.get' (i:=k) (d:=Ly s) (by rw[AQ,L];rfl);obtain⟨N,g,e,rfl,X,⟨O,u,B⟩,he⟩:=F9 W;have Y:=B.len_map
 refine⟨_,(An (AU (i:=3) Sd.nd (At Au (At Au (At Au (pv 0) Ap) (pv 1)) Ap))
  (An (Dr CP rfl (DN (pv 3)) (Cb (n:=2) rfl (AE (Aw (i:=4) Sd.nd) (AE (Aw (i:=5) Sd.nd) Ca))) (Az (BA (BU Dd (pv 4) (pv 2) (BJ _)) (Az (AZ (pv 5))) BE)))
  (Az (AZ GA)))),?_⟩
 rfl';refine p5 (p4 ⟨_,.ref a,G,rfl,?_⟩);refine p4 ⟨l,.ref N,I,A8 M,?_⟩;refine p5 (p4 ⟨_,.ref g,X,rfl,?_⟩);refine⟨⟨_,u⟩,F5 (xs:=O) (λi σ y=>∃m r,σ=[some (.ref t),some (.int k),some (.str x),some (.ref g),m,r]/\y=H/\∀q∈s.1.take i,q.1≠x) ⟨none,none,rfl,rfl,λq b=>by simp at b⟩ (λi σ y _ Z=>by obtain⟨_,_,_,e,_⟩:=Z;exact by rw[e];exact u) ?_ ?_⟩;rintro i ae σ R S ⟨m,r,rfl,rfl,j⟩;obtain⟨p,t',A,rfl,T⟩:=B.goes_get S;refine⟨_,T,rfl,?_⟩;refine⟨rfl,rfl,?_⟩;refine As (λc=>?_) (λc=>?_);have c:p.1=x:=V.str.inj (BG c);rw[Im A c j] at q;exact q;have c:p.1≠x:=λz=>c (Bs (by rw[z]));refine⟨_,_,rfl,rfl,λq b=>?_⟩;rw[E8,A] at b;rcases B0.mp b with b|b;exact j q b;rw[AR.mp b];exact c;rintro σ R ⟨m,r,rfl,rfl,j⟩;rw[Y,EU] at j;rw[Xz j] at q;exact q
inductive Cm (K:Aj) (vs:U') (H:Hp) (Q:VK):Prop where
 |mk (t S T R A:Addr) (ths:K') (as:List (C')) (n:Int) (k:Nat) (h0:vs=[.ref t,.ref A,.int n]) (h1:n=k) (h2:k<as.length) (h3:Ar K H t [.ref S,.ref T,.ref R]) (h4:EG K H T ths) (h5:Hy K H A as) (h6:Fe ths as) (h7:∀(r:Addr)(H':Hp),H r=none->Ac H H'->H' r=some (.tup [.str (Ec ths as n).1,.int (Ec ths as n).2])->Q (.ref r) H'):Cm K vs H Q
def j0 (K:Aj):Sp:=λvs H Q _=>Cm K vs H Q
abbrev VX(P w K mg base):=BL P w K mg base "inside_of_sort" 1 ["net", "answers", "question"] (j0 K)
def j1(B:BO mg)(F:By K "inside_of_sort" "inside_of_sort" SO f fd)(c:mg "inside_of_sort" = some (.ref f)):VX P w K mg base:=by
 refine B8 F c Se (λg H Q E h=>?_) (λaa A ab s H g Q E a h=>?_);obtain⟨t,S,T,R,A,e,x,n,k,rfl,_⟩:=h;rfl;obtain⟨t,S,T,R,A,e,x,n,k,rfl,rfl,y,C,D,G,ok,q⟩:=h;obtain⟨g,v,N,I,L⟩:=G.get y
 refine⟨_,(An (AU (i:=3) Se.nd (At Au (pv 1) (pv 2)))
  (An (BA (FU (GB (pv 3))) (Az (AZ (Bl (Ab Br (Ab (pv 2) Af))))) BE)
  (An (BA (BU Dd (At Au (pv 3) Ap) Br (BJ _)) (An (Dl (At Au (At Au (pv 0) Ap) (At Au (pv 3) Ap)) (Cb (n:=2) rfl (AE (Aw (i:=4) Se.nd) (AE (Aw (i:=5) Se.nd) Ca))))
   (Az (BA (BU Dd (pv 4) Br (BJ _)) (Az (AZ (Bl (Ab Br (Ab (pv 5) Af))))) BE))) BE)
  (Az (AZ (Bl (Ab Br (Ab Ap Af)))))))),?_⟩
 rfl';refine p4 ⟨g,v,N,A8 I,?_⟩;rcases L with⟨b,rfl⟩|⟨p,Z,b,rfl,u⟩;refine⟨rfl,As (λ_=>?_) (λh=>absurd (Bs rfl) h)⟩;refine⟨BP,λr a=>?_⟩;rw[dG b] at q;exact q r _ a (A0 a) Aa;refine⟨rfl,As (λh=>absurd (BG h) (by simp)) (λ_=>?_)⟩;refine p5 (p4 ⟨_,.str p.1,u,rfl,rfl,rfl,As (λh=>?_) (λh=>?_)⟩);have d:p.1=f':=V.str.inj (BG h);obtain⟨M,p1⟩:=ok.t p (Bf b) d;obtain⟨m,c⟩:=Ea M;have O:m<e.length:=(by lia);have j:=AD O;obtain⟨J,o,U,W,X⟩:=D.get j;have Y:Bm J p.2=some (.ref o):=by rw[c];exact A8 W
 refine p5 (p4 ⟨_,.ref T,C,rfl,p5 (p4 ⟨_,.int p.2,u,rfl,p4 ⟨J,.ref o,U,Y,?_⟩⟩)⟩);refine⟨_,X,rfl,?_⟩;refine⟨rfl,rfl,As (λh=>?_) (λh=>?_)⟩;have l:e[m].1=o5:=V.str.inj (BG h);refine⟨BP,λr a=>?_⟩;rw[dI b d c j l] at q;exact q r _ a (A0 a) Aa;have l:e[m].1≠o5:=λz=>h (Bs (by rw[z]));refine⟨BP,λr a=>?_⟩;rw[dJ b d c j l] at q;exact q r _ a (A0 a) Aa;have d:p.1≠f':=λz=>h (Bs (by rw[z]));refine⟨BP,λr a=>?_⟩;rw[dH b d] at q;exact q r _ a (A0 a) Aa
inductive Gk (K:Aj) (vs:U') (H:Hp) (Q:VK):Prop where
 |mk (t S T R A:Addr) (ths:K') (as:List (C')) (n:Int) (k:Nat) (p:Str×Int) (h0:vs=[.ref t,.ref A,.int n]) (h1:n=k) (h2:ths[k]?=some p) (h3:Ar K H t [.ref S,.ref T,.ref R]) (h4:EG K H T ths) (h5:Hy K H A as) (h6:Fe ths as) (h7:∀(r:Addr)(H':Hp),H r=none->Ac H H'->H' r=some (.tup [.str (Df ths as p).1,.int (Df ths as p).2])->Q (.ref r) H'):Gk K vs H Q
def j2 (K:Aj):Sp:=λvs H Q _=>Gk K vs H Q
abbrev Sm(P w K mg base):=BL P w K mg base "inside" 2 ["net", "answers", "thing"] (j2 K)
def j3(B:BO mg)(C:VX P w K mg base)(F:By K "inside" "inside" SQ f fd)(g:mg "inside" = some (.ref f)):Sm P w K mg base:=by
 refine B8 F g VH (λu H Q E h=>?_) (λM A N s H u Q E a h=>?_);obtain⟨t,S,T,R,A,c,b,n,k,p,rfl,_⟩:=h;rfl;obtain⟨t,S,T,R,A,c,b,n,k,p,rfl,rfl,j,l,o,v,ok,q⟩:=h;obtain⟨J,x,D,G,I⟩:=o.get j
 refine⟨_,(An (Dl (At Au (At Au (pv 0) Ap) (pv 2)) (Cb (n:=2) rfl (AE (Aw (i:=3) VH.nd) (AE (Aw (i:=4) VH.nd) Ca))))
  (An (BA (BU Dd (pv 3) Br (BJ _)) (Az (AZ (Bl (Ab Br (Ab (pv 4) Af))))) BE)
  (An (BA (BU Dd (pv 3) Br (BJ _)) (Az (AZ (A7 C (Ab (pv 0) (Ab (pv 1) (Ab (pv 4) Af)))))) BE)
  (Az (AZ (Bl (Ab Br (Ab Ap Af)))))))),?_⟩
 rfl';refine p5 (p4 ⟨_,.ref T,l,rfl,p4 ⟨J,.ref x,D,A8 G,?_⟩⟩);refine⟨_,I,rfl,?_⟩;refine⟨rfl,rfl,As (λh=>?_) (λh=>?_)⟩;have d:p.1=o5:=V.str.inj (BG h);refine⟨BP,λr a=>?_⟩;rw[show Df c b p=(j',p.2) from Ag d] at q;exact q r _ a (A0 a) Aa;have d:p.1≠o5:=λz=>h (Bs (by rw[z]));refine⟨rfl,rfl,As (λh=>?_) (λh=>?_)⟩;have e:p.1=o8:=V.str.inj (BG h);obtain⟨y,L⟩:=ok.q p (Bf j) e;obtain⟨m,g⟩:=Ea y;rw[show Df c b p=Ec c b p.2 from(Ah d).trans (Ag e)] at q;exact⟨t,S,T,R,A,c,b,p.2,m,rfl,g,by lia,l,o,v,ok,q⟩;have e:p.1≠o8:=λz=>h (Bs (by rw[z]));refine⟨BP,λr a=>?_⟩;rw[show Df c b p=(o4,0) from(Ah d).trans (Ah e)] at q;exact q r _ a (A0 a) Aa
inductive Jc (K:Aj) (vs:U') (H:Hp) (Q:VK):Prop where
 |mk (t S T R A st:Addr) (ths:K') (as:List (C')) (p:Ci) (h0:vs=[.ref t,.ref A,.ref st]) (h1:Ar K H t [.ref S,.ref T,.ref R]) (h2:EG K H T ths) (h3:Hy K H A as) (h4:Fe ths as) (h5:Ar K H st (Hf p)) (h6:(p.2.1≠j'->0<=p.2.2/\p.2.2<as.length)) (h7:∀(r:Addr)(H':Hp),H r=none->Ac H H'->H' r=some (.tup [.str (Bu ths as p).1,.int (Bu ths as p).2])->Q (.ref r) H'):Jc K vs H Q
def La (K:Aj):Sp:=λvs H Q _=>Jc K vs H Q
abbrev VY(P w K mg base):=BL P w K mg base "goal" 3 ["net", "answers", "step"] (La K)
def j6(B:BO mg)(U:Sm P w K mg base)(F:By K "goal" "goal" SS f fd)(e:mg "goal" = some (.ref f)):VY P w K mg base:=by
 refine B8 F e Qt (λg H Q E h=>?_) (λaa A ab s H g Q E a h=>?_);obtain⟨t,S,T,R,A,D,o,u,p,rfl,_⟩:=h;rfl;obtain⟨t,S,T,R,A,D,o,u,p,rfl,G,I,x,ok,W,J,q⟩:=h
 refine⟨_,(An (Dl (pv 2) (Cb (n:=3) rfl (AE (Aw (i:=3) Qt.nd) (AE (Aw (i:=4) Qt.nd) (AE (Aw (i:=5) Qt.nd) Ca)))))
  (An (BA (BU Dd (pv 4) Br (BJ _)) (Az (AZ (Bl (Ab Br (Ab (pv 5) Af))))) BE)
  (An (AU (i:=6) Qt.nd (At Au (pv 1) (pv 5)))
  (An (BA (FU (GB (pv 6))) (Az (AZ (Bl (Ab Br (Ab (pv 5) Af))))) BE)
  (An (BA (BU Dd (At Au (pv 6) Ap) Br (BJ _)) (Az (AZ (A7 U (Ab (pv 0) (Ab (pv 1) (Ab (At Au (pv 6) Ap) Af)))))) BE)
  (Az (AZ (Bl (Ab Br (Ab Ap Af)))))))))),?_⟩
 rfl';refine⟨_,W,rfl,?_⟩;refine⟨rfl,rfl,As (λh=>?_) (λh=>?_)⟩;have b:p.2.1=j':=V.str.inj (BG h);refine⟨BP,λr a=>?_⟩;rw[dM b] at q;exact q r _ a (A0 a) Aa;have b:p.2.1≠j':=λz=>h (Bs (by rw[z]));obtain⟨L,Z⟩:=J b;obtain⟨n,j⟩:=Ea L;obtain⟨g,v,X,M,N⟩:=x.get (k:=n) (by lia);have Y:Bm g p.2.2=some v:=by rw[j];exact A8 M
 refine p4 ⟨g,v,X,Y,?_⟩;rcases N with⟨d,rfl⟩|⟨c,ta,d,rfl,y⟩;refine⟨rfl,As (λ_=>?_) (λh=>absurd (Bs rfl) h)⟩;refine⟨BP,λr a=>?_⟩;rw[Xq b j d] at q;exact q r _ a (A0 a) Aa;refine⟨rfl,As (λh=>absurd (BG h) (by simp)) (λ_=>?_)⟩;refine p5 (p4 ⟨_,.str c.1,y,rfl,rfl,rfl,As (λh=>?_) (λh=>?_)⟩);have l:c.1=f':=V.str.inj (BG h);obtain⟨O,q1⟩:=ok.t c (Bf d) l;obtain⟨m,e⟩:=Ea O;have C:=AD (show m<o.length by lia);rw[dO b j d l e C] at q;exact p5 (p4 ⟨_,.int c.2,y,rfl,t,S,T,R,A,o,u,c.2,m,_,rfl,e,C,G,I,x,ok,q⟩);have l:c.1≠f':=λz=>h (Bs (by rw[z]));refine⟨BP,λr a=>?_⟩;rw[dN b j d l] at q;exact q r _ a (A0 a) Aa
def Lb:([]:U').length+1+1+1+1<=sizeLine:=by decide
variable {W:Wd}{s:Ew}
def j7{k:Nat}(h:W.sts[k]?=some s):Cw W (k:Int)=s.1:=by unfold Cw;rw[Bn,h]
def j8{k:Nat}{s:Bo}(h:W.ss[k]?=some s):BN W (k:Int)=s.1:=by unfold BN;rw[Bn,h]
def j9{b:Int}{go:K'}{p:Ci}{a:Int}(h:En go p.1=some a):EW W b go p i=[((b,o1,(i:Int)),Bu W.gs W.as p,a)]:=by unfold EW;rw[h]
def kA{a:Int}{go:K'}{p:Ci}(h:En go p.1=none):EW W a go p i=[]:=by unfold EW;rw[h]
inductive DE (K:Aj) (vs:U') (H:Hp) (Q:VK):Prop where
 |mk (nt A t:Addr) (W:Wd) (sc st:Int) (h0:vs=[.ref nt,.ref A,.ref t,.int sc,.int st]) (h1:Bv K H nt A t W) (h2:BS W) (h3:(0<=sc/\sc<W.ss.length)) (h4:(0<=st/\st<W.sts.length)) (h5:∀(D:Addr)(zs:List (Addr×Gn))(H':Hp),H D=none->Ac H H'->H' D=some (.lst (zs.map λz=>V.ref z.1))->(∀z∈zs,LF H' z.1 z.2)->zs.map (·.2)=EX W sc st->Q (.ref D) H'):DE K vs H Q
def kB (K:Aj):Sp:=λvs H Q _=>DE K vs H Q
abbrev So(P w K mg base):=BL P w K mg base "steps_gone" 4 ["net", "answers", "table", "scope", "state"] (kB K)
def kC(ak:BO mg)(a0:Sl P w K mg base)(a1:VY P w K mg base)(F:By K "steps_gone" "steps_gone" SU f fd)(c:mg "steps_gone" = some (.ref f)):So P w K mg base:=by
 refine B8 F c NB (λvs H al an h=>?_) (λaN A aP s H vs al an hr h=>?_);obtain⟨B,A,t,W,sc,ax,rfl,_⟩:=h;rfl
 . obtain⟨B,A,t,W,sc,ax,rfl,C,ok,a2,a3,ao⟩:=h
   obtain⟨S,aq,ar,us,Gs,Es,ts,qt,qs,eN,v⟩:=C.net;obtain⟨au,o,a4,b1,av,b2,b3⟩:=C.tab;obtain⟨n,hn⟩:=Ea a2.1;obtain⟨k,hk⟩:=Ea a3.1;subst hn hk;have T:n<W.ss.length:=(by lia);have a5:k<W.sts.length:=(by lia);obtain⟨aa,ab,E1,ay,aL,aM,g4,⟨c0,⟨tG,c1,E⟩,_⟩⟩:=v.sc.get T;have ae:=AD a5;have j:=j8 g4;have eG:=j7 ae;have a6:Bm (us.map V.ref) (n:Int)=some (.ref aa):=A8 (by rw[AQ,ay];rfl);have aO:=ok.st _ (Ez T)
   refine⟨_,(An (AU (i:=5) NB.nd (BV Af))
    (An (Dr CP rfl (OC LK rfl ak.b_enumerate (Ab (At Au (At Au (At Au (pv 0) Ap) (pv 3)) Ap) Af)) (Cb (n:=2) rfl (AE (Aw (i:=6) NB.nd) (AE (Aw (i:=7) NB.nd) Ca))) (An (AU (i:=8) NB.nd (A7 a0 (Ab (pv 2) (Ab (pv 4) (Ab (At Au (pv 7) Ap) Af)))))
     (Az (BA (FU (N9 (pv 8))) (An (Dl (A7 a1 (Ab (pv 0) (Ab (pv 1) (Ab (pv 7) Af)))) (Cb (n:=2) rfl (AE (Aw (i:=9) NB.nd) (AE (Aw (i:=10) NB.nd) Ca))))
      (Az (DR (Ds DM E9 Fa Fc (pv 5) (Ab (Bl (Ab (Bl (Ab (pv 3) (Ab Br (Ab (pv 6) Af)))) (Ab (pv 9) (Ab (pv 10) (Ab (pv 8) Af))))) Af))))) BE))))
    (Az (AZ (pv 5))))),?_⟩
   rfl';refine⟨by decide,λD G=>?_⟩;obtain⟨aI,a7,l,a8⟩:=new_at (o:=.lst []) G;rw[<-a7];refine p5 (p4 ⟨_,.ref S,Ar.of (l _ _ eN),rfl,p4 ⟨_,.ref aa,Ae.of (l _ _ v.sc.top),a6,p5 (p4 ⟨_,.ref ab,Ar.of (l _ _ c0),rfl,ab,rfl,⟨_,l _ _ c1⟩,?_⟩)⟩⟩)
   refine RH LK (xs:=tG.map V.ref) (λi σ y=>∃I J L M U b,σ=[some (.ref B),some (.ref A),some (.ref t),some (.int n),some (.int k),some (.ref D),I,J,L,M,U]/\Ac H y/\y D=some (.lst (b.map λz:Addr×Gn=>V.ref z.1))/\(∀z∈b,LF y z.1 z.2)/\b.map (·.2)=Ex W n (Cw W k) ((BN W n).take i) 0)
    ⟨none,none,none,none,none,[],rfl,l,a8,λz d=>by simp at d,by rw[EB];rfl⟩ (λi σ y a9=>by obtain⟨_,_,_,_,_,_,_,s,_⟩:=a9;exact Ae.of (s _ _ c1)) ?_ ?_
   rotate_left;refine λσ H2 X=>AO λNz r=>?_;obtain⟨I,J,L,M,U,b,rfl,N,u,d,c⟩:=X;refine r ?_;clear r;refine ao D b H2 G N u d ?_;rw[c,Am,E.len,j,EU];unfold EX;rw[j];refine λi x T' σ H2 hx aA X=>AO λNz r=>?_;obtain⟨I,J,L,M,U,b,rfl,N,u,d,c⟩:=X;refine r ?_;clear r;obtain⟨O,ag,rfl⟩:=getm hx;have ah:i<W.ss[n].1.length:=by rw[<-E.len];exact(AV.mp ag).1
   have Q:=AD ah;have Y:=E.at_ i O _ ag Q;have mp:=Ez ah;generalize W.ss[n].1[i]=p at Q Y mp;obtain⟨H3,aB,g,aC⟩:=new_at (o:=.tup [.int i,.ref O]) aA;rw[<-aB];have a:=N.trans g;have ai:Ex W n (Cw W k) ((BN W n).take (i+1)) 0=Ex W n (Cw W k) ((BN W n).take i) 0++EW W n (Cw W k) p i:=(by rw[E8,j,Q];show Ex W n (Cw W k) (W.ss[n].1.take i++[p]) 0=_;rw[XA,FQ,Nat.zero_add,Nat.min_eq_left (by lia)]);refine⟨_,Ar.of aC,rfl,?_⟩;refine p5 (p4 ⟨_,.str p.1,Ar.of (a _ _ Y),rfl,t,au,o,a4,W.sts,k,k,_,p.1,rfl,rfl,a.seqT b1,⟨av,a.seq b2,b3.same a⟩,ae,?_⟩);rw[<-eG]
   cases eg:En (Cw W k) p.1 with
   |none=>refine⟨rfl,As (λh=>absurd h (by simp[Eo])) (λ_=>?_)⟩;refine⟨_,_,_,_,_,b,rfl,a,g _ _ u,λz h=>(d z h).same g,?_⟩;rw[ai,kA eg,FA,c]
   |some af=>
    refine⟨rfl,As (λ_=>?_) (λh=>absurd (by simp[Eo]) h)⟩;refine⟨B,S,aq,ar,A,O,W.gs,W.as,p,rfl,Ar.of (a _ _ eN),⟨_,Ae.of (a _ _ v.et),(v.tg.same a).dts⟩,C.ans.same a,ok.net,Ar.of (a _ _ Y),λe=>ok.by_ (Ez T) mp e,λaJ H4 hr s4 er=>?_⟩;refine⟨_,Ar.of er,rfl,?_⟩;have aD:=s4 _ _ (g _ _ u);refine⟨p4 ⟨rfl,_,Ae.of aD⟩,GK,λm aE=>?_⟩;obtain⟨H5,aF,s5,az⟩:=new_at (o:=.tup [.int n,.str "step",.int i]) aE;rw[<-aF];refine⟨Lb,λz aG=>?_⟩;obtain⟨H6,aH,s6,ez⟩:=new_at (o:=.tup [.ref m,.str (Bu W.gs W.as p).1,.int (Bu W.gs W.as p).2,Eo (some af)]) aG;rw[<-aH];have Z:=(s4.trans s5).trans s6;have aj:=Z _ _ (g _ _ u);have R:Keeps (·=D) H6 (upd H6 D (.lst (b.map (λz=>V.ref z.1)++[.ref z]))):=Keeps.one aj;have lz:b.length<=8:=(by have e1:=Bw List.length c;have e2:=MX W n (Cw W k) ((BN W n).take i) 0;rw[FQ,j] at e2;rw[Am] at e1;rw[j] at e1;lia);refine⟨_,aj,by rw[Am];exact Bz (by lia),?_⟩;refine⟨_,_,_,_,_,b++[(z,(((n:Int),o1,(i:Int)),Bu W.gs W.as p,af))],rfl,λaK o e=>?_,by rw[Aa,Ba];rfl,λaw q=>?_,?_⟩;rw[AC (A3 e G)];exact Z _ _ (a _ _ e);rcases B0.mp q with q|q;exact((d aw q).same (g.trans Z)).keeps R;rw[AR.mp q];exact⟨m,R.tup ez,R.tup (s6 _ _ az)⟩;rw[ai,j9 eg,Ba,c];rfl
variable {b:AK}
def kE{r:Gn}(a:r.2.1.1=j')(c:r.2.1.2∉A5 b):kid b r=some (b.1++[r.1],r.2.1.2,r.2.2):=Ag ⟨a,c⟩
def kF{r:Gn}(h:¬(r.2.1.1=j'/\r.2.1.2∉A5 b)):kid b r=none:=Ah h
def Lc{β:Type}(f:α->Option β)(l:List α)(x:α):(l++[x]).filterMap f=l.filterMap f++(f x).toList:=by rw[List.filterMap_append];cases e:f x<;>simp[e]
def kG(b:AK):(A5 b).length=b.1.length+1:=by unfold A5;simp
inductive BZ (K:Aj) (vs:U') (H:Hp) (Q:VK):Prop where
 |mk (nt A t bt:Addr) (W:Wd) (b:AK) (h0:vs=[.ref nt,.ref A,.ref t,.ref bt]) (h1:Bv K H nt A t W) (h2:BS W) (h3:Dv W b) (h4:(∃F,DP F H bt b)) (h5:∀(D:Addr)(zs:List (Addr×AK))(H':Hp),H D=none->Ac H H'->H' D=some (.lst (zs.map λz=>V.ref z.1))->(∀z∈zs,DP (λl=>H l=none/\l≠D) H' z.1 z.2)->zs.map (·.2)=BK W b->Q (.ref D) H'):BZ K vs H Q
def kH (K:Aj):Sp:=λvs H Q _=>BZ K vs H Q
abbrev VZ(P w K mg base):=BL P w K mg base "longer_by_a_step" 5 ["net", "answers", "table", "beginning"] (kH K)
def kI(B:BO mg)(a2:So P w K mg base)(F:By K "longer_by_a_step" "longer_by_a_step" QY f fd)(d:mg "longer_by_a_step" = some (.ref f)):VZ P w K mg base:=by
 refine B8 F d Jx (λvs H ax ay h=>?_) (λaK A aO s H vs ax ay hr h=>?_);obtain⟨nt,A,t,bt,W,b,rfl,_⟩:=h;rfl
 . obtain⟨nt,A,t,bt,W,b,rfl,hC,ok,U,⟨F,l,g,E,q,j,_⟩,az⟩:=h
   have aL:g.length<=100:=(by have:=Kf W.ss.length (A5 b) U.nd U.rng;rw[kG] at this;have:=ok.s5;rw[j.len];lia);have a3:=U.rng b.2.1 (by unfold A5;simp)
   refine⟨_,(An (Dl (pv 3) (Cb (n:=3) rfl (AE (Aw (i:=4) Jx.nd) (AE (Aw (i:=5) Jx.nd) (AE (Aw (i:=6) Jx.nd) Ca)))))
    (An (AU (i:=7) Jx.nd (A2 Oi (GJ (te:=Ct (DT K) (AS 0) (tC (.int ((0:Nat):Int)))) rfl BI (DN (pv 4)) (λ_ _ _ _ _=>(Aw (i:=0) BI.nd)) (λ_ _ _ _ _=>FV) (λ_ _ _ _ _=>(At Au (pv 0) Ap))) (BV (Ab (pv 5) Af))))
    (An (AU (i:=8) Jx.nd (BV Af))
    (An (Dr CP rfl (DN (A7 a2 (Ab (pv 0) (Ab (pv 1) (Ab (pv 2) (Ab (pv 5) (Ab (pv 6) Af))))))) (Cb (n:=4) rfl (AE (Aw (i:=9) Jx.nd) (AE (Aw (i:=10) Jx.nd) (AE (Aw (i:=11) Jx.nd) (AE (Aw (i:=12) Jx.nd) Ca))))) (Az (BA (PW.pt (HJ (BU Dd (pv 10) Br (BJ _)) (Jj (BU (Xg hr.units) (pv 11) (pv 7) (by with_unfolding_all rfl))))) (Az (DR (Ds DM E9 Fa Fc (pv 8) (Ab (Bl (Ab (A2 Oi (pv 4) (BV (Ab (pv 9) Af))) (Ab (pv 11) (Ab (pv 12) Af)))) Af)))) BE)))
    (Az (AZ (pv 8))))))),?_⟩
   rfl';refine⟨_,Ar.of E,rfl,?_⟩
   refine⟨⟨_,Ae.of q⟩,Py (xs:=g.map V.ref) (λD i J p=>Ac H p/\p D=some (.lst J)/\J=(b.1.take i).map λm=>V.int m.1)
    (λD r=>⟨A0 r,Aa,by rw[EB];rfl⟩) (λD i J p af=>by obtain⟨s,_⟩:=af;exact Ae.of (s _ _ q)) (λD i x J H2 RR r M hv k=>?_) (λa0 J aH aM hv=>?_)⟩
   obtain⟨N,eD,rfl⟩:=hv;obtain⟨tm,ao,rfl⟩:=getm M;have a4:i<b.1.length:=by rw[<-j.len];exact(AV.mp ao).1
   have d:=AD a4;have a5:=j.at_ i tm _ ao d;have aa:b.1.take (i+1)=b.1.take i++[b.1[i]]:=by rw[E8,d];rfl
   have a6:=j.len;refine p5 (p4 ⟨_,.int b.1[i].1,Ar.of (N _ _ a5),rfl,?_⟩);refine k _ _ eD (by rw[Am,FQ];exact Bz (by lia)) ⟨λx o e=>?_,Aa,by rw[aa,Ba];rfl⟩;rw[AC (A3 e r)];exact N _ _ e;obtain⟨s1,eC,rfl⟩:=hv;rw[Am,j.len,EU] at eC;refine⟨GW,λC2 a7=>?_⟩;obtain⟨H2,a8,N,a9⟩:=new_at (o:=.lst [.int b.2.1]) a7;rw[<-a8];have a6:=j.len;refine⟨a0,C2,_,_,rfl,rfl,N _ _ eC,a9,?_,λB hB=>?_⟩;rw[Am];exact Cf (Bz (by show b.1.length+1<=1000;lia));have s3:=A0 (o:=.lst ((b.1.map λm=>V.int m.1)++[.int b.2.1])) hB
   have X:(upd H2 B (.lst ((b.1.map λm=>V.int m.1)++[.int b.2.1]))) B=some (.lst ((A5 b).map V.int)):=by
    rw[Aa];unfold A5;simp
   generalize upd H2 B (.lst ((b.1.map λm=>V.int m.1)++[.int b.2.1]))=H3 at s3 X ⊢;have aq:=(s1.trans N).trans s3;refine⟨by decide,λD r=>?_⟩;have ab:H D=none:=aq.free r;obtain⟨H4,aA,s4,ag⟩:=new_at (o:=.lst []) r;rw[<-aA];have ar:=aq.trans s4;refine⟨nt,A,t,W,b.2.1,b.2.2,rfl,hC.same ar,ok,a3,U.st,λaI u H5 hG Y eG aB au=>⟨⟨_,Ae.of eG⟩,?_⟩⟩;have ae:=ar.trans Y;have aN:u.length<=8:=(by have E:=Bw List.length au;have q:=MX W b.2.1 (Cw W b.2.2) (BN W b.2.1) 0;have j:=Rt ok b.2.1;rw[Am] at E;unfold EX at E;lia)
   refine F5 (xs:=u.map λz=>V.ref z.1) (λi σ p=>∃u9 ah ai aj a,σ=[some (.ref nt),some (.ref A),some (.ref t),some (.ref bt),some (.ref l),some (.int b.2.1),some (.int b.2.2),some (.ref B),some (.ref D),u9,ah,ai,aj]/\Keeps (·=D) H5 p/\p D=some (.lst (a.map λz:Addr×AK=>V.ref z.1))/\(∀z∈a,DP (λl=>H l=none/\l≠D) p z.1 z.2)/\a.map (·.2)=((u.map (·.2)).take i).filterMap (kid b))
    ⟨none,none,none,none,[],rfl,Keeps.refl λx o m e=>by rw[m,Y _ _ ag] at e;exact⟨_,(Bt e).symm⟩,Y _ _ ag,λz v=>by simp at v,by rw[EB];rfl⟩ (λi σ p _ af=>by obtain⟨_,_,_,_,_,_,k,_⟩:=af;exact Ae.of (k.at_ _ _ eG λz=>by rw[z,ag] at hG;cases hG)) ?_ ?_
   rotate_left;refine λσ H6 I=>AO λNz S=>?_;obtain⟨u9,ah,ai,aj,a,rfl,c,C,v,d⟩:=I;refine S ?_;clear S;refine az D a H6 ab (λx o e=>?_) C v ?_;exact c.at_ _ _ (ae _ _ e) (A3 e ab);rw[d,Am,<-Am (f:=(·.2)),EU,au];rfl;refine λi x σ H6 M I=>AO λNz S=>?_;obtain⟨u9,ah,ai,aj,a,rfl,c,C,v,d⟩:=I;refine S ?_;clear S;refine IJ ?_;intro Nx Cy;obtain⟨z,I,rfl⟩:=getm M;obtain⟨m,ak,al⟩:=aB z (Bf I);have ak:=c.tup ak;have al:=c.tup al;have aa:((u.map (·.2)).take (i+1)).filterMap (kid b)=((u.map (·.2)).take i).filterMap (kid b)++(kid b z.2).toList:=(by rw[E8,AQ,I];exact Lc _ _ _);have lz:a.length<=8:=(by have E:=Bw List.length d;have q:=List.length_filterMap_le (kid b) ((u.map (·.2)).take i);rw[FQ,Am] at q;rw[Am] at E;lia);refine⟨_,Ar.of ak,rfl,?_⟩
   have skip:¬(z.2.2.1.1=j'/\z.2.2.1.2∉A5 b)->a.map (·.2)=((u.map (·.2)).take (i+1)).filterMap (kid b):=λhn=>by
    rw[aa,kF hn,d];simp
   have aC:=c.at_ _ _ ((s4.trans Y) _ _ X) (λz=>by rw[z,r] at X;cases X);refine⟨rfl,rfl,As (λO=>?_) (λO=>Bi ?_)⟩;rotate_left;exact⟨_,_,_,_,a,rfl,c,C,v,skip λh=>O (Bs (by rw[h.1]))⟩;have O:z.2.2.1.1=j':=V.str.inj (BG O);refine⟨2,.int z.2.2.1.2,(A5 b).map Dt.int,B,_,λaJ hd=>?_,by decide,.int _,rfl,Ae.of aC,Ip _,rfl,As (λG=>?_) (λG=>?_)⟩;obtain⟨y,_,rfl⟩:=AW.mp hd;exact .int _ _;rotate_left;refine⟨_,_,_,_,a,rfl,c,C,v,skip λh=>G ?_⟩;rw[EV λz=>h.2 (GX.mp z)];rfl
   have G:z.2.2.1.2∉A5 b:=λz=>by
    rw[Eu (GX.mpr z)] at G;cases G
   have aD:=c.at_ _ _ (ae _ _ q) (A3 q ab);refine⟨p4 ⟨rfl,_,Ae.of C⟩,GW,λa1 hM=>?_⟩;obtain⟨H7,aE,Z,eM⟩:=new_at (o:=.lst [.ref m]) hM;rw[<-aE];refine⟨l,a1,_,_,rfl,rfl,Z _ _ aD,eM,by rw[Am];exact Cf (Bz (by show g.length+1<=1000;lia)),λL hL=>?_⟩
   have aF:H L=none:=by
    have h6:=Z.free hL;cases e:H L with|none=>rfl|some o=>rw[c.at_ _ _ (ae _ _ e) (A3 e ab)] at h6;cases h6
   have av:L≠D:=λy=>by rw[y,Z _ _ C] at hL;cases hL
   have s8:=A0 (o:=.lst (g.map V.ref++[.ref m])) hL;have eL:(upd H7 L (.lst (g.map V.ref++[.ref m]))) L=some (.lst ((g++[m]).map V.ref)):=by rw[Aa,Ba];rfl
   generalize upd H7 L (.lst (g.map V.ref++[.ref m]))=H8 at s8 eL ⊢;refine⟨GK,λan hr=>?_⟩;obtain⟨H9,aG,s9,er⟩:=new_at (o:=.tup [.ref L,.int z.2.2.1.2,.int z.2.2.2]) hr;rw[<-aG];have T:=(Z.trans s8).trans s9;have aw:=T _ _ C;have Q:Keeps (·=D) H9 (upd H9 D (.lst (a.map (λz=>V.ref z.1)++[.ref an]))):=Keeps.one aw;refine⟨_,aw,by rw[Am];exact Bz (by lia),?_⟩;refine⟨_,_,_,_,a++[(an,(b.1++[z.2.1],z.2.2.1.2,z.2.2.2))],rfl,⟨λx o e n=>?_,c.ls⟩,by rw[Aa,Ba];rfl,λy R=>?_,?_⟩;rw[AC n];exact T _ _ (c.at_ x o e n);rcases B0.mp R with R|R;exact((v y R).same T).keeps Q λx M=>M.2;rw[AR.mp R];refine⟨L,g++[m],Q.tup er,Q.at_ _ _ (s9 _ _ eL) av,?_,aF,av⟩;refine RT.snoc ?_ (Q.tup ((T) _ _ al));exact((j.same ae).keeps c |>.same T).keeps Q;rw[aa,kE O G,Ba,d];rfl
inductive DF (K:Aj) (vs:U') (H:Hp) (Q:VK):Prop where
 |mk (nt A t:Addr) (W:Wd) (sc st:Int) (h0:vs=[.ref nt,.ref A,.ref t,.int sc,.int st]) (h1:Bv K H nt A t W) (h2:BS W) (h3:(0<=sc/\sc<W.ss.length)) (h4:(0<=st/\st<W.sts.length)) (h5:∀(D:Addr)(zs:List (Addr×AK))(H':Hp),H D=none->Ac H H'->H' D=some (.lst (zs.map λz=>V.ref z.1))->(∀z∈zs,DP (λl=>H l=none/\l≠D) H' z.1 z.2)->Dw W sc st (zs.map (·.2))->Q (.ref D) H'):DF K vs H Q
def kJ (K:Aj):Sp:=λvs H Q _=>DF K vs H Q
abbrev V0(P w K mg base):=BL P w K mg base "beginnings" 6 ["net", "answers", "table", "scope", "state"] (kJ K)
theorem kK(B:BO mg)(aq:VZ P w K mg base)(F:By K "beginnings" "beginnings" SV f fd)(hm:mg "beginnings" = some (.ref f)):V0 P w K mg base:=by
 refine B8 F hm Sf (λvs H al an h=>?_) (λaB A aD s H vs al an Y h=>?_);obtain⟨L,A,t,W,g,j,rfl,_⟩:=h;rfl
 . obtain⟨L,A,t,W,g,j,rfl,hC,ok,Q,R,ao⟩:=h
   refine⟨_,(An (AU (i:=5) Sf.nd (BV (Ab (Bl (Ab (BV Af) (Ab (pv 3) (Ab (pv 4) Af)))) Af)))
    (An (AU (i:=6) Sf.nd Ap)
    (An (O8 CP (BU Ri (pv 6) (Cv F7 B.b_len (Ab (pv 5) Af)) (BJ _)) (An (DR (Ds DM PySem.F.slot_list_extend PySem.F.type_list_extend Pw (pv 5) (Ab (A7 aq (Ab (pv 0) (Ab (pv 1) (Ab (pv 2) (Ab (At Au (pv 5) (pv 6)) Af))))) Af)))
     (An (BA (BU Lp (Cv F7 B.b_len (Ab (pv 5) Af)) (JI (v:=.int 200) rfl (Classical.choose_spec B.c_MOST_BEGINNINGS) ⟨_,rfl⟩) (BJ _)) (Az ZQ) BE)
     (Az (Xp (i:=6) Sf.nd rfl (p4 rfl) Ap WB)))))
    (Az (AZ (Cv (dX Oz Ga Ga Y.units (by decide) (by decide) (by decide)) B.b_sorted (Ab (pv 5) Af))))))),?_⟩
   rfl';refine⟨by decide,λl hl=>?_⟩;obtain⟨a8,ar,s1,el⟩:=new_at (o:=.lst []) hl;rw[<-ar];refine⟨GK,λaf Y=>?_⟩;obtain⟨H2,au,Z,er⟩:=new_at (o:=.tup [.ref l,.int g,.int j]) Y;rw[<-au];refine⟨GW,λD hD=>?_⟩;have ag:=s1.trans Z;have av:H D=none:=ag.free hD;have aw:l≠D:=A3 (Z _ _ el) hD;obtain⟨H3,ax,s3,ay⟩:=new_at (o:=.lst [.ref af]) hD;rw[<-ax];have az:=ag.trans s3;refine Em ?_;cbv;refine Uo ?_;cbv;refine Jp (λσ' d=>∃(u6:V)(a:List (Addr×AK)),σ'=[some (.ref L),some (.ref A),some (.ref t),some (.int g),some (.int j),some (.ref D),some u6]/\Ac H d/\d D=some (.lst (a.map λz=>V.ref z.1))/\(∀z∈a,DP (λl=>H l=none/\l≠D) d z.1 z.2)/\Hh W g j (a.map λz:Addr×AK=>z.2) (a.map λz:Addr×AK=>z.2).length) ?_ (λa9 hN=>?_);refine λσ' H4 S=>AO λNz C=>?_;obtain⟨u6,a,rfl,I,E,k,u⟩:=S;refine C ?_;clear C;have hf:=u.few ok Q R;rw[Am] at hf;refine⟨D,a.map λz=>(V.ref z.1,z.2),rfl,?_,by rw[Am];lia,λy M=>?_,λD2 G hp hs U=>?_⟩;rw[DK];exact Ae.of E;obtain⟨z,T,rfl⟩:=AW.mp M;exact(k z T).dt;have n:=A0 (o:=.lst (G.map (·.1))) U
   obtain⟨c,rfl⟩:∃c:List (Addr×AK),G=c.map λz=>(V.ref z.1,z.2):=by
    have:∀{l:List (DW DX)},(∀y∈l,y∈a.map λz=>((V.ref z.1,z.2):DW DX))->∃c:List (Addr×AK),l=c.map λz=>(V.ref z.1,z.2):=by
     intro l
     induction l with|nil=>exact λ_=>⟨[],rfl⟩|cons y l ih=>intro h;obtain⟨c,rfl⟩:=ih λz k=>h z (BQ _ k);obtain⟨z,_,rfl⟩:=AW.mp (h y Bg);exact⟨z::c,rfl⟩
    exact this λy M=>hp.mem_iff.mp M
   have N:(c.map λz=>((V.ref z.1,z.2):DW DX)).map (·.2)=c.map (·.2):=by rw[DK];rfl
   have O:(c.map λz=>((V.ref z.1,z.2):DW DX)).map (·.1)=c.map λz=>V.ref z.1:=by rw[DK];rfl
   have a0:(c.map (·.2)).Perm (a.map (·.2)):=by
    have:=hp.map (·.2)
    rwa [N,DK] at this
   rw[N] at hs;rw[O] at n ⊢
   have nm:∀z∈c,z∈a:=λz T=>by
    have:=hp.mem_iff.mp (AW.mpr ⟨z,T,rfl⟩);obtain⟨y,M,e⟩:=AW.mp this;injection e with O N;have:y=z:=Prod.ext (V.ref.inj O) N;rw[<-this];exact M
   refine ao D2 c _ (I.free U) (I.trans n) Aa (λz T=>?_) (u.all ok Q R a0 hs);refine((k z (nm z T)).mono' ?_).same n;intro x o ex q;exact⟨q.1,λy=>by rw[y,U] at ex;cases ex⟩;refine⟨λm σ d=>∃(p:Nat)(a:List (Addr×AK)),σ=[some (.ref L),some (.ref A),some (.ref t),some (.int g),some (.int j),some (.ref D),some (.int p)]/\Ac H d/\d D=some (.lst (a.map λz=>V.ref z.1))/\(∀z∈a,DP (λl=>H l=none/\l≠D) d z.1 z.2)/\Hh W g j (a.map λz:Addr×AK=>z.2) p/\m=62-p,⟨_,0,[(af,([],g,j))],rfl,az,ay,λz k=>?_,Hh.start W g j,rfl⟩,?_⟩;rw[AR.mp k];exact⟨l,[],s3 _ _ er,(Z.trans s3) _ _ el,RT.nil,hl,aw⟩;refine λm σ H4 S=>AO λNz C=>?_;obtain⟨p,a,rfl,I,E,k,u,aA⟩:=S;refine C ?_;clear C;have hf:=u.few ok Q R;have a1:=u.le;rw[Am] at hf a1;refine⟨_,p4 ⟨_,Ae.of E,rfl⟩,rfl,?_⟩;by_cases ah:p<a.length;rotate_left;have ep:p=a.length:=(by lia);rw[DL (by rw[Am];lia)];refine Bi (hN _ _ ⟨_,a,rfl,I,E,k,?_⟩);rw[Am,<-ep];exact u;rw[Bs (by rw[Am];lia)];refine Ch ?_;have ai:=AD ah;have aj:(a.map (·.2))[p]?=some a[p].2:=by rw[AQ,ai];rfl
   have aa:=u.turn aj;have ib:=(u.is _ (Bf aj)).ok ok Q R;refine⟨λσ' d=>∃(G:List (Addr×AK)),σ'=[some (.ref L),some (.ref A),some (.ref t),some (.int g),some (.int j),some (.ref D),some (.int ((p+1:Nat):Int))]/\Ac H d/\d D=some (.lst (G.map λz=>V.ref z.1))/\(∀z∈G,DP (λl=>H l=none/\l≠D) d z.1 z.2)/\Hh W g j (G.map λz:Addr×AK=>z.2) (p+1),?_,?_⟩;refine λσ' d S=>AO λNz C=>?_;obtain⟨G,rfl,n,X,a2,a3⟩:=S;refine C ?_;clear C;exact⟨_,by lia,p+1,G,rfl,n,X,a2,a3,rfl⟩;have a4:Bm (a.map λz=>V.ref z.1) (p:Int)=some (.ref a[p].1):=A8 (by rw[AQ,ai];rfl);refine⟨p4 ⟨rfl,_,Ae.of E⟩,p4 ⟨_,.ref a[p].1,Ae.of E,a4,L,A,t,a[p].1,W,a[p].2,rfl,hC.same I,ok,ib,⟨_,k _ (Ez ah)⟩,λD2 r J U n a5 a6 ab=>?_⟩⟩;have aC:r.length<=8:=(by have O:=Bw List.length ab;have N:=XD W a[p].2;have e3:=Rt ok a[p].2.2.1;rw[Am] at O;lia);have X:=n _ _ E;have k5:Keeps (·=D) J (upd J D (.lst (a.map (λz=>V.ref z.1)++r.map λz=>V.ref z.1))):=Keeps.one X;refine⟨D,D2,_,_,rfl,rfl,X,a5,by rw[Am,Am];exact Cf (Bz (by lia)),?_⟩;have a7:=aa.few ok Q R;rw[<-ab,<-Ba,Am] at a7;rw[<-ab,<-Ba] at aa;have ae:(upd J D (.lst (a.map (λz=>V.ref z.1)++r.map λz=>V.ref z.1))) D=some (.lst ((a++r).map λz=>V.ref z.1)):=(by rw[Aa,Ba])
   have sn:Ac H (upd J D (.lst (a.map (λz=>V.ref z.1)++r.map λz=>V.ref z.1))):=λb o e=>by
    rw[AC (A3 e av)];exact n _ _ (I _ _ e)
   have ak:∀z∈a++r,DP (λl=>H l=none/\l≠D) (upd J D (.lst (a.map (λz=>V.ref z.1)++r.map λz=>V.ref z.1))) z.1 z.2:=λz h=>by
    rcases B0.mp h with h|h;exact((k z h).same n).keeps k5 λx q=>q.2;refine((a6 z h).mono λx q=>⟨I.free q.1,?_⟩).keeps k5 λx q=>q.2;intro y;rw[y,E] at q;cases q.1
   generalize upd J D (.lst (a.map (λz=>V.ref z.1)++r.map λz=>V.ref z.1))=H6 at ae sn ak ⊢;refine⟨_,p4 ⟨_,Ae.of ae,rfl⟩,rfl,?_⟩;rw[DL (by rw[Am];lia)];refine Bi ?_;refine⟨_,rfl,a++r,?_,sn,ae,ak,aa⟩;simp
inductive Fs (K:Aj) (vs:U') (H:Hp) (Q:VK):Prop where
 |mk (t a o:Addr) (inn:V) (ss:List Ew) (n:Int) (k:Nat) (s:Ew) (x:Str) (h0:vs=[.ref t,.int n,.str x]) (h1:n=k) (h2:Ar K H t [.ref a,inn,.ref o]) (h3:Ig K H a ss) (h4:ss[k]?=some s) (h5:Q (.bl (dec (x∈s.2))) H):Fs K vs H Q
def kM (K:Aj):Sp:=λvs H Q _=>Fs K vs H Q
abbrev V2(P w K mg base):=BL P w K mg base "has_end" 1 ["table", "state", "label"] (kM K)
def kN(B:BO mg)(F:By K "has_end" "has_end" SW f fd)(c:mg "has_end" = some (.ref f)):V2 P w K mg base:=by
 refine B8 F c Zi (λb H Q E h=>?_) (λR A S s H b Q E j h=>?_);obtain⟨t,a,o,L,l,n,k,s,x,rfl,_⟩:=h;rfl;obtain⟨t,a,o,L,l,n,k,s,x,rfl,rfl,m,⟨b,p,r⟩,u,q⟩:=h;obtain⟨v,C,M⟩:=r.get' (i:=k) (d:=Ly s) (by rw[AQ,u];rfl);obtain⟨D,g,e,rfl,N,O,G⟩:=F9 M
 refine⟨_,(An (AU (i:=3) Zi.nd (At Au (At Au (At Au (pv 0) Ap) (pv 1)) Ap))
  (Az (AZ (Jl (MN j.units) (pv 2) (pv 3) (by with_unfolding_all rfl))))),?_⟩
 rfl';refine p5 (p4 ⟨_,.ref a,m,rfl,?_⟩);refine p4 ⟨b,.ref D,p,A8 C,?_⟩;refine p5 (p4 ⟨_,.ref e,N,rfl,?_⟩);refine⟨2,.str x,s.2.map Dt.str,e,_,λd hd=>?_,by decide,.str x,rfl,G,Ak.strs _,?_⟩;obtain⟨y,_,rfl⟩:=AW.mp hd;exact .str _ _
 have I:dec (Dt.str x∈s.2.map Dt.str)=dec (x∈s.2):=Ot ⟨λh=>by
  obtain⟨y,J,z⟩:=AW.mp h;rw[<-Dt.str.inj z];exact J,λh=>AW.mpr ⟨x,h,rfl⟩⟩
 rw[I];exact q
def Ld{k:Nat}(h:W.sts[k]?=some s):FW W (k:Int)=s.2:=by unfold FW;rw[Bn,h]
def kQ{k:Nat}{s:Bo}(h:W.ss[k]?=some s):EI W (k:Int)=s.2:=by unfold EI;rw[Bn,h]
def NO{q:Dg}(a:q.2.1=x)(c:q.1∈FW W b.2.2):EJ W b x q i=[b.1++[(b.2.1,o6,(i:Int))]]:=Ag ⟨a,c⟩
def Le{q:Dg}(h:¬(q.2.1=x/\q.1∈FW W b.2.2)):EJ W b x q i=[]:=Ah h
def ZA{bs:Y'}(h:bs[i]?=some b):DY W x (bs.take (i+1))=DY W x (bs.take i)++Dx W b x (EI W b.2.1) 0:=by rw[E8,h];show(bs.take i++[b]).flatMap _=_;rw[List.flatMap_append];simp[DY]
def QJ{bs:Y'}(i:Nat):(DY W x (bs.take i)).length<=(DY W x bs).length:=by
 have:DY W x bs=DY W x (bs.take i)++DY W x (bs.drop i):=(by unfold DY;rw[<-List.flatMap_append,List.take_append_drop]);rw[this,A1];lia
theorem ZB(W:Wd)(b:AK)(x:Str):∀(l:List Dg)(j i:Nat),(Dx W b x (l.take j) i).length<=(Dx W b x l i).length
 |[],j,i=>by rw[List.take_nil];exact AF _
 |q::l,0,i=>Dp _
 |q::l,j+1,i=>by show(EJ W b x q i++Dx W b x (l.take j) (i+1)).length<=(EJ W b x q i++Dx W b x l (i+1)).length;rw[A1,A1];have:=ZB W b x l j (i+1);lia
inductive CM (K:Aj) (vs:U') (H:Hp) (Q:VK):Prop where
 |mk (nt A t D:Addr) (x:Str) (F:Addr->Prop) (W:Wd) (zs:List (Addr×AK)) (h0:vs=[.ref nt,.ref t,.ref D,.str x]) (h1:Bv K H nt A t W) (h2:BS W) (h3:H D=some (.lst (zs.map λz=>V.ref z.1))) (h4:(∀z∈zs,DP F H z.1 z.2)) (h5:(∀z∈zs,Dv W z.2)) (h6:(DY W x (zs.map (·.2))).length<=62) (h7:∀(D2:Addr)(ws:List (Addr×List Ao))(H':Hp),H D2=none->Ac H H'->H' D2=some (.lst (ws.map λz=>V.ref z.1))->(∀z∈ws,CQ (λl=>H l=none/\l≠D2) H' z.1 z.2)->OA W x (zs.map (·.2)) (ws.map (·.2))->Q (.ref D2) H'):CM K vs H Q
def kR (K:Aj):Sp:=λvs H Q _=>CM K vs H Q
abbrev V4(P w K mg base):=BL P w K mg base "found_behind" 2 ["net", "table", "begun", "name"] (kR K)
def kS(an:BO mg)(aE:V2 P w K mg base)(F:By K "found_behind" "found_behind" SX f fd)(r:mg "found_behind" = some (.ref f)):V4 P w K mg base:=by
 refine B8 F r NC (λvs H a3 a4 h=>?_) (λbd ao bh s H vs a3 a4 hr h=>?_);obtain⟨nt,ao,t,D,x,F,W,u,rfl,_⟩:=h;rfl
 . obtain⟨nt,ao,t,D,x,F,W,u,rfl,hC,ok,eD,hz,aF,be,a5⟩:=h
   obtain⟨a6,aY,aZ,us,Gs,Es,ts,qt,qs,eN,N3⟩:=hC.net;obtain⟨a7,o,aG,b1,a8,b2,b3⟩:=hC.tab
   refine⟨_,(An (AU (i:=4) NC.nd (BV Af))
    (An (Dr CP rfl (DN (pv 2)) (Cb (n:=3) rfl (AE (Aw (i:=5) NC.nd) (AE (Aw (i:=6) NC.nd) (AE (Aw (i:=7) NC.nd) Ca)))) (Az (Dr CP rfl (OC LK rfl an.b_enumerate (Ab (At Au (At Au (At Au (pv 0) Ap) (pv 6)) Ap) Af)) (Cb (n:=2) rfl (AE (Aw (i:=8) NC.nd) (AE (Aw (i:=9) NC.nd) Ca))) (Az (BA (PW.pt (HJ (BU Dd (At Au (pv 9) Ap) (pv 3) (BJ _)) (Jj (GC (A7 aE (Ab (pv 1) (Ab (pv 7) (Ab (At Au (pv 9) Ap) Af)))))))) (Az (DR (Ds DM E9 Fa Fc (pv 4) (Ab (A2 Oi (pv 5) (BV (Ab (Bl (Ab (pv 6) (Ab Br (Ab (pv 8) Af)))) Af))) Af)))) BE)))))
    (Az (AZ (Cv (dU Oz hr.units (by decide)) an.b_sorted (Ab (pv 4) Af)))))),?_⟩
   rfl';refine⟨by decide,λP hP=>?_⟩;obtain⟨Y,aH,s1,ar⟩:=new_at (o:=.lst []) hP;rw[<-aH];have bf:D≠P:=A3 eD hP;have N:∀{d:Hp},Keeps (·=P) Y d->Ac H d:=λk x o e=>k.at_ _ _ (s1 _ _ e) (A3 e hP)
   refine⟨⟨_,Ae.of (s1 _ _ eD)⟩,F5 (xs:=u.map λz=>V.ref z.1) (λi σ d=>∃u5 u6 u7 v A a,σ=[some (.ref nt),some (.ref t),some (.ref D),some (.str x),some (.ref P),u5,u6,u7,v,A]/\Keeps (·=P) Y d/\d P=some (.lst (a.map λz:Addr×List Ao=>V.ref z.1))/\(∀z∈a,CQ (λl=>H l=none/\l≠P) d z.1 z.2)/\a.map (·.2)=DY W x ((u.map (·.2)).take i))
    ⟨none,none,none,none,none,[],rfl,Keeps.refl λx o m e=>by rw[m,ar] at e;exact⟨_,(Bt e).symm⟩,ar,λz hz=>by simp at hz,by rw[EB];rfl⟩ (λi σ d _ af=>by obtain⟨_,_,_,_,_,_,_,k,_⟩:=af;exact Ae.of (N k _ _ eD)) ?_ ?_⟩
   rotate_left;refine λσ H2 C=>AO λI b=>?_;obtain⟨u5,u6,u7,v,A,a,rfl,R,ag,S,r⟩:=C;refine b ?_;clear b;rw[Am,<-Am (f:=(·.2)),EU] at r;have lw:a.length<=62:=by have:=Bw List.length r;rw[Am] at this;lia
   refine⟨P,a.map λz=>(V.ref z.1,z.2),rfl,?_,by rw[Am];lia,λy g=>?_,λD2 aI J hs ah=>?_⟩;rw[DK];exact Ae.of ag;obtain⟨z,ai,rfl⟩:=AW.mp g;exact(S z ai).dt;obtain⟨vs,r1,r2,r3,r4⟩:=XO (c:=CD) J;have s3:=A0 (o:=.lst (aI.map (·.1))) ah;rw[r1] at s3 ⊢;rw[r2] at hs;have q:=N R;refine a5 D2 vs _ (q.free ah) (q.trans s3) Aa (λz ai=>?_) ⟨by rw[<-r];exact r3,hs⟩;refine((S z (r4 z ai)).mono' ?_).same s3;intro x o ex hx;exact⟨hx.1,λy=>by rw[y,ah] at ex;cases ex⟩;refine λi y σ H2 g C=>AO λI b=>?_;obtain⟨u5,u6,u7,v,A,a,rfl,R,ag,S,r⟩:=C;refine b ?_;clear b;obtain⟨z,au,rfl⟩:=getm g;have mz:=Bf au;have aa:=aF z mz;have q:=N R;refine AO λI b=>?_;obtain⟨l,B,aA,aB,e3,_⟩:=hz z mz;refine b ?_;clear b;have e1:=q _ _ aA;have aJ:=aa.rng z.2.2.1 (by unfold A5;simp);have aK:=aa.st;obtain⟨n,T⟩:=Ea aJ.1;obtain⟨k,hk⟩:=Ea aK.1;have aL:n<W.ss.length:=(by lia);have aM:k<W.sts.length:=(by lia);refine AO λI b=>?_;obtain⟨aq,ba,E1,aC,bb,bc,g4,⟨c0,_,⟨tE,c1,c2⟩⟩⟩:=N3.sc.get aL;refine b ?_;clear b;have av:=AD aM;have eT:EI W z.2.2.1=W.ss[n].2:=by rw[T];exact kQ g4
   have eE:FW W z.2.2.2=W.sts[k].2:=by rw[hk];exact Ld av
   have aN:Bm (us.map V.ref) z.2.2.1=some (.ref aq):=by rw[T];exact A8 (by rw[AQ,aC];rfl)
   have aw:(u.map (·.2))[i]?=some z.2:=by rw[AQ,au];rfl
   have bg:B.length<=100:=(by have:=Kf W.ss.length (A5 z.2) aa.nd aa.rng;rw[show(A5 z.2).length=z.2.1.length+1 by unfold A5;simp] at this;have:=ok.s5;rw[e3.len];lia);have aO:=QJ (W:=W) (x:=x) (bs:=u.map (·.2)) (i+1);rw[ZA aw,A1] at aO;refine⟨_,Ar.of e1,rfl,?_⟩;refine p5 (p4 ⟨_,.ref a6,Ar.of (q _ _ eN),rfl,p4 ⟨_,.ref aq,Ae.of (q _ _ N3.sc.top),aN,p5 (p4 ⟨_,.ref E1,Ar.of (q _ _ c0),rfl,E1,rfl,⟨_,q _ _ c1⟩,?_⟩)⟩⟩)
   refine RH LK (xs:=tE.map V.ref) (λj σ d=>∃v A a,σ=[some (.ref nt),some (.ref t),some (.ref D),some (.str x),some (.ref P),some (.ref l),some (.int z.2.2.1),some (.int z.2.2.2),v,A]/\Keeps (·=P) Y d/\d P=some (.lst (a.map λz:Addr×List Ao=>V.ref z.1))/\(∀z∈a,CQ (λl=>H l=none/\l≠P) d z.1 z.2)/\a.map (·.2)=DY W x ((u.map (·.2)).take i)++Dx W z.2 x ((EI W z.2.2.1).take j) 0)
    ⟨_,_,a,rfl,R,ag,S,by rw[r,EB];simp[Dx]⟩ (λj σ d af=>by obtain⟨_,_,_,_,k,_⟩:=af;exact Ae.of (N k _ _ c1)) ?_ ?_
   rotate_left;refine λσ H3 C=>AO λI b=>?_;obtain⟨v,A,a,rfl,U,aj,ak,O⟩:=C;refine b ?_;clear b;refine⟨_,_,_,_,_,a,rfl,U,aj,ak,?_⟩;rw[ZA aw,O,Am,c2.len,eT,EU];refine λj y T' σ H3 g aP C=>AO λI b=>?_;obtain⟨v,A,a,rfl,U,aj,ak,O⟩:=C;refine b ?_;clear b;obtain⟨tp,ax,rfl⟩:=getm g;have aQ:j<W.ss[n].2.length:=by rw[<-c2.len];exact(AV.mp ax).1
   have J:=AD aQ;have ay:=c2.at_ j tp _ ax J;generalize W.ss[n].2[j]=p at J ay;obtain⟨H4,aR,X,aS⟩:=new_at (o:=.tup [.int j,.ref tp]) aP;rw[<-aR];have aT:=N U;have E:=aT.trans X;have k4:Keeps (·=P) Y H4:=U.same X;have Q:=X _ _ aj;have al:∀z∈a,CQ (λl=>H l=none/\l≠P) H4 z.1 z.2:=λz h=>(ak z h).same X;have a2:=Ar.of (K:=K) (E _ _ ay);have az:Dx W z.2 x ((EI W z.2.2.1).take (j+1)) 0=Dx W z.2 x ((EI W z.2.2.1).take j) 0++EJ W z.2 x p j:=(by rw[E8,eT,J];show Dx W z.2 x (W.ss[n].2.take j++[p]) 0=_;rw[XJ,FQ,Nat.zero_add,Nat.min_eq_left (by lia)])
   have skip:¬(p.2.1=x/\p.1∈FW W z.2.2.2)->a.map (·.2)=DY W x ((u.map (·.2)).take i)++Dx W z.2 x ((EI W z.2.2.1).take (j+1)) 0:=λT=>by
    rw[az,Le T,FA,O]
   have lw:a.length<100:=(by have:=Bw List.length O;rw[Am,A1] at this;have G:=ZB W z.2 x (EI W z.2.2.1) j 0;lia);refine⟨_,Ar.of aS,rfl,?_⟩;refine p5 (p4 ⟨_,.str p.2.1,a2,rfl,rfl,rfl,As (λG=>?_) (λG=>Bi ?_)⟩);rotate_left;exact⟨_,_,a,rfl,k4,Q,al,skip λh=>G (Bs (by rw[h.1]))⟩;have G:p.2.1=x:=V.str.inj (BG G);refine p5 (p4 ⟨_,.str p.1,a2,rfl,t,a7,o,aG,W.sts,z.2.2.2,k,_,p.1,rfl,hk,E.seqT b1,⟨a8,E.seq b2,b3.same E⟩,av,rfl,As (λM=>?_) (λM=>?_)⟩);rotate_left;exact⟨_,_,a,rfl,k4,Q,al,skip λh=>M (Eu (by rw[<-eE];exact h.2))⟩;have M:p.1∈FW W z.2.2.2:=by rw[eE];exact Ev.mp M
   refine⟨p4 ⟨rfl,_,Ae.of Q⟩,GK,λm aU=>?_⟩;obtain⟨H5,aV,s5,aD⟩:=new_at (o:=.tup [.int z.2.2.1,.str "told",.int j]) aU;rw[<-aV];refine⟨GW,λa9 hM=>?_⟩;obtain⟨H6,aW,s6,eM⟩:=new_at (o:=.lst [.ref m]) hM;rw[<-aW];have ab:=s5.trans s6;refine⟨l,a9,_,_,rfl,rfl,ab _ _ (E _ _ aB),eM,by rw[Am];exact Cf (Bz (by show B.length+1<=1000;lia)),λL Z=>?_⟩;have aX:H L=none:=(E.trans ab).free Z;have a0:L≠P:=λy=>by rw[y,ab _ _ Q] at Z;cases Z
   have s7:=A0 (o:=.lst (B.map V.ref++[.ref m])) Z;have eL:(upd H6 L (.lst (B.map V.ref++[.ref m]))) L=some (.lst ((B++[m]).map V.ref)):=by rw[Aa,Ba];rfl
   generalize upd H6 L (.lst (B.map V.ref++[.ref m]))=H7 at s7 eL ⊢;have ae:=ab.trans s7;have a1:=ae _ _ Q;have k7:Keeps (·=P) H7 (upd H7 P (.lst (a.map (λz=>V.ref z.1)++[.ref L]))):=Keeps.one a1;refine⟨_,a1,by rw[Am];exact Bz (by lia),?_⟩;refine⟨_,_,a++[(L,z.2.1++[(z.2.2.1,o6,(j:Int))])],rfl,(k4.same ae).set rfl,by rw[Aa,Ba];rfl,λy g=>?_,?_⟩;rcases B0.mp g with g|g;exact((al y g).same ae).keeps k7 λx hx=>hx.2;rw[AR.mp g];refine⟨B++[m],k7.at_ _ _ eL a0,?_,aX,a0⟩;exact RT.snoc ((e3.same (E.trans ae)).keeps k7) (k7.tup ((s6.trans s7) _ _ aD));rw[az,NO G M,Ba,O,Gu];rfl
inductive CN (K:Aj) (vs:U') (H:Hp) (Q:VK):Prop where
 |mk (t:Addr) (F:Addr->Prop) (sts:List Ew) (inn:Int) (ord:A') (h0:vs=[.ref t]) (h1:Go K F H t sts inn ord) (h2:ord.length<=40) (h3:∀(p:Addr)(H':Hp),H p=none->Ac H H'->Ir H' p ord->Q (.ref p) H'):CN K vs H Q
def kT (K:Aj):Sp:=λvs H Q _=>CN K vs H Q
abbrev Sq(P w K mg base):=BL P w K mg base "better_pairs" 1 ["table"] (kT K)
theorem kU(B:BO mg)(F:By K "better_pairs" "better_pairs" QZ f fd)(J:mg "better_pairs" = some (.ref f)):Sq P w K mg base:=by
 refine B8 F J i8 (λL H Q E h=>?_) (λak ag an s H L Q E M h=>?_);obtain⟨t,F,X,Y,v,rfl,_⟩:=h;rfl;obtain⟨t,F,X,Y,v,rfl,N,aj,q⟩:=h;obtain⟨ta,o,al,Z,O,_,_,_,_,_,x,TO⟩:=N.ex;refine⟨_,(Az (AZ (HU (fA rfl (M1 M)) B.b_dict (Ab (GJ rfl Ck (DN (At Au (pv 0) Ap)) (λ_ _ _ _ _=>(Aw (i:=0) Ck.nd)) (λ_ _ _ _ _=>FV) (λ_ _ _ _ _=>(Bl (Ab (pv 0) (Ab JH Af))))) Af)))),?_⟩;rfl'
 refine p5 (p4 ⟨_,.ref o,Ar.of O,rfl,⟨_,Ae.of x⟩,Py (xs:=Z.map V.ref) (λP i a g=>Ac H g/\g P=some (.lst a)/\a.length=i/\Fh g a ((v.take i).map λp=>(FM p,V.bl true)))
  (λP j=>⟨A0 j,Aa,rfl,.nil⟩) (λP i a g aa=>by obtain⟨s,_⟩:=aa;exact Ae.of (s _ _ x)) (λP i ah a R RR j S n k=>?_) (λP a R j n=>?_)⟩)
 obtain⟨c,r,d,m⟩:=n;obtain⟨y,D,rfl⟩:=getm S;have ab:i<v.length:=by rw[<-TO.len];exact(AV.mp D).1
 have G:=AD ab;have ae:=c _ _ (TO.at_ i _ _ D G);refine⟨BP,λT U=>?_⟩;obtain⟨A,af,l,W⟩:=new_at (o:=.tup [.ref y,.bl true]) U;rw[<-af];have I:=l _ _ r
 have u:∀b xs,A b=some (.tup xs)->(upd A P (.lst (a++[.ref T]))) b=some (.tup xs):=λb xs e=>by
  rw[AC (N8 e I (λz=>nomatch z))];exact e
 refine k _ _ I (by rw[d];exact Bz (by lia)) ⟨λb ai e=>?_,Aa,by rw[A1,d];rfl,?_⟩;rw[AC (A3 e j)];exact l _ _ (c _ _ e);rw[E8,G,Ba];exact Paired.snoc ((m.tups λb xs e=>l _ _ e).tups u) ⟨T,y,rfl,u _ _ W,u _ _ (l _ _ ae)⟩;obtain⟨c,r,d,m⟩:=n;rw[Am,TO.len,EU] at m;rw[Am,TO.len] at d;refine⟨P,a,_,rfl,r,by rw[d];exact Bz (by lia),m,λp C=>?_⟩;exact q p _ (c.free C) (c.trans (A0 C)) ⟨_,Aa,fJ⟩
inductive Ft (K:Aj) (vs:U') (H:Hp) (Q:VK):Prop where
 |mk (D:Addr) (F:Addr->Prop) (zs:List (Addr×List Ao)) (h0:vs=[.ref D]) (h1:H D=some (.lst (zs.map λz=>V.ref z.1))) (h2:(∀z∈zs,CQ F H z.1 z.2)) (h3:zs.length<=100) (h4:∀(d:X'->Addr)(c:X'->Ao->Addr)(H':Hp),Ac H H'->Bj dW H' (Be (zs.map (·.2))) d c->(∀p,Ep (Be (zs.map (·.2))) p->H (d p)=none)->Q (.ref (d [])) H'):Ft K vs H Q
def kW (K:Aj):Sp:=λvs H Q _=>Ft K vs H Q
abbrev Sr(P w K mg base):=BL P w K mg base "tree_of" 1 ["ways"] (kW K)
def kX(an:BO mg)(F:By K "tree_of" "tree_of" SY f fd)(l:mg "tree_of" = some (.ref f)):Sr P w K mg base:=by
 refine B8 F l ND (λvs H ao aq h=>?_) (λaB a9 aE s H vs ao aq hr h=>?_);obtain⟨D,F,a,rfl,_⟩:=h;rfl
 . obtain⟨D,F,a,rfl,eD,hz,lz,ar⟩:=h
   refine⟨_,(An (AU (i:=1) ND.nd Ue)
    (An (Dr CP rfl (OC LK rfl an.b_enumerate (Ab (pv 0) Af)) (Cb (n:=2) rfl (AE (Aw (i:=2) ND.nd) (AE (Aw (i:=3) ND.nd) Ca))) (An (AU (i:=4) ND.nd (pv 1))
     (Az (Dr CP rfl (DN (pv 3)) (Aw (i:=5) ND.nd) (Az (AU (i:=4) ND.nd (At Au (Ds PySem.F.plainAttrs_dict PySem.F.slot_dict_setdefault PySem.F.type_dict_setdefault (eV (Ls hr)) (pv 4) (Ab (pv 5) (Ab (Bl (Ab (pv 2) (Ab Ue Af))) Af))) Ap)))))))
    (Az (AZ (pv 1))))),?_⟩
   rfl';refine λt ht=>?_;obtain⟨au,ax,s1,et⟩:=new_at (o:=.dT []) ht;rw[<-ax]
   refine⟨D,rfl,⟨_,s1 _ _ eD⟩,RH LK (xs:=a.map λz=>V.ref z.1) (λi σ A=>∃(U W X B:V')(d:X'->Addr)(c:X'->Ao->Addr),σ=[some (.ref D),some (.ref t),U,W,X,B]/\Ac H A/\d []=t/\Bj dW A (Be ((a.map (·.2)).take i)) d c/\∀p,Ep (Be ((a.map (·.2)).take i)) p->H (d p)=none)
    ⟨none,none,none,none,λ_=>t,λ_ _=>t,rfl,s1,rfl,?_,λp u=>ht⟩ (λi σ A aa=>by obtain⟨_,_,_,_,_,_,_,s,_⟩:=aa;exact Ae.of (s _ _ eD)) ?_ ?_⟩
   have nil:∀p,Ep (Be ((a.map (·.2)).take 0)) p->p=[]:=λp u=>by
    rcases u with h|⟨kw,h,_⟩;exact h;rw[EB] at h;cases h
   refine⟨λp u=>?_,λp m k l=>?_,λp av u ay _=>(nil p u).trans (nil av ay).symm⟩;show au t=some (.dT (DZ _ _ p));rw[et,EB];rfl;rw[EB] at l;cases l;rotate_left;refine λσ H2 G=>AO λN q=>?_;obtain⟨U,W,X,B,d,c,rfl,Y,rfl,O,Q⟩:=G;refine q ?_;clear q;rw[Am,<-Am (f:=(·.2)),EU] at O Q;exact ar d c H2 Y O Q;refine λi y aA σ H2 Z hT G=>AO λN q=>?_;obtain⟨U,W,X,B,d,c,rfl,Y,hd,O,Q⟩:=G;refine q ?_;clear q;refine IJ ?_;intro Nx Cy;obtain⟨z,ab,rfl⟩:=getm Z;have mz:=Bf ab;have aC:=(AV.mp ab).1;have az:(a.map (·.2))[i]?=some z.2:=by rw[AQ,ab];rfl
   obtain⟨H3,a0,s3,eT⟩:=new_at (o:=.tup [.int (i:Int),.ref z.1]) hT;rw[<-a0];have ai:=Y.trans s3;obtain⟨ms,ag,f3,_⟩:=(hz z mz).same ai;refine⟨_,Ar.of eT,rfl,?_⟩
   refine⟨⟨_,Ae.of ag⟩,F5 (xs:=ms.map V.ref) (λj σ A=>∃(B:V')(d:X'->Addr)(c:X'->Ao->Addr),σ=[some (.ref D),some (.ref t),some (.int (i:Int)),some (.ref z.1),some (.ref (d (z.2.take j))),B]/\Ac H A/\RT Hg A ms z.2/\A z.1=some (.lst (ms.map V.ref))/\d []=t/\Bj dW A (Be ((a.map (·.2)).take i)++[(i,z.2.take j)]) d c/\∀p,Ep (Be ((a.map (·.2)).take i)++[(i,z.2.take j)]) p->H (d p)=none)
    ⟨B,d,c,by rw[EB,hd];rfl,ai,f3,ag,hd,by rw[EB];exact(O.sameW s3).begin,λp u=>Q p ?_⟩ (λj σ A _ aa=>by obtain⟨_,_,_,_,_,_,e,_⟩:=aa;exact Ae.of e) ?_ ?_⟩
   rw[EB] at u;rcases u with h|⟨kw,h1,J⟩;exact .inl h;rcases B0.mp h1 with y|y;exact .inr ⟨kw,y,J⟩;rw[AR.mp y] at J;exact .inl (List.prefix_nil.mp J);rotate_left;refine λσ H4 G=>AO λN q=>?_;obtain⟨B,d,c,rfl,L,_,_,S,C,I⟩:=G;refine q ?_;clear q;rw[Am,f3.len,EU,<-fL az] at C I;exact⟨_,_,_,_,d,c,rfl,L,S,C,I⟩;refine λj y σ H4 Z G=>AO λN q=>?_;obtain⟨B,d,c,rfl,L,R,e4,S,C,I⟩:=G;refine q ?_;clear q;refine IJ ?_;intro Nx Cy;obtain⟨mk,aj,rfl⟩:=getm Z;have hj:j<z.2.length:=by rw[<-f3.len];exact(AV.mp aj).1
   have ae:=AD hj;have ah:=R.at_ j _ _ aj ae;have tk:z.2.take (j+1)=z.2.take j++[z.2[j]]:=by rw[E8,ae];rfl
   generalize z.2[j]=m at ae ah tk;generalize hg:z.2.take j=g at C I tk ⊢;have ak:Ep (Be ((a.map (·.2)).take i)++[(i,g)]) g:=.inr ⟨_,Db _ (AR.mpr rfl),List.prefix_refl g⟩;have eB:=C.dct g ak;have lk:=UW (Be ((a.map (·.2)).take i)++[(i,g)]) g;have aD:(Be ((a.map (·.2)).take i)++[(i,g)]).length<=101:=(by unfold Be;rw[A1,Am,List.length_zipIdx,FQ,Am,D8];lia);have lr:(DZ (Be ((a.map (·.2)).take i)++[(i,g)]) c g).length<sizeLine:=by unfold DZ;rw[Am];exact Bz (by lia)
   refine⟨p5 (p5 (p4 ⟨rfl,p5 ⟨_,eB⟩⟩)),λe he=>?_⟩;have s5:=A0 (o:=.dT []) he;have ee:(upd H4 e (.dT [])) e=some (.dT []):=Aa;have al:=he;generalize upd H4 e (.dT [])=H5 at s5 ee ⊢;refine⟨BP,λT5 a1=>?_⟩;obtain⟨H6,a2,s6,T⟩:=new_at (o:=.tup [.int (i:Int),.ref e]) a1;rw[<-a2];have r:=s5.trans s6;refine⟨d g,_,Gp m,mk,.ref T5,rfl,rfl,r _ _ eB,r _ _ ah,lr,λv E=>?_,λE=>?_⟩;rw[PY] at E;by_cases l:m∈(TreeM.keysAt (Be ((a.map (·.2)).take i)++[(i,g)]) g).map (·.1);rw[Ag l] at E;cases E;obtain⟨⟨m',k⟩,hk,rfl⟩:=AW.mp l;have a3:=C.tup g m' k hk;refine p5 (p4 ⟨_,.ref (d (g++[m'])),Ar.of (r _ _ a3),rfl,?_⟩);refine⟨some (.ref mk),d,c,by rw[tk];rfl,L.trans r,R.same r,r _ _ e4,S,by rw[tk];exact(C.sameW r).stay l,λp u=>I p ((RA l).mp (by rw[tk] at u;exact u))⟩;rw[Ah l] at E;cases E;have l:m∉(TreeM.keysAt (Be ((a.map (·.2)).take i)++[(i,g)]) g).map (·.1):=λl=>by rw[PY,Ag l] at E;cases E
   refine AO λN q=>?_;obtain⟨d',c',T7,a4,a5,a6⟩:=C.grow l al I (L.free al) r (s6 _ _ ee) T;refine q ?_;clear q;have a7:∀{b o},H b=some o->b≠d g:=λ{b o}M z=>by rw[z,I g ak] at M;cases M
   have s7:Ac H (upd H6 (d g) (.dT (AM (DZ (Be ((a.map (·.2)).take i)++[(i,g)]) c g) (Gp m) (.ref T5)))):=λb o M=>by
    rw[AC (a7 M)];exact r _ _ (L _ _ M)
   have af:=r _ _ eB;have a8:T5≠d g:=λy=>by rw[y,af] at T;cases T
   refine p5 (p4 ⟨_,.ref e,Ar.of (by rw[AC a8];exact T),rfl,?_⟩);refine⟨some (.ref mk),d',c',by rw[tk,a4];rfl,s7,⟨R.len,λn aw b h1 J=>?_⟩,?_,a6.trans S,by rw[tk];exact T7,by rw[tk];exact a5⟩;have x:=r _ _ (R.at_ n aw b h1 J);rw[AC (N8 x af (λz=>nomatch z))];exact x;have x:=r _ _ e4;rw[AC (N8 x af (λz=>nomatch z))];exact x
inductive EQ (K:Aj) (vs:U') (H:Hp) (Q:VK):Prop where
 |mk (nt S T R mk:Addr) (us Gs Es:I') (ss:List Bo) (m:Ao) (h0:vs=[.ref nt,.ref mk]) (h1:Ar K H nt [.ref S,.ref T,.ref R]) (h2:Do H S us Gs Es ss) (h3:Ar K H mk (Hg m)) (h4:EK ss m) (h5:Q (.str (FK ss m)) H):EQ K vs H Q
def kY (K:Aj):Sp:=λvs H Q _=>EQ K vs H Q
abbrev V8(P w K mg base):=BL P w K mg base "label_at" 1 ["net", "mark"] (kY K)
def kZ(ab:BO mg)(F:By K "label_at" "label_at" S0 f fd)(t:mg "label_at" = some (.ref f)):V8 P w K mg base:=by
 refine B8 F t OO (λG H Q E h=>?_) (λai ae aj s H G Q E hr h=>?_);obtain⟨I,S,T,R,mk,us,J,M,A,m,rfl,_⟩:=h;rfl;obtain⟨I,S,T,R,mk,us,J,M,A,m,rfl,N,B,t,⟨n,k,L,v,g,j,C⟩,q⟩:=h;have Z:n<A.length:=(AV.mp j).1;obtain⟨u,af,E1,O,ag,ah,D,⟨U,⟨l,W,o⟩,⟨p,X,r⟩⟩⟩:=B.get Z;rw[j] at D;have Y:=Bt D;rw[<-Y] at o r;have aa:Bm (us.map V.ref) m.1=some (.ref u):=by rw[v];exact A8 (by rw[AQ,O];rfl)
 refine⟨_,(An (Dl (pv 1) (Cb (n:=3) rfl (AE (Aw (i:=2) OO.nd) (AE (Aw (i:=3) OO.nd) (AE (Aw (i:=4) OO.nd) Ca)))))
  (An (Dl (At Au (At Au (pv 0) Ap) (pv 2)) (Cb (n:=2) rfl (AE (Aw (i:=5) OO.nd) (AE (Aw (i:=6) OO.nd) Ca))))
  (An (BA (BU Dd (pv 3) Br (BJ _)) (Az (AZ (At Au (At Au (pv 5) (pv 4)) Ap))) BE)
  (Az (AZ (At Au (At Au (pv 6) (pv 4)) Ap)))))),?_⟩
 rfl';refine⟨_,t,rfl,?_⟩;refine p5 (p4 ⟨_,.ref S,N,rfl,p4 ⟨_,.ref u,Ae.of B.top,aa,?_⟩⟩);refine⟨_,Ar.of U,rfl,?_⟩;refine⟨rfl,rfl,As (λh=>?_) (λh=>?_)⟩;have b:m.2.1=o1:=V.str.inj (BG h);rcases C with⟨_,a⟩|⟨e,_⟩;have c:=AD a;rw[XQ v g j b c] at q;have d:l[k]?=some (l[k]'(by rw[o.len];exact a)):=AD _;have x:=o.at_ _ _ _ d c;have y:Bm (l.map V.ref) m.2.2=some (.ref (l[k]'(by rw[o.len];exact a))):=by rw[g];exact A8 (by rw[AQ,d];rfl)
 exact p4 ⟨_,_,Ae.of W,y,p5 (p4 ⟨_,.str L.1[k].1,Ar.of x,rfl,q⟩)⟩;exact absurd (e.symm.trans b) UO;have b:m.2.1≠o1:=λz=>h (Bs (by rw[z]));rcases C with⟨e,_⟩|⟨_,a⟩;exact absurd e b;have c:=AD a;rw[XR v g j b c] at q;have d:p[k]?=some (p[k]'(by rw[r.len];exact a)):=AD _;have x:=r.at_ _ _ _ d c;have y:Bm (p.map V.ref) m.2.2=some (.ref (p[k]'(by rw[r.len];exact a))):=by rw[g];exact A8 (by rw[AQ,d];rfl)
 exact p4 ⟨_,_,Ae.of X,y,p5 (p4 ⟨_,.str L.2[k].1,Ar.of x,rfl,q⟩)⟩
def ZC{bet:Ao->Ao->Bool}{ws:TreeM.Ws Ao}{a:X'}{m:Ao}{t:X'}:TreeM.gat bet ws a (m::t)=((TreeM.keysAt ws a).filter λb=>bet b.1 m).map (·.2)++TreeM.gat bet ws (a++[m]) t:=rfl
theorem ZD{bet:Ao->Ao->Bool}{ws:TreeM.Ws Ao}:∀{b a:X'},(TreeM.gat bet ws a b).length<=b.length*ws.length
 |[],_=>Dp _
 |m::t,a=>by rw[ZC,A1,Am,D9];have d:=QX (λc:Ao×Nat=>bet c.1 m) (TreeM.keysAt ws a);have e:=UW ws a;have f:=ZD (bet:=bet) (ws:=ws) (b:=t) (a:=a++[m]);rw[Nat.add_mul,Nat.one_mul];lia
inductive C7 (K:Aj) (vs:U') (H:Hp) (Q:VK):Prop where
 |mk (nt S T R bp l:Addr) (us Gs Es:I') (ss:List Bo) (ord:A') (ws:TreeM.Ws Ao) (d:X'->Addr) (c:X'->Ao->Addr) (F:Addr->Prop) (w:X') (h0:vs=[.ref nt,.ref bp,.ref (d []),.ref l]) (h1:H nt=some (.tup [.ref S,.ref T,.ref R])) (h2:Do H S us Gs Es ss) (h3:Ir H bp ord) (h4:Bj dF H ws d c) (h5:ws.length<=100) (h6:(∀kw∈ws,∀m∈kw.2,EK ss m)) (h7:CQ F H l w) (h8:Ki ss w) (h9:∀H',Ac H H'->Q (OB ((TreeM.gat (Cj ss ord) ws [] w).map λk:Nat=>(k:Int))) H'):C7 K vs H Q
def lB (K:Aj):Sp:=λvs H Q _=>C7 K vs H Q
abbrev Ss(P w K mg base):=BL P w K mg base "first_hider" 2 ["net", "better", "tree", "way"] (lB K)
def lC(a3:BO mg)(aq:V8 P w K mg base)(F:By K "first_hider" "first_hider" S1 f fd)(C:mg "first_hider" = some (.ref f)):Ss P w K mg base:=by
 refine B8 F C NE (λvs H a4 a5 h=>?_) (λaQ aM aU s H vs a4 a5 hr h=>?_);obtain⟨M,S,T,aa,Q,l,us,Gs,Es,n,r,ws,d,c,F,w,rfl,_⟩:=h;rfl
 . obtain⟨M,S,T,aa,Q,l,us,Gs,Es,n,r,ws,d,c,F,w,rfl,eN,SC,BD,TT,a8,a9,⟨ms,el,rl,_⟩,ok,a6⟩:=h
   obtain⟨kb,eb,hb⟩:=BD
   refine⟨_,(An (AU (i:=4) NE.nd (BV Af))
    (An (AU (i:=5) NE.nd (pv 2))
    (An (Dr CP rfl (DN (pv 3)) (Aw (i:=6) NE.nd) (An (AU (i:=7) NE.nd (A7 aq (Ab (pv 0) (Ab (pv 6) Af))))
     (An (Dr CP rfl (Kj (pv 5)) (Aw (i:=8) NE.nd) (Az (BA (BU (Xa (Ls hr)) (Bl (Ab (A7 aq (Ab (pv 0) (Ab (pv 8) Af))) (Ab (pv 7) Af))) (pv 1) (by with_unfolding_all rfl)) (Az (DR (Ds DM E9 Fa Fc (pv 4) (Ab (At Au (Uc (Ls hr) (pv 5) (pv 8) (λ_ _=>rfl)) Ap) Af)))) BE)))
     (Az (AU (i:=5) NE.nd (At Au (cF (Ls hr) (pv 5) (pv 6) (Bl (Ab Ap (Ab Ue Af))) ⟨rfl,rfl,rfl,rfl⟩) Ap))))))
    (Az (AZ (Kk rfl (by rfl) a3.b_min (Ab (pv 4) Af))))))),?_⟩
   rfl';refine⟨by decide,λN Y=>?_⟩;obtain⟨aN,aA,s1,aB⟩:=new_at (o:=.lst []) Y;rw[<-aA];refine Em ?_;cbv;refine Em ?_;cbv
   refine⟨⟨_,Ae.of (s1 _ _ el)⟩,F5 (xs:=ms.map V.ref) (λj σ p=>∃(a:Addr)(u6 u7 D:V')(ns:R'),σ=[some (.ref M),some (.ref Q),some (.ref (d [])),some (.ref l),some (.ref N),some (.ref a),u6,u7,D]/\Ac H p/\p N=some (.lst ((ns.map λk:Nat=>(k:Int)).map V.int))/\ns++TreeM.gat (Cj n r) ws (w.take j) (w.drop j)=TreeM.gat (Cj n r) ws [] w/\a≠N/\((Ep ws (w.take j)/\a=d (w.take j))\/(¬Ep ws (w.take j)/\H a=none/\Rd p a (.dT []))))
    ⟨d [],none,none,none,[],rfl,s1,aB,rfl,?_,.inl ⟨.inl rfl,rfl⟩⟩ (λj σ p _ af=>by obtain⟨_,_,_,_,_,_,s,_⟩:=af;exact Ae.of (s _ _ el)) ?_ ?_⟩
   obtain⟨o,x⟩:=TT.dct [] (.inl rfl);exact A3 x Y;rotate_left;refine λσ E ag=>AO λNz U=>?_;obtain⟨a,u6,u7,D,ns,rfl,B,ah,u,_⟩:=ag;refine U ?_;clear U;rw[Am,rl.len,List.drop_length] at u;have u:ns=_:=(FA ns).symm.trans u;subst u;exact⟨N,_,rfl,ah,a6 E B⟩;refine λj aO σ E hy ag=>AO λNz U=>?_;obtain⟨a,u6,u7,D,ns,rfl,B,ah,u,ar,ai⟩:=ag;refine U ?_;clear U;refine IJ ?_;intro Nx Cy;obtain⟨mk,au,rfl⟩:=getm hy;have hj:j<w.length:=by rw[<-rl.len];exact(AV.mp au).1
   have aj:=AD hj;have ae:=rl.at_ j _ _ au aj;have av:=ok.1 _ (Ez hj);have tk:w.take (j+1)=w.take j++[w[j]]:=by rw[E8,aj];rfl
   have dk:w.drop j=w[j]::w.drop (j+1):=NV hj;rw[dk,ZC] at u;generalize w[j]=m at aj ae tk av u;generalize aR:w.take j=g at tk u ai ⊢;refine⟨M,S,T,aa,mk,us,Gs,Es,n,m,rfl,Ar.of (B _ _ eN),SC.same B,Ar.of (B _ _ ae),av,?_⟩;refine Em ?_;cbv;have aC:Rd E a (.dT (DZ ws c g)):=(by rcases ai with⟨y,q⟩|⟨y,_,q⟩;obtain⟨o,x⟩:=TT.dct g y;rw[q];exact .inr ⟨o,B _ _ x⟩;unfold DZ;rw[X3 y];exact q);refine Jp (λσ' p=>∃(D:V'),σ'=[some (.ref M),some (.ref Q),some (.ref (d [])),some (.ref l),some (.ref N),some (.ref a),some (.ref mk),some (.str (FK n m)),D]/\Ac H p/\p N=some (.lst (((ns++((TreeM.keysAt ws g).filter λG=>Cj n r G.1 m).map (·.2)).map λk:Nat=>(k:Int)).map V.int))/\Rd p a (.dT (DZ ws c g))) ?_ (λN' aD=>?_)
   case refine_2 =>
    refine⟨a,_,rfl,aC,λo I=>?_⟩
    have R:Ac H (upd E a (.frz o (.dT (DZ ws c g)))):=λb a7 e=>by
     by_cases aw:b=a;subst aw;rw[Aa];rcases ai with⟨y,q⟩|⟨_,q,_⟩;obtain⟨o',x⟩:=TT.dct g y;rw[<-q] at x;have x2:=B _ _ x;rcases I with I|I;rw[x2] at I;cases I;rw[x2] at I;cases I;rw[x] at e;exact e;rw[e] at q;cases q;rw[AC aw];exact B _ _ e
    have O:(upd E a (.frz o (.dT (DZ ws c g)))) N=_:=(AC (Ne.symm ar)).trans ah;have ax:(upd E a (.frz o (.dT (DZ ws c g)))) a=some (.frz o (.dT (DZ ws c g))):=Aa;generalize upd E a (.frz o (.dT (DZ ws c g)))=H3 at R O ax ⊢
    refine eX (λi σ p=>∃(D:V'),σ=[some (.ref M),some (.ref Q),some (.ref (d [])),some (.ref l),some (.ref N),some (.ref a),some (.ref mk),some (.str (FK n m)),D]/\Ac H p/\p N=some (.lst (((ns++(((TreeM.keysAt ws g).take i).filter λG=>Cj n r G.1 m).map (·.2)).map λk:Nat=>(k:Int)).map V.int))/\p a=some (.frz o (.dT (DZ ws c g))))
     ⟨_,rfl,R,by rw[EB];show H3 N=some (.lst (((ns++[]).map _).map _));rw[FA];exact O,ax⟩ (λi σ p _ af=>by obtain⟨_,_,_,_,e⟩:=af;exact e) ?_ ?_
    rotate_left;rintro σ H4 ⟨ak,rfl,J,L,W⟩;unfold DZ at L;rw[Am,EU] at L;exact aD _ _ ⟨ak,rfl,J,L,.inr ⟨o,W⟩⟩;rintro i k v b σ H4 hi ay ⟨ak,rfl,J,L,W⟩;unfold DZ at hi;rw[AQ] at hi;obtain⟨⟨x,ab⟩,hx,e⟩:=E4.mp hi;have e1:=Bw Prod.fst e;have e2:=Bw Prod.snd e;dsimp only at e1 e2;subst e1 e2;have mx:=Bf hx;have al:x∈(TreeM.keysAt ws g).map (·.1):=AW.mpr ⟨_,mx,rfl⟩;have aE:EK n x:=(by obtain⟨kw,y,q⟩:=TreeM.keysAt_mem.mp al;exact a9 kw y x (q.subset (by simp)));have aF:=TT.tup g x ab mx;have aS:Ep ws g:=(by obtain⟨kw,y,q⟩:=TreeM.keysAt_mem.mp al;exact .inr ⟨kw,y,(Jh g _).trans q⟩);have az:(TreeM.keysAt ws g).take (i+1)=(TreeM.keysAt ws g).take i++[(x,ab)]:=by rw[E8,hx];rfl
    refine⟨M,S,T,aa,b,us,Gs,Es,n,x,rfl,Ar.of (J _ _ eN),SC.same J,Ar.of ay,aE,?_⟩;refine⟨BP,λaP hp=>?_⟩;obtain⟨H5,an,t,ep⟩:=new_at (o:=.tup [.str (FK n x),.str (FK n m)]) hp;rw[<-an];have A:=J.trans t;refine⟨Q,_,rfl,De.t (k:=FM (FK n x,FK n m)) (A _ _ eb) ep,rfl,?_⟩;rw[hb];refine As (λh=>?_) (λh=>?_);have ao:Cj n r x m=true:=(by simpa [Cj] using h);refine⟨p4 ⟨rfl,_,Ae.of (t _ _ L)⟩,a,.ref (c g x),rfl,?_,p5 (p4 ⟨_,.int (ab:Int),Ar.of (A _ _ aF),rfl,_,t _ _ L,?_,?_⟩)⟩;refine .inr ⟨_,Gp x,b,.inr ⟨o,t _ _ W⟩,rfl,t _ _ ay,?_⟩;rw[PY,Ag al];rw[Am,Am,A1,Am];have y:=QX (λG:Ao×Nat=>Cj n r G.1 m) ((TreeM.keysAt ws g).take i);have q:=UW ws g;have h3:(((TreeM.keysAt ws g).take i)).length<=(TreeM.keysAt ws g).length:=by rw[FQ];lia
    have h4:=Bw List.length u;have h5:=ZD (bet:=Cj n r) (ws:=ws) (b:=w) (a:=[]);have h6:w.length*ws.length<=100*100:=Nat.mul_le_mul ok.2 a8;rw[A1] at h4;exact eA (by lia);refine⟨_,rfl,λb' a7 e=>?_,?_,?_⟩;rw[AC (A3 e Y)];exact A _ _ e;rw[Aa,az,N0,NW,Ag ao];simp;rw[AC ar];exact t _ _ W;have ao:¬Cj n r x m=true:=(by simpa [Cj] using h);refine⟨_,rfl,A,?_,t _ _ W⟩;rw[az,N0,NW,Ah ao];simpa using t _ _ L
   rintro σ' H3 ⟨ak,rfl,R,O,a2⟩;have aT:((DZ ws c g).map (·.1)).length=(DZ ws c g).length:=Am _;refine⟨a,rfl,.inr ⟨_,a2⟩,λe Z=>?_⟩;obtain⟨H4,aG,J,ee⟩:=new_at (o:=.dT []) Z;rw[<-aG];refine⟨BP,λT5 aH=>?_⟩;obtain⟨H5,an,t,aI⟩:=new_at (o:=.tup [.int 0,.ref e]) aH;rw[<-an];have X:=J.trans t;have A:=R.trans X;have aL:Rd H5 a (.dT (DZ ws c g)):=a2.elim (λz=>.inl (X _ _ z)) λ⟨o,z⟩=>.inr ⟨o,X _ _ z⟩;have aJ:e≠N:=λz=>by rw[z,O] at Z;cases Z
   refine⟨_,.inr ⟨_,Gp m,mk,aL,rfl,A _ _ ae,rfl⟩,?_⟩;rw[PY];have a0:(ns++((TreeM.keysAt ws g).filter λG=>Cj n r G.1 m).map (·.2))++TreeM.gat (Cj n r) ws (g++[m]) (w.drop (j+1))=TreeM.gat (Cj n r) ws [] w:=by rw[Gu];exact u
   by_cases C:m∈(TreeM.keysAt ws g).map (·.1);rw[Ag C];obtain⟨⟨m',k⟩,hk,rfl⟩:=AW.mp C;have aK:=TT.tup g m' k hk;have a1:=FL.mpr C;refine p5 (p4 ⟨_,.ref (d (g++[m'])),Ar.of (A _ _ aK),rfl,?_⟩);refine⟨_,_,_,_,_,rfl,A,X _ _ O,by rw[tk];exact a0,?_,.inl ⟨by rw[tk];exact a1,by rw[tk]⟩⟩;obtain⟨o,x⟩:=TT.dct _ a1;exact A3 x Y;rw[Ah C];refine p5 (p4 ⟨_,.ref e,Ar.of aI,rfl,?_⟩);exact⟨_,_,_,_,_,rfl,A,X _ _ O,by rw[tk];exact a0,aJ,.inr ⟨λz=>C (FL.mp (by rw[tk] at z;exact z)),R.free Z,.inl (t _ _ ee)⟩⟩
inductive Eh (K:Aj) (vs:U') (H:Hp) (Q:VK):Prop where
 |mk (nt S T R t D:Addr) (us Gs Es:I') (ss:List Bo) (F G:Addr->Prop) (sts:List Ew) (inn:Int) (ord:A') (zs:List (Addr×List Ao)) (h0:vs=[.ref nt,.ref t,.ref D]) (h1:H nt=some (.tup [.ref S,.ref T,.ref R])) (h2:Do H S us Gs Es ss) (h3:Go K F H t sts inn ord) (h4:ord.length<=40) (h5:(∀x,(x,x)∉ord)) (h6:H D=some (.lst (zs.map λz=>V.ref z.1))) (h7:(∀z∈zs,CQ G H z.1 z.2)) (h8:(∀z∈zs,Ki ss z.2)) (h9:zs.length<=100) (h10:∀(P:Addr)(ys:List (Addr×List Ao))(H':Hp),H P=none->Ac H H'->H' P=some (.lst (ys.map λz=>V.ref z.1))->(∀z∈ys,CQ (λl=>H l=none/\l≠P) H' z.1 z.2)->ys.map (·.2)=Cg ss ord (zs.map (·.2)) (zs.map (·.2))->Q (.ref P) H'):Eh K vs H Q
def lD (K:Aj):Sp:=λvs H Q _=>Eh K vs H Q
abbrev V9(P w K mg base):=BL P w K mg base "seen_ways" 3 ["net", "table", "ways"] (lD K)
def lE(ar:BO mg)(a0:Sq P w K mg base)(a1:Sr P w K mg base)(a2:Ss P w K mg base)(F:By K "seen_ways" "seen_ways" Q0 f fd)(L:mg "seen_ways" = some (.ref f)):V9 P w K mg base:=by
 refine B8 F L VI (λa H au av h=>?_) (λaB a9 aE s H a au av hr h=>?_);obtain⟨nt,S,aa,ab,t,ae,us,Gs,Es,g,F,G,ag,ah,n,d,rfl,_⟩:=h;rfl;obtain⟨nt,S,aa,ab,t,ae,us,Gs,Es,g,F,G,ag,ah,n,d,rfl,eN,SC,TB,ay,ai,M,q,aj,lz,aw⟩:=h
 refine⟨_,(An (AU (i:=3) VI.nd (A7 a0 (Ab (pv 1) Af)))
  (An (AU (i:=4) VI.nd (Iq (A7 a1 (Ab (pv 2) Af))))
  (Az (AZ (GJ (te:=My (Ke K) (Cu (AS 0) B3)) rfl C3 (DN (pv 2)) (λ_ _ _ _ _=>(Aw (i:=0) C3.nd)) (λ_ _ _ _ _=>(Pu (FU (GB (A7 a2 (Ab (pv 1) (Ab (pv 2) (Ab (pv 3) (Ab (pv 0) Af))))))))) (λ_ _ _ _ _=>(HU Z7 ar.b_list (Ab (pv 0) Af)))))))),?_⟩
 rfl';refine⟨t,F,ag,ah,n,rfl,TB,ay,λbp aA aC N BD=>?_⟩;refine⟨ae,G,d,rfl,N _ _ M,λz h=>(q z h).same N,lz,λax c H2 s2 T2 ak H3 r f4=>?_⟩;have s3:=r.same s2;have T3:=T2.frz ak r f4;have a3:=BD.same s3;clear T2 ak r f4 s2 BD;have p:=N.trans s3;have lw:(Be (d.map (·.2))).length<=100:=by unfold Be;rw[Am,List.length_zipIdx,Am];exact lz
 have a4:∀kw∈Be (d.map (·.2)),∀m∈kw.2,EK g m:=λkw a5 m L=>by
  obtain⟨z,h1,h2⟩:=AW.mp (Bf (Dy.mp a5));exact(aj z h1).1 m (by rw[h2];exact L)
 refine⟨⟨_,Ae.of (p _ _ M)⟩,UC (xs:=d.map λz=>V.ref z.1) (λP i u C=>∃a:List (Addr×List Ao),u=(a.map λz=>V.ref z.1)/\Ac H3 C/\C P=some (.lst u)/\(∀z∈a,CQ (λl=>H l=none/\l≠P) C z.1 z.2)/\a.map (·.2)=Cg g n (d.map (·.2)) ((d.map (·.2)).take i)/\a.length<=i)
  (λP y=>⟨[],rfl,A0 y,Aa,λz q=>by simp at q,by rw[EB];rfl,AF _⟩) (λP i u C a6=>by obtain⟨_,_,s,_⟩:=a6;exact Ae.of (s _ _ (p _ _ M))) (λP i af u H4 RR R0 y hy O k k0=>?_) (λP u H4 y O=>?_)⟩
 refine AO λNz A=>?_;obtain⟨a,rfl,j,Q,J,B,lv⟩:=O;refine A ?_;clear A;obtain⟨z,U,rfl⟩:=getm hy;have aD:i<d.length:=(AV.mp U).1;have R:=Bf U;have al:(d.map (·.2))[i]?=some z.2:=by rw[AQ,U];rfl
 have W:=p.trans j;refine⟨nt,S,aa,ab,bp,z.1,us,Gs,Es,g,n,_,ax,c,G,z.2,rfl,W _ _ eN,SC.same W,a3.same j,T3.same j,lw,a4,(q z R).same W,aj z R,λH5 D=>?_⟩;have X:=j.trans D;have an:=p.trans X;have Y:=D _ _ Q;refine⟨rfl,As (λh=>?_) (λh=>?_)⟩;have Z:=(RB ai).mp (CS.mp (BG h));obtain⟨ms,az,r,_⟩:=(q z R).same an;refine⟨z.1,_,rfl,p4 (Ae.of az),λl E=>?_⟩;obtain⟨H6,a7,I,el⟩:=new_at (o:=.lst (ms.map V.ref)) E;rw[<-a7];have ao:=I _ _ Y;have aq:l≠P:=λaf=>by rw[af,Y] at E;cases E
 have T:Keeps (·=P) H6 (upd H6 P (.lst (a.map (λz=>V.ref z.1)++[.ref l]))):=Keeps.one ao;refine k _ _ ao (by rw[Am];exact Bz (by lia)) ⟨a++[(l,z.2)],by rw[Ba];rfl,λb o e=>?_,Aa,λw a8=>?_,?_,by rw[A1,D8];lia⟩;rw[AC (A3 e y)];exact I _ _ (X _ _ e);rcases B0.mp a8 with h|h;exact((J w h).same (D.trans I)).keeps T λx hx=>hx.2;rw[AR.mp h];exact⟨ms,T.at_ _ _ el aq,(r.same I).keeps T,an.free E,aq⟩;rw[X7 al,Ah (by rw[Z];exact CA),Ba,B];rfl
 have Z:((d.map (·.2)).any λv=>BH g n v z.2)=true:=by
  cases e:(d.map (·.2)).any λv=>BH g n v z.2 with|true=>rfl|false=>exact absurd (Bs (CS.mpr ((RB ai).mpr e))) h
 exact k0 _ ⟨a,rfl,X,Y,λw hw=>(J w hw).same D,by rw[X7 al,Ag Z];exact B,by lia⟩;refine AO λNz A=>?_;obtain⟨a,rfl,j,Q,J,B,lv⟩:=O;refine A ?_;clear A;rw[Am,<-Am (f:=(·.2)),EU] at B;exact aw P a H4 ((p).free y) (p.trans j) Q J B
inductive ER (K:Aj) (vs:U') (H:Hp) (Q:VK):Prop where
 |mk (nt A t D:Addr) (x:Str) (F G:Addr->Prop) (W:Wd) (inn:Int) (ord:A') (sc st:Int) (zs:List (Addr×AK)) (h0:vs=[.ref nt,.ref t,.ref D,.str x]) (h1:Bv K H nt A t W) (h2:Go K F H t W.sts inn ord) (h3:BS W) (h4:Bd W) (h5:ord.length<=40) (h6:(∀x,(x,x)∉ord)) (h7:(0<=sc/\sc<W.ss.length)) (h8:(0<=st/\st<W.sts.length)) (h9:H D=some (.lst (zs.map λz=>V.ref z.1))) (h10:(∀z∈zs,DP G H z.1 z.2)) (h11:Dw W sc st (zs.map (·.2))) (h12:∀(r D2 P:Addr)(ws ys:List (Addr×List Ao))(H':Hp),Ac H H'->H' r=some (.tup [.ref D,.ref D2,.ref P])->H D2=none->H' D2=some (.lst (ws.map λz=>V.ref z.1))->(∀z∈ws,CQ (λl=>H l=none) H' z.1 z.2)->OA W x (zs.map (·.2)) (ws.map (·.2))->H P=none->H' P=some (.lst (ys.map λz=>V.ref z.1))->(∀z∈ys,CQ (λl=>H l=none) H' z.1 z.2)->ys.map (·.2)=Cg W.ss ord (ws.map (·.2)) (ws.map (·.2))->Q (.ref r) H'):ER K vs H Q
def lF (K:Aj):Sp:=λvs H Q _=>ER K vs H Q
abbrev Wa(P w K mg base):=BL P w K mg base "look_for" 4 ["net", "table", "begun", "name"] (lF K)
def lG(aj:BO mg)(aa:V4 P w K mg base)(ab:V9 P w K mg base)(F:By K "look_for" "look_for" S3 f fd)(N:mg "look_for" = some (.ref f)):Wa P w K mg base:=by
 refine B8 F N Zj (λO H Q E h=>?_) (λal A an s H O Q E y h=>?_);obtain⟨j,A,t,D,x,F,G,W,J,L,k,l,m,rfl,_⟩:=h;rfl;obtain⟨j,A,t,D,x,F,G,W,J,L,k,l,m,rfl,B,U,ok,C,V,ae,e,g,X,Y,c,q⟩:=h;obtain⟨S,T,R,us,Z,Es,ts,qt,qs,eN,N3⟩:=B.net
 refine⟨_,(An (AU (i:=4) Zj.nd (A7 aa (Ab (pv 0) (Ab (pv 1) (Ab (pv 2) (Ab (pv 3) Af))))))
  (Az (AZ (Bl (Ab (pv 2) (Ab (pv 4) (Ab (A7 ab (Ab (pv 0) (Ab (pv 1) (Ab (pv 4) Af)))) Af))))))),?_⟩
 rfl';refine⟨j,A,t,D,x,G,W,m,rfl,B,ok,X,Y,λz af=>((c.mem _).mp (AW.mpr ⟨z,af,rfl⟩)).ok ok e g,C.fnd x k l _ e g c,λn d ak ag a M I p=>?_⟩;have ah:∀z∈d,z.2∈DY W x (m.map (·.2)):=λz h=>p.perm.mem_iff.mp (AW.mpr ⟨z,h,rfl⟩);have lw:d.length<=100:=(by have h1:=p.perm.length_eq;have h2:=C.fnd x k l _ e g c;rw[Am] at h1;lia);refine⟨j,S,T,R,t,n,us,Z,Es,W.ss,F,_,W.sts,J,L,d,rfl,a _ _ eN,N3.sc.same a,U.same a,V,ae,M,I,λz h=>Rx ok e g c (ah z h),lw,λP ys H2 hP u eP hy ai=>?_⟩;refine⟨GK,λr y=>?_⟩;have b:=A0 (o:=.tup [.ref D,.ref n,.ref P]) y;refine q r n P d ys _ ((a.trans u).trans b) Aa ag (b _ _ (u _ _ M)) (λz h=>(((I z h).mono' λ_ _ _ v=>v.1).same u).same b) p (a.free hP) (b _ _ eP) (λz h=>((hy z h).mono' λx o _ v=>a.free v.1).same b) ai
inductive DG (K:Aj) (vs:U') (H:Hp) (Q:VK):Prop where
 |mk (nt S T R t D O:Addr) (us Gs Es:I') (ss:List Bo) (F G:Addr->Prop) (sts:List Ew) (inn:Int) (ord:A') (ws:List (Addr×List Ao)) (os:List (Addr×Ow)) (h0:vs=[.ref nt,.ref t,.ref D,.ref O]) (h1:H nt=some (.tup [.ref S,.ref T,.ref R])) (h2:Do H S us Gs Es ss) (h3:Go K F H t sts inn ord) (h4:ord.length<=40) (h5:(∀x,(x,x)∉ord)) (h6:H D=some (.lst (ws.map λz=>V.ref z.1))) (h7:(∀z∈ws,CQ G H z.1 z.2)) (h8:(∀z∈ws,Ki ss z.2)) (h9:ws.length<=100) (h10:H O=some (.lst (os.map λz=>V.ref z.1))) (h11:(∀z∈os,FX G H z.1 z.2)) (h12:(∀z∈os,Ki ss z.2.1)) (h13:∀(v:V)(H':Hp),Ac H H'->U7 G H' v (E6 ss ord (ws.map (·.2)) (os.map (·.2)))->Q v H'):DG K vs H Q
def lH (K:Aj):Sp:=λvs H Q _=>DG K vs H Q
abbrev Wb(P w K mg base):=BL P w K mg base "first_owed" 3 ["net", "table", "found", "owed"] (lH K)
def lI(a0:BO mg)(ao:Sq P w K mg base)(aq:Sr P w K mg base)(ar:Ss P w K mg base)(F:By K "first_owed" "first_owed" S4 f fd)(u:mg "first_owed" = some (.ref f)):Wb P w K mg base:=by
 refine B8 F u Qv (λvs H aj ak h=>?_) (λa3 a1 a5 s H vs aj ak hr h=>?_);obtain⟨y,S,T,R,t,D,O,us,L,M,b,F,G,aa,ab,g,a,p,rfl,_⟩:=h;rfl
 . obtain⟨y,S,T,R,t,D,O,us,L,M,b,F,G,aa,ab,g,a,p,rfl,eN,SC,TB,an,ae,eD,hw,au,af,N,ho,av,q⟩:=h
   refine⟨_,(An (AU (i:=4) Qv.nd (A7 ao (Ab (pv 1) Af)))
    (An (AU (i:=5) Qv.nd (Iq (A7 aq (Ab (pv 2) Af))))
    (An (Dr CP rfl (DN (pv 3)) (Cb (n:=2) rfl (AE (Aw (i:=6) Qv.nd) (AE (Aw (i:=7) Qv.nd) Ca))) (Az (BA (FU (GB (A7 ar (Ab (pv 0) (Ab (pv 4) (Ab (pv 5) (Ab (pv 6) Af))))))) (Az (AZ (Bl (Ab (pv 6) (Ab (pv 7) Af))))) BE)))
    (Az (AZ GA))))),?_⟩
   rfl';refine⟨t,F,aa,ab,g,rfl,TB,an,λQ a2 a4 A U=>?_⟩;refine⟨D,G,a,rfl,A _ _ eD,λz h=>(hw z h).same A,af,λd c H2 W X ag H3 B Y=>?_⟩;have Z:=B.same W;have T3:=X.frz ag B Y;have aw:=U.same Z;clear X ag B Y W U;have r:=A.trans Z;have lw:(Be (a.map (·.2))).length<=100:=by unfold Be;rw[Am,List.length_zipIdx,Am];exact af
   have ax:∀kw∈Be (a.map (·.2)),∀m∈kw.2,EK b m:=λkw ay m u=>by
    obtain⟨z,h1,h2⟩:=AW.mp (Bf (Dy.mp ay));exact(au z h1).1 m (by rw[h2];exact u)
   refine⟨⟨_,Ae.of (r _ _ N)⟩,F5 (xs:=p.map λz=>V.ref z.1) (λi σ H'=>∃C E,σ=[some (.ref y),some (.ref t),some (.ref D),some (.ref O),some (.ref Q),some (.ref (d [])),C,E]/\Ac H3 H'/\E6 b g (a.map (·.2)) (p.map (·.2))=E6 b g (a.map (·.2)) ((p.map (·.2)).drop i))
    ⟨none,none,rfl,λ_ _ e=>e,rfl⟩ (λi σ H' _ az=>by obtain⟨_,_,_,s,_⟩:=az;exact Ae.of (s _ _ (r _ _ N))) ?_ ?_⟩
   rotate_left;rintro σ H4 ⟨C,E,rfl,j,k⟩;rw[Am,<-Am (f:=(·.2)),List.drop_length] at k;refine q _ _ (r.trans j) ?_;rw[k];rfl;rintro i x σ H4 hx ⟨C,E,rfl,j,k⟩;obtain⟨z,ah,rfl⟩:=getm hx;have mz:=Bf ah;have I:=r.trans j;obtain⟨l,e1,wl⟩:=((ho z mz).same I).way;have hd:=Va (l:=p.map (·.2)) (i:=i) (x:=z.2) (by rw[AQ,ah];rfl);rw[hd] at k;refine⟨_,Ar.of e1,rfl,?_⟩;refine⟨y,S,T,R,Q,l,us,L,M,b,g,_,d,c,G,z.2.1,rfl,I _ _ eN,SC.same I,aw.same j,T3.same j,lw,ax,wl,av z mz,λH5 s5=>?_⟩;have ai:=j.trans s5;refine⟨rfl,As (λh=>?_) (λh=>?_)⟩;have J:=(RB ae).mp (CS.mp (BG h));refine⟨BP,λal hp=>?_⟩;have s6:=A0 (o:=.tup [.ref l,.int z.2.2]) hp;refine q _ _ ((r.trans ai).trans s6) ?_;rw[k,RK J];exact⟨al,l,rfl,Aa,(wl.same s5).same s6⟩
   have J:((a.map (·.2)).any λv=>BH b g v z.2.1)=true:=by
    cases e:(a.map (·.2)).any λv=>BH b g v z.2.1 with|true=>rfl|false=>exact absurd (Bs (CS.mpr ((RB ae).mpr e))) h
   exact⟨_,_,rfl,ai,by rw[k,RL J]⟩
inductive DH (K:Aj) (vs:U') (H:Hp) (Q:VK):Prop where
 |mk (nt S T R mk:Addr) (us Gs Es:I') (ss:List Bo) (m:Ao) (h0:vs=[.ref nt,.ref mk]) (h1:Ar K H nt [.ref S,.ref T,.ref R]) (h2:Do H S us Gs Es ss) (h3:Ar K H mk (Hg m)) (h4:EK ss m) (h5:m.2.1=o6) (h6:∀t,H t=some (.tup (GL (LJ ss m)))->Q (.ref t) H):DH K vs H Q
def lJ (K:Aj):Sp:=λvs H Q _=>DH K vs H Q
abbrev QK(P w K mg base):=BL P w K mg base "telling_at" 1 ["net", "mark"] (lJ K)
def lK(B:BO mg)(F:By K "telling_at" "telling_at" S5 f fd)(c:mg "telling_at" = some (.ref f)):QK P w K mg base:=by
 refine B8 F c Qw (λx H Q E h=>?_) (λag A ah s H x Q E hr h=>?_);obtain⟨y,S,T,R,mk,us,z,C,j,m,rfl,_⟩:=h;rfl;obtain⟨y,S,T,R,mk,us,z,C,j,m,rfl,D,l,c,⟨n,k,aa,o,p,d,G⟩,Y,q⟩:=h;have W:n<j.length:=(AV.mp d).1;obtain⟨u,ab,I,J,ae,af,r,⟨L,⟨tG,b1,M⟩,⟨a,N,b⟩⟩⟩:=l.get W;rw[d] at r;have O:=Bt r;rw[<-O] at M b;have X:Bm (us.map V.ref) m.1=some (.ref u):=by rw[o];exact A8 (by rw[AQ,J];rfl)
 refine⟨_,(An (Dl (pv 1) (Cb (n:=3) rfl (AE (Aw (i:=2) Qw.nd) (AE (Aw (i:=3) Qw.nd) (AE (Aw (i:=4) Qw.nd) Ca)))))
  (An (AU (i:=5) Qw.nd (At Au (At Au (At Au (pv 0) Ap) (pv 2)) Ap))
  (Az (AZ (At Au (pv 5) (pv 4)))))),?_⟩
 rfl';refine⟨_,c,rfl,?_⟩;refine p5 (p4 ⟨_,.ref S,D,rfl,p4 ⟨_,.ref u,Ae.of l.top,X,p5 (p4 ⟨_,.ref I,Ar.of L,rfl,?_⟩)⟩⟩);rcases G with⟨e,_⟩|⟨_,g⟩;exact absurd (Y.symm.trans e) UO;have t:=AD g;rw[RI o p d t] at q;have v:a[k]?=some (a[k]'(by rw[b.len];exact g)):=AD _;have U:=b.at_ _ _ _ v t;have Z:Bm (a.map V.ref) m.2.2=some (.ref (a[k]'(by rw[b.len];exact g))):=by rw[p];exact A8 (by rw[AQ,v];rfl)
 exact p4 ⟨_,_,Ae.of N,Z,q _ U⟩
inductive DI (K:Aj) (vs:U') (H:Hp) (Q:VK):Prop where
 |mk (nt A t P:Addr) (G:Addr->Prop) (W:Wd) (ys:List (Addr×List Ao)) (h0:vs=[.ref nt,.ref A,.ref P]) (h1:Bv K H nt A t W) (h2:Bd W) (h3:H P=some (.lst (ys.map λz=>V.ref z.1))) (h4:(∀z∈ys,CQ G H z.1 z.2)) (h5:(∀z∈ys,CV W.ss z.2)) (h6:∀(v:V)(H':Hp),Ac H H'->U7 G H' v (Fi W (ys.map (·.2)))->Q v H'):DI K vs H Q
def lL (K:Aj):Sp:=λvs H Q _=>DI K vs H Q
abbrev Wc(P w K mg base):=BL P w K mg base "first_open" 2 ["net", "answers", "seen"] (lL K)
def lM(an:BO mg)(aj:QK P w K mg base)(F:By K "first_open" "first_open" S6 f fd)(hm:mg "first_open" = some (.ref f)):Wc P w K mg base:=by
 refine B8 F hm OP (λvs H aa ab h=>?_) (λao A ar s H vs aa ab hr h=>?_);obtain⟨g,A,t,P,ae,W,c,rfl,_⟩:=h;rfl
 . obtain⟨g,A,t,P,ae,W,c,rfl,J,sm,L,hy,R,q⟩:=h
   obtain⟨af,ag,ah,us,Gs,Es,ts,qt,qs,eN,N3⟩:=J.net
   refine⟨_,(An (Dr CP rfl (DN (pv 2)) (Aw (i:=3) OP.nd) (An (Dl (A7 aj (Ab (pv 0) (Ab (At Au (pv 3) (GG GH Ap)) Af))) (Cb (n:=4) rfl (AE (Aw (i:=4) OP.nd) (AE (Aw (i:=5) OP.nd) (AE (Aw (i:=6) OP.nd) (AE (Aw (i:=7) OP.nd) Ca))))))
    (Az (BA (PW.pt (HJ (BU Dd (pv 6) Br (BJ _)) (Jj (FU (GB (At Au (pv 1) (pv 7))))))) (Az (AZ (Bl (Ab (pv 3) (Ab (pv 7) Af))))) BE))))
    (Az (AZ GA))),?_⟩
   try dsimp only[AH,Cx.nox,Cx.wish]
   refine⟨⟨_,Ae.of L⟩,F5 (xs:=c.map λz=>V.ref z.1) (λi σ M=>∃j r u y B,σ=[some (.ref g),some (.ref A),some (.ref P),j,r,u,y,B]/\Ac H M/\Fi W (c.map (·.2))=Fi W ((c.map (·.2)).drop i))
    ⟨none,none,none,none,none,rfl,λ_ _ e=>e,rfl⟩ (λi σ M _ ak=>by obtain⟨_,_,_,_,_,_,s,_⟩:=ak;exact Ae.of (s _ _ L)) ?_ ?_⟩
   rotate_left;refine λσ H4 G=>AO λNz d=>?_;obtain⟨j,r,u,y,B,rfl,a,b⟩:=G;refine d ?_;clear d;rw[Am,<-Am (f:=(·.2)),List.drop_length] at b;refine q _ _ a ?_;rw[b];rfl;refine λi x σ H4 hx G=>AO λNz d=>?_;obtain⟨j,r,u,y,B,rfl,a,b⟩:=G;refine d ?_;clear d;obtain⟨z,S,rfl⟩:=getm hx;have C:=Bf S;have hd:=Va (l:=c.map (·.2)) (i:=i) (x:=z.2) (by rw[AQ,S];rfl);rw[hd] at b;have tk:=M6 sm (R z C);have N:=(hy z C).same a;obtain⟨vv,m,O,mo,ai⟩:=R z C;have T:=N;rw[O] at T;obtain⟨ms,mk,l1,l2,l3⟩:=Yg T;refine p4 ⟨_,.ref mk,Ae.of l1,l2,g,af,ag,ah,mk,us,Gs,Es,W.ss,m,rfl,Ar.of (a _ _ eN),N3.sc.same a,Ar.of l3,mo,ai,λtp U=>?_⟩;have et:LJ W.ss m=Cp W.ss z.2:=(by rw[O,OD]);rw[et] at U;refine⟨_,Ar.of U,rfl,?_⟩;refine⟨rfl,rfl,As (λh=>?_) (λh=>?_)⟩;rotate_left;have hn:(Cp W.ss z.2).2.2.1≠n7:=λe=>h (Bs (by rw[e]));refine Bi ?_;refine⟨_,_,_,_,_,rfl,a,?_⟩;rw[b,P6 (Ah λe=>hn e.1)];have X:(Cp W.ss z.2).2.2.1=n7:=V.str.inj (BG h);rcases tk with⟨e,_⟩|⟨_,k0,k1⟩;rw[X] at e;exact absurd e (by decide +kernel);obtain⟨k,D⟩:=Ea k0;have al:k<W.as.length:=(by lia);obtain⟨I,v,Y,hv,hc⟩:=(J.ans.same a).get al;have Z:Bm I (Cp W.ss z.2).2.2.2=some v:=by rw[D];exact A8 hv
   rcases hc with⟨E,rfl⟩|⟨p,ta,E,rfl,aq⟩;refine p4 ⟨I,_,Y,Z,rfl,As (λ_=>?_) (λh=>absurd (Bs rfl) h)⟩;refine⟨BP,λp hp=>?_⟩;have Q:=A0 (o:=.tup [.ref z.1,.int (Cp W.ss z.2).2.2.2]) hp;refine q _ _ (a.trans Q) ?_;rw[b,Vb (q:=(Cp W.ss z.2).2.2.2) (Ag ⟨X,by rw[D,Bn];exact E⟩)];exact⟨p,z.1,rfl,Aa,N.same Q⟩;refine p4 ⟨I,_,Y,Z,rfl,As (λh=>absurd (BG h) (by simp)) (λ_=>?_)⟩;refine⟨_,_,_,_,_,rfl,a,?_⟩;rw[b,P6 (Ah λe=>by have:=e.2;rw[D,Bn,E] at this;cases this)]
inductive Fu (K:Aj) (vs:U') (H:Hp) (Q:VK):Prop where
 |mk (nt A t l:Addr) (G:Addr->Prop) (W:Wd) (w:X') (h0:vs=[.ref nt,.ref A,.ref l]) (h1:Bv K H nt A t W) (h2:Bd W) (h3:CQ G H l w) (h4:CV W.ss w) (h5:D0 W w=none) (h6:Q (Eo (Bh W w)) H):Fu K vs H Q
def lO (K:Aj):Sp:=λvs H Q _=>Fu K vs H Q
abbrev We(P w K mg base):=BL P w K mg base "meaning" 2 ["net", "answers", "way"] (lO K)
def lP(ai:BO mg)(aa:QK P w K mg base)(F:By K "meaning" "meaning" S7 f fd)(C:mg "meaning" = some (.ref f)):We P w K mg base:=by
 refine B8 F C NF (λD H Q E h=>?_) (λaj A ak s H D Q E hr h=>?_);obtain⟨g,A,t,l,G,W,w,rfl,_⟩:=h;rfl;obtain⟨g,A,t,l,G,W,w,rfl,j,I,o,r,d,q⟩:=h;obtain⟨S,T,R,us,J,L,ts,qt,qs,M,N⟩:=j.net;have tk:=M6 I r;obtain⟨vv,m,u,O,U⟩:=r;have X:LJ W.ss m=Cp W.ss w:=(by rw[u,OD]);rw[u] at o;obtain⟨ms,mk,Y,Z,l3⟩:=Yg o
 refine⟨_,(An (Dl (A7 aa (Ab (pv 0) (Ab (At Au (pv 2) (GG GH Ap)) Af))) (Cb (n:=4) rfl (AE (Aw (i:=3) NF.nd) (AE (Aw (i:=4) NF.nd) (AE (Aw (i:=5) NF.nd) (AE (Aw (i:=6) NF.nd) Ca))))))
  (An (BA (BU Dd (pv 5) Br (BJ _)) (Az (AZ (pv 6))) BE)
  (An (Dl (At Au (pv 1) (pv 6)) (Cb (n:=2) rfl (AE (Aw (i:=5) NF.nd) (AE (Aw (i:=6) NF.nd) Ca))))
  (An (BA (BU Dd (pv 5) Br (BJ _)) (Az (AZ (pv 6))) BE)
  (Az (AZ GA)))))),?_⟩
 rfl';refine p4 ⟨_,.ref mk,Ae.of Y,Z,g,S,T,R,mk,us,J,L,W.ss,m,rfl,Ar.of M,N.sc,Ar.of l3,O,U,λtp z=>?_⟩;rw[X] at z;refine⟨_,Ar.of z,rfl,?_⟩;refine⟨rfl,rfl,As (λh=>?_) (λh=>?_)⟩;have ht:(Cp W.ss w).2.2.1=f':=V.str.inj (BG h);rw[show Bh W w=some (Cp W.ss w).2.2.2 from Ag ht] at q;exact q;have x:(Cp W.ss w).2.2.1≠f':=λe=>h (Bs (by rw[e]));rcases tk with⟨e,_⟩|⟨ab,k0,k1⟩;exact absurd e x;obtain⟨k,a⟩:=Ea k0;have ae:k<W.as.length:=(by lia);obtain⟨B,v,af,hv,hc⟩:=j.ans.get ae;have ag:Bm B (Cp W.ss w).2.2.2=some v:=by rw[a];exact A8 hv
 rcases hc with⟨b,rfl⟩|⟨p,ta,b,rfl,ah⟩;unfold D0 at d;rw[Ag ⟨ab,by rw[a,Bn];exact b⟩] at d;cases d;have y:Bh W w=if p.1=f' then some p.2 else none:=(by unfold Bh;rw[Ah x,a,Bn,b]);refine p4 ⟨B,_,af,ag,?_⟩;refine⟨_,ah,rfl,?_⟩;refine⟨rfl,rfl,As (λh=>?_) (λh=>?_)⟩;have c:p.1=f':=V.str.inj (BG h);rw[y,Ag c] at q;exact q;have c:p.1≠f':=λe=>h (Bs (by rw[e]));rw[y,Ah c] at q;exact q
inductive Ma (K:Aj) (vs:U') (H:Hp) (Q:VK):Prop where
 |mk (nt A t O r D D2 P:Addr) (F G:Addr->Prop) (W:Wd) (inn:Int) (ord:A') (ws ys:List (Addr×List Ao)) (os:List (Addr×Ow)) (at_:Int) (h0:vs=[.ref nt,.ref A,.ref t,.ref O,.ref r,.int at_]) (h1:Bv K H nt A t W) (h2:Go K F H t W.sts inn ord) (h3:Bd W) (h4:ord.length<=40) (h5:(∀x,(x,x)∉ord)) (h6:H r=some (.tup [.ref D,.ref D2,.ref P])) (h7:H D2=some (.lst (ws.map λz=>V.ref z.1))) (h8:(∀z∈ws,CQ G H z.1 z.2)) (h9:(∀z∈ws,Ki W.ss z.2)) (h10:ws.length<=100) (h11:(∀z∈ws,CV W.ss z.2)) (h12:H P=some (.lst (ys.map λz=>V.ref z.1))) (h13:(∀z∈ys,CQ G H z.1 z.2)) (h14:ys.map (·.2)=Cg W.ss ord (ws.map (·.2)) (ws.map (·.2))) (h15:H O=some (.lst (os.map λz=>V.ref z.1))) (h16:(∀z∈os,FX G H z.1 z.2)) (h17:(∀z∈os,Ki W.ss z.2.1)) (h18:∀(v:Addr)(a:C')(w:Option Wt)(H':Hp),Ac H H'->BC W ord (ws.map (·.2)) (os.map (·.2)) at_=(a,w)->A9 G H' (.ref v) (.tup [B4 a,Iy w])->Q (.ref v) H'):Ma K vs H Q
def NP (K:Aj):Sp:=λvs H Q _=>Ma K vs H Q
abbrev Jd(P w K mg base):=BL P w K mg base "met" 4 ["net", "answers", "table", "owed", "look", "at"] (NP K)
def lQ(aj:BO mg)(a3:Wb P w K mg base)(a4:Wc P w K mg base)(a5:We P w K mg base)(F:By K "met" "met" N5 f fd)(hm:mg "met" = some (.ref f)):Jd P w K mg base:=by
 refine B8 F hm K1 (λm H aw ax h=>?_) (λaM A aO s H m aw ax hr h=>?_);obtain⟨R,A,t,ag,ak,al,D2,P,F,G,W,ao,ord,a,p,S,at_,rfl,_⟩:=h;rfl
 . obtain⟨R,A,t,ag,ak,al,D2,P,F,G,W,ao,ord,a,p,S,at_,rfl,hC,TB,sm,a1,a6,er,a7,hw,a8,lw,a9,eP,hy,N,eO,ho,aA,aa⟩:=h
   obtain⟨ay,az,a0,us,Gs,Es,ts,qt,qs,eN,N3⟩:=hC.net
   have aq:∀z∈p,CV W.ss z.2:=λz h=>by
    have d:z.2∈p.map (·.2):=AW.mpr ⟨z,h,rfl⟩;rw[N] at d;obtain⟨ab,q,h3⟩:=AW.mp (OF d);rw[<-h3];exact a9 ab q
   have ly:p.length<=100:=(by have d:=Bw List.length N;have q:=fN (ss:=W.ss) (ord:=ord) (all:=a.map (·.2)) (l:=a.map (·.2));rw[Am] at d q;lia)
   refine⟨_,(An (Dl (pv 4) (Cb (n:=3) rfl (AE (Aw (i:=6) K1.nd) (AE (Aw (i:=7) K1.nd) (AE (Aw (i:=8) K1.nd) Ca)))))
    (An (AU (i:=9) K1.nd (A7 a3 (Ab (pv 0) (Ab (pv 2) (Ab (pv 7) (Ab (pv 3) Af))))))
    (An (BA (FU (GB (pv 9))) (Az (AU (i:=9) K1.nd (A7 a4 (Ab (pv 0) (Ab (pv 1) (Ab (pv 8) Af)))))) BE)
    (An (BA (FU (N9 (pv 9))) (An (Dl (pv 9) (Cb (n:=2) rfl (AE (Aw (i:=10) K1.nd) (AE (Aw (i:=11) K1.nd) Ca))))
     (Az (AZ (Bl (Ab GA (Ab (Bl (Ab (pv 5) (Ab (pv 10) (Ab (pv 11) Af)))) Af)))))) BE)
    (An (AU (i:=12) K1.nd (GJ rfl G1 (DN (pv 8)) (λ_ _ _ _ _=>(Aw (i:=0) G1.nd)) (λ_ _ _ _ _=>FV) (λ_ _ _ _ _=>(A7 a5 (Ab (pv 1) (Ab (pv 2) (Ab (pv 0) Af)))))))
    (An (BA (GC (Cv (cL rfl) aj.b_all (Ab (GJ rfl G4 (DN (pv 12)) (λ_ _ _ _ _=>(Aw (i:=0) G4.nd)) (λ_ _ _ _ _=>FV) (λ_ _ _ _ _=>(Ts (GB (pv 0))))) Af))) (Az (AZ (Bl (Ab (Bl (Ab Br (Ab (pv 5) Af))) (Ab GA Af))))) BE)
    (An (BA (GC (Cv (XW rfl) aj.b_any (Ab (GJ (te:=Ct TR (AS 0) (Ct (DT K) (AS 1) (tC (.int ((0:Nat):Int))))) rfl G5 (DN (pv 12)) (λ_ _ _ _ _=>(Aw (i:=0) G5.nd)) (λ_ _ _ _ _=>FV) (λ_ _ _ _ _=>(Jl JN (pv 0) (At Au (pv 1) Ap) (BJ _)))) Af))) (Az (AZ (Bl (Ab (Bl (Ab Br (Ab (pv 5) Af))) (Ab GA Af))))) BE)
    (Az (AZ (Bl (Ab (Bl (Ab Br (Ab (At Au (pv 12) Ap) Af))) (Ab GA Af)))))))))))),?_⟩
   rfl';refine⟨_,Ar.of er,rfl,?_⟩;refine⟨R,ay,az,a0,t,D2,ag,us,Gs,Es,W.ss,F,G,W.sts,ao,ord,a,S,rfl,eN,N3.sc,TB,a1,a6,a7,hw,a8,lw,eO,ho,aA,λa2 aK T ae=>?_⟩;refine Em ?_;cbv;refine Jp (λσ' E=>∃v,σ'=[some (.ref R),some (.ref A),some (.ref t),some (.ref ag),some (.ref ak),some (.int at_),some (.ref al),some (.ref D2),some (.ref P),some v,none,none,none]/\Ac H E/\U7 G E v (DQ W ord (a.map (·.2)) (S.map (·.2)))) ?_ (λaL hN=>?_);rotate_left
   cases e:E6 W.ss ord (a.map (·.2)) (S.map (·.2)) with
   |none=>rw[e] at ae;obtain rfl:a2=.non:=ae;refine⟨rfl,As (λ_=>?_) (λh=>absurd (Bs rfl) h)⟩;refine⟨R,A,t,P,G,W,p,rfl,hC.same T,sm,T _ _ eP,λz h=>(hy z h).same T,aq,λv2 H2 r ar=>?_⟩;refine hN _ _ ⟨v2,rfl,T.trans r,?_⟩;unfold DQ;rw[e];rw[N] at ar;exact ar
   |some o=>rw[e] at ae;obtain⟨an,l,rfl,d,q⟩:=ae;refine⟨rfl,As (λh=>absurd (BG h) (by simp)) (λ_=>?_)⟩;refine hN _ _ ⟨_,rfl,T,?_⟩;unfold DQ;rw[e];exact⟨an,l,rfl,d,q⟩
   rintro σ' H2 ⟨v,rfl,r,g⟩
   cases e:DQ W ord (a.map (·.2)) (S.map (·.2)) with
   |some o=>rw[e] at g;obtain⟨an,l,rfl,d,q⟩:=g;refine⟨rfl,As (λ_=>?_) (λh=>absurd rfl h)⟩;refine⟨_,Ar.of d,rfl,?_⟩;refine⟨GK,λJ B=>?_⟩;obtain⟨H3,aB,u,e3⟩:=new_at (o:=.tup [.int at_,.ref l,.int o.2]) B;rw[<-aB];refine⟨BP,λx D=>?_⟩;have c:=A0 (o:=.tup [.non,.ref J]) D;exact aa x _ _ _ ((r.trans u).trans c) (LL e) (.tup Aa (.cons .non (.cons (.tup (c _ _ e3) (.cons (.int _) (.cons ((q.same u).same c).own (.cons (.int _) .nil)))) .nil)))
   |none=>
    rw[e] at g;obtain rfl:v=.non:=g;refine⟨rfl,As (λh=>absurd h (by decide)) (λ_=>?_)⟩;have aC:=Vc (Yd e)
    refine⟨⟨_,Ae.of (r _ _ eP)⟩,Py (xs:=p.map λz=>V.ref z.1) (λM i m E=>Ac H2 E/\E M=some (.lst m)/\m=((p.map (·.2)).take i).map λw=>Eo (Bh W w))
     (λM hM=>⟨A0 hM,Aa,by rw[EB];rfl⟩) (λM i m E aD=>by obtain⟨s,_⟩:=aD;exact Ae.of (s _ _ (r _ _ eP))) (λM i ab m H3 RR hM aE g k=>?_) (λM m H3 hM g=>?_)⟩
    obtain⟨u,I,rfl⟩:=g;obtain⟨z,au,rfl⟩:=getm aE;have mz:=Bf au;have O:=r.trans u;have mo:z.2∈Cg W.ss ord (a.map (·.2)) (a.map (·.2)):=by rw[<-N];exact AW.mpr ⟨z,mz,rfl⟩
    refine⟨R,A,t,z.1,G,W,z.2,rfl,hC.same O,sm,(hy z mz).same O,aq z mz,aC _ mo,?_⟩;refine k _ _ I ?_ ⟨λb o e=>?_,Aa,?_⟩;rw[Am,FQ,Am];exact Bz (by lia);rw[AC (A3 e hM)];exact u _ _ e;rw[E8,AQ,au,Ba];rfl;obtain⟨u,I,rfl⟩:=g;rw[Am,<-Am (f:=(·.2)),EU,N] at I;generalize ah:Cg W.ss ord (a.map (·.2)) (a.map (·.2))=C at *;have ls:C.length<=100:=by rw[<-N,Am];exact ly
    have O:=r.trans u;refine Em ?_;cbv;refine⟨⟨_,Ae.of I⟩,Um (xs:=C.map λw=>Eo (Bh W w)) (λv=>V.bl (decide (v=V.non))) (by rw[Am];exact Cf (Bz (by lia))) (Ae.of I) (λj ab H4 D4 R4 aN c aF k4=>(k4 _ (Ac.refl _))) (λH4 D4 c aF e4=>?_)⟩;refine⟨D4,(C.map λw=>Eo (Bh W w)).map λv=>decide (v=V.non),rfl,Ae.of (by rw[e4,DK (f:=λv=>decide (v=V.non))];rfl),rfl,As (λh=>?_) (λh=>?_)⟩;refine⟨BP,λJ B=>?_⟩;obtain⟨H5,aG,y,e5⟩:=new_at (o:=.tup [.str "none",.int at_]) B;rw[<-aG];refine⟨BP,λx D=>?_⟩;have L:=A0 (o:=.tup [.ref J,.non]) D;refine aa x (some ("none",at_)) none _ (((O.trans c).trans y).trans L) ?_ (.tup Aa (.cons (.tup (L _ _ e5) (.cons (.str _) (.cons (.int _) .nil))) (.cons .non .nil)));rw[Iz e,ah,RJ (Gd.mp h)];have U:¬∀w∈C,Bh W w=none:=λz=>h (Gd.mpr z);cases Q:C with|nil=>rw[Q] at U;exact absurd (λw hw=>by cases hw) U|cons X r0=>have af:=c _ _ I;have h0:Bm (C.map λw=>Eo (Bh W w)) ((0:Nat):Int)=some (Eo (Bh W X)):=A8 (by rw[Q];rfl);refine⟨⟨_,Ae.of af⟩,Um (xs:=C.map λw=>Eo (Bh W w)) (λv=>V.bl (!decide (v=Eo (Bh W X)))) (by rw[Am];exact Cf (Bz (by lia))) (Ae.of af) (λj ab H5 D5 R5 aH y aI k5=>?_) (λH5 D5 y aI e5=>?_)⟩;obtain⟨w,_,rfl⟩:=getm aH;exact p4 ⟨_,_,Ae.of (y _ _ af),h0,fX _ _,k5 _ (Ac.refl _)⟩;refine⟨D5,(C.map λw=>Eo (Bh W w)).map λv=>!decide (v=Eo (Bh W X)),rfl,Ae.of (by rw[e5,DK (f:=λv=>!decide (v=Eo (Bh W X)))];rfl),rfl,As (λh5=>?_) (λh5=>?_)⟩;refine⟨BP,λJ B=>?_⟩;obtain⟨H6,ai,L,e6⟩:=new_at (o:=.tup [.str "torn",.int at_]) B;rw[<-ai];refine⟨BP,λx D=>?_⟩;have Y:=A0 (o:=.tup [.ref J,.non]) D;refine aa x (some ("torn",at_)) none _ ((((O.trans c).trans y).trans L).trans Y) ?_ (.tup Aa (.cons (.tup (Y _ _ e6) (.cons (.str _) (.cons (.int _) .nil))) (.cons .non .nil)));have Z:=IA.mp h5;rw[Q] at U Z;rw[Iz e,ah,Q,P4 U Z];have Z:∀v∈C,Bh W v=Bh W X:=p9 λz=>h5 (IA.mpr z);have av:=U;rw[Q] at av Z;obtain⟨n,en,ea⟩:=P5 (at_:=at_) av Z;have aJ:=y _ _ af;rw[en] at h0;refine p4 ⟨_,.int n,Ae.of aJ,h0,BP,λJ B=>?_⟩;obtain⟨H6,ai,L,e6⟩:=new_at (o:=.tup [.str "thing",.int n]) B;rw[<-ai];refine⟨BP,λx D=>?_⟩;have Y:=A0 (o:=.tup [.ref J,.non]) D;refine aa x (some ("thing",n)) none _ ((((O.trans c).trans y).trans L).trans Y) ?_ (.tup Aa (.cons (.tup (Y _ _ e6) (.cons (.str _) (.cons (.int _) .nil))) (.cons .non .nil)));rw[Iz e,ah,Q,ea]
inductive C8 (K:Aj) (vs:U') (H:Hp) (Q:VK):Prop where
 |mk (nt A t D:Addr) (F:Addr->Prop) (W:Wd) (zs:List (Addr×AK)) (h0:vs=[.ref nt,.ref A,.ref t,.ref D]) (h1:Bv K H nt A t W) (h2:BS W) (h3:H D=some (.lst (zs.map λz=>V.ref z.1))) (h4:(∀z∈zs,DP F H z.1 z.2)) (h5:(∀z∈zs,Dv W z.2)) (h6:zs.length<=62) (h7:(Gb W (zs.map (·.2))).length<=62) (h8:∀(D2:Addr)(ws:List (Addr×Ow))(H':Hp),H D2=none->Ac H H'->H' D2=some (.lst (ws.map λz=>V.ref z.1))->(∀z∈ws,FX (λl=>H l=none/\l≠D2) H' z.1 z.2)->PR W (zs.map (·.2)) (ws.map (·.2))->Q (.ref D2) H'):C8 K vs H Q
def lR (K:Aj):Sp:=λvs H Q _=>C8 K vs H Q
abbrev Wf(P w K mg base):=BL P w K mg base "owed_behind" 5 ["net", "answers", "table", "begun"] (lR K)
def lS(a0:BO mg)(a7:So P w K mg base)(F:By K "owed_behind" "owed_behind" S8 f fd)(C:mg "owed_behind" = some (.ref f)):Wf P w K mg base:=by
 refine B8 F C K2 (λa H a1 a2 h=>?_) (λaL A aU s H a a1 a2 hr h=>?_);obtain⟨Y,A,t,af,F,W,D,rfl,_⟩:=h;rfl
 . obtain⟨Y,A,t,af,F,W,D,rfl,hC,ok,eD,hz,a8,aM,aN,a3⟩:=h
   refine⟨_,(An (AU (i:=4) K2.nd (BV Af))
    (An (Dr CP rfl (DN (pv 3)) (Cb (n:=3) rfl (AE (Aw (i:=5) K2.nd) (AE (Aw (i:=6) K2.nd) (AE (Aw (i:=7) K2.nd) Ca)))) (Az (Dr CP rfl (DN (A7 a7 (Ab (pv 0) (Ab (pv 1) (Ab (pv 2) (Ab (pv 6) (Ab (pv 7) Af))))))) (Cb (n:=4) rfl (AE (Aw (i:=8) K2.nd) (AE (Aw (i:=9) K2.nd) (AE (Aw (i:=10) K2.nd) (AE (Aw (i:=11) K2.nd) Ca))))) (Az (BA (BU Dd (pv 9) Br (BJ _)) (Az (DR (Ds DM E9 Fa Fc (pv 4) (Ab (Bl (Ab (A2 Oi (pv 5) (BV (Ab (pv 8) Af))) (Ab (pv 10) Af))) Af)))) BE)))))
    (Az (AZ (Cv (dV Oz Ga hr.units (by decide) (by decide)) a0.b_sorted (Ab (pv 4) Af)))))),?_⟩
   rfl';refine⟨by decide,λP Z=>?_⟩;obtain⟨aq,a9,s1,av⟩:=new_at (o:=.lst []) Z;rw[<-a9];have ag:∀{p:Hp},Keeps (·=P) aq p->Ac H p:=λk x o e=>k.at_ _ _ (s1 _ _ e) (A3 e Z)
   refine⟨⟨_,Ae.of (s1 _ _ eD)⟩,F5 (xs:=D.map λz=>V.ref z.1) (λi σ p=>∃u5 u6 u7 I J M N u,σ=[some (.ref Y),some (.ref A),some (.ref t),some (.ref af),some (.ref P),u5,u6,u7,I,J,M,N]/\Keeps (·=P) aq p/\p P=some (.lst (u.map λz:Addr×Ow=>V.ref z.1))/\(∀z∈u,FX (λl=>H l=none/\l≠P) p z.1 z.2)/\u.map (·.2)=Gb W ((D.map (·.2)).take i))
    ⟨none,none,none,none,none,none,none,[],rfl,Keeps.refl λx o m e=>by rw[m,av] at e;exact⟨_,(Bt e).symm⟩,av,λz hz=>by simp at hz,by rw[EB];rfl⟩ (λi σ p _ ah=>by obtain⟨_,_,_,_,_,_,_,_,_,k,_⟩:=ah;exact Ae.of (ag k _ _ eD)) ?_ ?_⟩
   rotate_left;refine λσ H2 O=>AO λNz d=>?_;obtain⟨u5,u6,u7,I,J,M,N,u,rfl,S,U,hw,C⟩:=O;refine d ?_;clear d;rw[Am,<-Am (f:=(·.2)),EU] at C;have lw:u.length<=62:=by have:=Bw List.length C;rw[Am] at this;lia
   refine⟨P,u.map λz=>(V.ref z.1,z.2),rfl,?_,by rw[Am];lia,λy r=>?_,λD2 aA hp hs ai=>?_⟩;rw[DK];exact Ae.of U;obtain⟨z,aj,rfl⟩:=AW.mp r;exact(hw z aj).dt;obtain⟨a,r1,r2,r3,r4⟩:=XO (c:=Rv) hp;have q:=A0 (o:=.lst (aA.map (·.1))) ai;rw[r1] at q ⊢;rw[r2] at hs;have G:=ag S;refine a3 D2 a _ (G.free ai) (G.trans q) Aa (λz aj=>?_) ⟨by rw[<-C];exact r3,hs⟩;refine((hw z (r4 z aj)).mono' ?_).same q;intro x o ex hx;exact⟨hx.1,λy=>by rw[y,ai] at ex;cases ex⟩;refine λi y σ H2 r O=>AO λNz d=>?_;obtain⟨u5,u6,u7,I,J,M,N,u,rfl,S,U,hw,C⟩:=O;refine d ?_;clear d;obtain⟨z,ak,rfl⟩:=getm r;have aO:i<D.length:=(AV.mp ak).1;have mz:=Bf ak;have aa:=a8 z mz;have G:=ag S;refine AO λNz d=>?_;obtain⟨l,v,a6,au,e3,_⟩:=hz z mz;refine d ?_;clear d;have e1:=G _ _ a6;have aB:=aa.rng z.2.2.1 (by unfold A5;simp);have aC:(D.map (·.2))[i]?=some z.2:=by rw[AQ,ak];rfl
   have aP:v.length<=100:=(by have:=Kf W.ss.length (A5 z.2) aa.nd aa.rng;rw[show(A5 z.2).length=z.2.1.length+1 by unfold A5;simp] at this;have:=ok.s5;rw[e3.len];lia);have aD:u.length<=8*i:=(by have E:=Bw List.length C;rw[Am] at E;have h2:=XN (f:=λb=>(EX W b.2.1 b.2.2).filterMap (ow b)) (k:=8) ((D.map (·.2)).take i) λb=>FS (List.length_filterMap_le _ _) (FS (MX W b.2.1 (Cw W b.2.2) (BN W b.2.1) 0) (Rt ok b.2.1));rw[FQ,Am] at h2;unfold Gb at E;have h3:min i D.length=i:=(by lia);rw[h3] at h2;lia);refine⟨_,Ar.of e1,rfl,?_⟩;refine⟨Y,A,t,W,z.2.2.1,z.2.2.2,rfl,hC.same G,ok,aB,aa.st,λa4 Q H3 hG q eG aE aw=>⟨⟨_,Ae.of eG⟩,?_⟩⟩;have aF:a4≠P:=λy=>by rw[y,U] at hG;cases hG
   have aQ:Q.length<=8:=(by have e1:=Bw List.length aw;have e2:=MX W z.2.2.1 (Cw W z.2.2.2) (BN W z.2.2.1) 0;have e3:=Rt ok z.2.2.1;rw[Am] at e1;unfold EX at e1;lia)
   refine F5 (xs:=Q.map λz=>V.ref z.1) (λj σ p=>∃I J M N a,σ=[some (.ref Y),some (.ref A),some (.ref t),some (.ref af),some (.ref P),some (.ref l),some (.int z.2.2.1),some (.int z.2.2.2),I,J,M,N]/\Keeps (·=P) H3 p/\p P=some (.lst (a.map λz:Addr×Ow=>V.ref z.1))/\(∀z∈a,FX (λl=>H l=none/\l≠P) p z.1 z.2)/\a.map (·.2)=Gb W ((D.map (·.2)).take i)++((Q.map (·.2)).take j).filterMap (ow z.2)/\a.length<=8*i+j)
    ⟨_,_,_,_,u,rfl,Keeps.refl λx o m e=>by rw[m,q _ _ U] at e;exact⟨_,(Bt e).symm⟩,q _ _ U,λz h=>(hw z h).same q,by rw[C,EB];simp,aD⟩ (λj σ p _ ah=>by obtain⟨_,_,_,_,_,_,k,_⟩:=ah;exact Ae.of (k.at_ _ _ eG aF)) ?_ ?_
   rotate_left;refine λσ H4 O=>AO λNz d=>?_;obtain⟨I,J,M,N,a,rfl,B,R,ab,ae,_⟩:=O;refine d ?_;clear d;refine⟨_,_,_,_,_,_,_,a,rfl,⟨λx o e n=>B.at_ _ _ (q _ _ (S.at_ x o e n)) n,S.ls⟩,R,ab,?_⟩;rw[d9 aC,ae,Am,<-Am (f:=(·.2)),EU,aw];refine λj y σ H4 r O=>AO λNz d=>?_;obtain⟨I,J,M,N,a,rfl,B,R,ab,ae,aR⟩:=O;refine d ?_;clear d;obtain⟨g,al,rfl⟩:=getm r;have aS:j<Q.length:=(AV.mp al).1;obtain⟨m,an,ao⟩:=aE g (Bf al);have an:=B.tup an;have ao:=B.tup ao;have ax:((Q.map (·.2)).take (j+1)).filterMap (ow z.2)=((Q.map (·.2)).take j).filterMap (ow z.2)++(ow z.2 g.2).toList:=(by rw[E8,AQ,al];exact MY _ _ _);refine⟨_,Ar.of an,rfl,?_⟩;refine⟨rfl,rfl,As (λE=>?_) (λE=>?_)⟩;rotate_left;refine⟨_,_,_,_,a,rfl,B,R,ab,?_,by lia⟩;rw[ax,UN (λe=>E (Bs (by rw[e]))),ae];simp;have E:g.2.2.1.1=n5:=V.str.inj (BG E);have aT:Ac H2 H3:=q;have aG:H4 l=some (.lst (v.map V.ref)):=B.at_ _ _ (q _ _ (G _ _ au)) (A3 au Z);have aH:RT Hg H4 v z.2.1:=(e3.same (G.trans q)).keeps B;refine⟨p4 ⟨rfl,_,Ae.of R⟩,GW,λa5 hM=>?_⟩;obtain⟨H5,aI,s5,eM⟩:=new_at (o:=.lst [.ref m]) hM;rw[<-aI];refine⟨l,a5,_,_,rfl,rfl,s5 _ _ aG,eM,by rw[Am];exact Cf (Bz (by show v.length+1<=1000;lia)),λL hL=>?_⟩
   have aJ:H L=none:=by
    have h4:=s5.free hL;cases e:H L with|none=>rfl|some o=>rw[B.at_ _ _ (q _ _ (G _ _ e)) (A3 e Z)] at h4;cases h4
   have ay:L≠P:=λy=>by rw[y,s5 _ _ R] at hL;cases hL
   have s6:=A0 (o:=.lst (v.map V.ref++[.ref m])) hL;have eL:(upd H5 L (.lst (v.map V.ref++[.ref m]))) L=some (.lst ((v++[m]).map V.ref)):=by rw[Aa,Ba];rfl
   generalize upd H5 L (.lst (v.map V.ref++[.ref m]))=H6 at s6 eL ⊢;refine⟨BP,λar hr=>?_⟩;obtain⟨H7,aK,s7,er⟩:=new_at (o:=.tup [.ref L,.int g.2.2.1.2]) hr;rw[<-aK];have X:=(s5.trans s6).trans s7;have az:=X _ _ R;have T:Keeps (·=P) H7 (upd H7 P (.lst (a.map (λz=>V.ref z.1)++[.ref ar]))):=Keeps.one az;refine⟨_,az,by rw[Am];exact Bz (by lia),?_⟩;refine⟨_,_,_,_,a++[(ar,(z.2.1++[g.2.1],g.2.2.1.2))],rfl,(B.same X).set rfl,by rw[Aa,Ba];rfl,λy r=>?_,?_,by rw[A1,D8];lia⟩;rcases B0.mp r with r|r;exact((ab y r).same X).keeps T λx hx=>hx.2;rw[AR.mp r];refine⟨L,v++[m],T.tup er,T.at_ _ _ (s7 _ _ eL) ay,?_,aJ,ay⟩;exact RT.snoc ((aH.same X).keeps T) (T.tup (X _ _ ao));rw[ax,Kh E,Ba,ae,Gu];rfl
def both{A G:Prop}(k:A->G)(a:A):G:=k a
def QL:([]:U').length+1+1+1+1<=sizeLine:=by decide
inductive Fv (K:Aj) (vs:U') (H:Hp) (Q:VK):Prop where
 |mk (nt A t ask u:Addr) (F:Addr->Prop) (W:Wd) (inn:Int) (ord:A') (q:Qu) (h0:vs=[.ref nt,.ref A,.ref t,.ref ask]) (h1:Bv K H nt A t W) (h2:Go K F H t W.sts inn ord) (h3:BS W) (h4:Bd W) (h5:ord.length<=40) (h6:(∀x,(x,x)∉ord)) (h7:(0<=inn/\inn<W.sts.length)) (h8:H ask=some (.tup [.int q.1,.int q.2.1,.ref u])) (h9:H u=some (.tup (q.2.2.map V.str))) (h10:(0<=q.1/\q.1<W.ss.length)) (h11:(0<=q.2.1/\q.2.1<W.sts.length)) (h12:1<=q.2.2.length) (h13:q.2.2.length<=8) (h14:∀(r L T:Addr)(av wv:V)(lv:U')(a:C')(w:Option Wt)(ls:Γ)(ts:F')(H':Hp),Ac H H'->H' r=some (.tup [av,wv,.ref L,.ref T])->H L=none->H' L=some (.lst lv)->H' T=some (.lst (ts.map V.int))->A9 (λx=>H x=none) H' av (B4 a)->A9 (λx=>H x=none) H' wv (Iy w)->AA (λx=>H x=none/\x≠L) H' lv (ls.map OE)->LU W inn ord q.1 q.2.1 q.2.2 0 a w ls ts->Q (.ref r) H'):Fv K vs H Q
def lT (K:Aj):Sp:=λvs H Q _=>Fv K vs H Q
abbrev QM(P w K mg base):=BL P w K mg base "look_up" 7 ["net", "answers", "table", "asked"] (lT K)
def lU(aP:BO mg)(bA:V0 P w K mg base)(bB:Wa P w K mg base)(bC:Jd P w K mg base)(bD:Wf P w K mg base)(bE:Sm P w K mg base)(F:By K "look_up" "look_up" S9 f fd)(hm:mg "look_up" = some (.ref f)):QM P w K mg base:=by
 refine B8 F hm GQ (λvs H aQ b0 h=>?_) (λcm A cy s H vs aQ b0 hr h=>?_);obtain⟨X,A,t,aT,a0,F,W,Z,aa,q,rfl,_⟩:=h;rfl
 . obtain⟨X,A,t,aT,a0,F,W,Z,aa,q,rfl,hC,TB,ok,sm,aS,aU,cc,eq,eu,bF,bG,cn,cp,qk⟩:=h
   obtain⟨b1,Tn,b2,us,Gs,Es,cq,qt,qs,eN,N3⟩:=hC.net
   refine⟨_,(An (Dl (pv 3) (Cb (n:=3) rfl (AE (Aw (i:=4) GQ.nd) (AE (Aw (i:=5) GQ.nd) (AE (Aw (i:=6) GQ.nd) Ca)))))
    (An (AU (i:=7) GQ.nd (BV Af))
    (An (AU (i:=8) GQ.nd (BV Af))
    (Az (Dr CP rfl (OC TK rfl aP.b_enumerate (Ab (pv 6) Af)) (Cb (n:=2) rfl (AE (Aw (i:=9) GQ.nd) (AE (Aw (i:=10) GQ.nd) Ca))) (An (AU (i:=11) GQ.nd (A7 bA (Ab (pv 0) (Ab (pv 1) (Ab (pv 2) (Ab (pv 4) (Ab (pv 5) Af)))))))
     (An (DR (Ds DM E9 Fa Fc (pv 7) (Ab (A7 bB (Ab (pv 0) (Ab (pv 2) (Ab (pv 11) (Ab (pv 10) Af))))) Af)))
     (An (Dl (A7 bC (Ab (pv 0) (Ab (pv 1) (Ab (pv 2) (Ab (A7 bD (Ab (pv 0) (Ab (pv 1) (Ab (pv 2) (Ab (pv 11) Af))))) (Ab (At Au (pv 7) (GG GH Ap)) (Ab (pv 9) Af))))))) (Cb (n:=2) rfl (AE (Aw (i:=12) GQ.nd) (AE (Aw (i:=13) GQ.nd) Ca))))
     (An (BA (PW.pt (OZ (FU (GB (pv 12))) (OZ (BU JN (At Au (pv 12) Ap) Br (BJ _)) (Q7 (BU Dd (pv 9) (A2 TN (Cv F7 aP.b_len (Ab (pv 6) Af)) Ap) (BJ _)))))) (Az (AZ (Bl (Ab (pv 12) (Ab (pv 13) (Ab (pv 7) (Ab (pv 8) Af))))))) BE)
     (An (DR (Ds DM E9 Fa Fc (pv 8) (Ab (At Au (pv 12) Ap) Af)))
     (An (Dl (A7 bE (Ab (pv 0) (Ab (pv 1) (Ab (At Au (pv 12) Ap) Af)))) (Cb (n:=2) rfl (AE (Aw (i:=14) GQ.nd) (AE (Aw (i:=15) GQ.nd) Ca))))
     (An (BA (BU Dd (pv 14) Br (BJ _)) (Az (AZ (Bl (Ab GA (Ab (Bl (Ab (pv 9) (Ab (BV Af) (Ab (pv 15) Af)))) (Ab (pv 7) (Ab (pv 8) Af))))))) BE)
     (An (BA (BU Dd (pv 14) Br (BJ _)) (Az (AZ (Bl (Ab (Bl (Ab Br (Ab (A2 F6 (pv 9) Ap) Af))) (Ab GA (Ab (pv 7) (Ab (pv 8) Af))))))) BE)
     (An (AU (i:=4) GQ.nd (pv 15))
     (Az (AU (i:=5) GQ.nd (At Au (pv 2) Ap))))))))))))))))),?_⟩
   rfl';refine⟨_,Ar.of eq,rfl,?_⟩;refine⟨by decide,λL hL=>?_⟩;obtain⟨aR,bH,s1,a2⟩:=new_at (o:=.lst []) hL;rw[<-bH];refine Em ?_;cbv;refine⟨by decide,λT hT=>?_⟩;have s2:=A0 (o:=.lst []) hT;have aV:(upd aR T (.lst [])) T=some (.lst []):=Aa;have aW:=s2 _ _ a2;generalize upd aR T (.lst [])=H2 at s2 aV aW ⊢;have aX:L≠T:=λz=>by rw[z,hT] at a2;cases a2
   have bI:H T=none:=s1.free hT;refine Em ?_;cbv
   refine⟨a0,rfl,⟨_,Ar.of ((s1.trans s2) _ _ eu)⟩,RH TK (xs:=q.2.2.map V.str) (λi σ H'=>∃(C D:Int)(u9 aY aZ ba bb bc bd:V')(d:U')(ls:Γ)(l:F'),σ=[some (.ref X),some (.ref A),some (.ref t),some (.ref aT),some (.int C),some (.int D),some (.ref a0),some (.ref L),some (.ref T),u9,aY,aZ,ba,bb,bc,bd]/\Ac H H'/\H' L=some (.lst d)/\H' T=some (.lst (l.map V.int))/\AA (λx=>H x=none/\x≠L/\x≠T) H' d (ls.map OE)/\d.length=i/\l.length=i/\i<q.2.2.length/\(0<=C/\C<W.ss.length)/\(0<=D/\D<W.sts.length)/\∀a w ak al,LU W Z aa C D (q.2.2.drop i) i a w ak al->LU W Z aa q.1 q.2.1 q.2.2 0 a w (ls++ak) (l++al))
    ⟨_,_,none,none,none,none,none,none,none,[],[],[],rfl,s1.trans s2,aW,aV,.nil,rfl,rfl,by lia,bF,bG,λa w ak al z=>z⟩ (λi σ H' bJ=>by obtain⟨_,_,_,_,_,_,_,_,_,_,_,_,_,s,_⟩:=bJ;exact Ar.of (s _ _ eu)) ?_ ?_⟩
   rotate_left;refine λσ H' a3=>AO λNz Q=>?_;obtain⟨_,_,_,_,_,_,_,_,_,_,_,_,_,_,_,_,_,_,_,hi,_⟩:=a3;refine Q ?_;clear Q;rw[Am] at hi;exact absurd hi (HF _);refine λi xv Te σ H3 hx bK a3=>AO λNz Q=>?_;obtain⟨C,D,u9,aY,aZ,ba,bb,bc,bd,d,ls,l,rfl,s3,bL,bM,bN,bO,bP,hi,R,S,ay⟩:=a3;refine Q ?_;clear Q;refine IJ ?_;intro Nx Cy;obtain⟨x,bQ,rfl⟩:=getm hx;have ag:=Va bQ;obtain⟨H4,bR,s4,bS⟩:=new_at (o:=.tup [.int i,.str x]) bK;rw[<-bR];have an:=s3.trans s4;have ao:=s4 _ _ bL;have a4:=s4 _ _ bM;refine⟨_,Ar.of bS,rfl,?_⟩;refine⟨X,A,t,W,C,D,rfl,hC.same an,ok,R,S,λaj g H5 hD s5 eD hz E=>?_⟩;refine Em ?_;cbv;have ab:=an.trans s5;have U:=s5 _ _ ao;have ah:=s5 _ _ a4;have Fb:∀{Hn:Hp}{x:Addr},Ac H Hn->Hn L=some (.lst d)->Hn T=some (.lst (l.map V.int))->Hn x=none->H x=none/\x≠L/\x≠T:=λ{Hn x}s Y e2 h=>⟨s.free h,λz=>(by rw[z,Y] at h;cases h),λz=>(by rw[z,e2] at h;cases h)⟩;refine⟨p4 ⟨rfl,_,Ae.of U⟩,X,A,t,aj,x,F,_,W,Z,aa,C,D,g,rfl,hC.same ab,TB.same ab,ok,sm,aS,aU,R,S,eD,hz,E,λr D2 P e u H6 s6 er a5 be hw hF hP eP c bf=>?_⟩;have bT:=ab.trans s6;have bg:=s6 _ _ U;have bU:=s6 _ _ ah;have B:Keeps (·=L) H6 (upd H6 L (.lst (d++[.ref r]))):=Keeps.one bg;have aq:Ac H (upd H6 L (.lst (d++[.ref r]))):=λb o af=>by rw[AC (A3 af hL)];exact bT _ _ af
   have a6:(upd H6 L (.lst (d++[.ref r]))) L=some (.lst (d++[.ref r])):=Aa;refine⟨_,bg,Bz (by lia),?_⟩;generalize upd H6 L (.lst (d++[.ref r]))=N at B aq a6 ⊢;have nD:aj≠L:=λz=>by rw[z,ao] at hD;cases hD
   have bV:D2≠L:=λz=>by rw[z,U] at a5;cases a5
   have nP:P≠L:=λz=>by rw[z,U] at hP;cases hP
   have bh:=B.at_ _ _ bU (Ne.symm aX);have a7:=B.tup er;have a8:=B.at_ _ _ (s6 _ _ eD) nD;have aK:=B.at_ _ _ be bV;have a9:=B.at_ _ _ eP nP;have aA:∀z∈g,DP (λx=>H x=none/\x≠L/\x≠T) N z.1 z.2:=λz h=>(((hz z h).mono' λy o _ c=>Fb an ao a4 c.1).same s6).keeps B λy c=>c.2.1;have aB:∀z∈e,CQ (λx=>H x=none/\x≠L/\x≠T) N z.1 z.2:=λz h=>((hw z h).mono' λy o _ c=>Fb ab U ah c).keeps B λy c=>c.2.1;have aC:∀z∈u,CQ (λx=>H x=none/\x≠L/\x≠T) N z.1 z.2:=λz h=>((c z h).mono' λy o _ c=>Fb ab U ah c).keeps B λy c=>c.2.1;have bu:AA (λx=>H x=none/\x≠L/\x≠T) N d (ls.map OE):=(((bN.same s4).same s5).same s6).keeps B λy c=>c.2.1;have cs:=E;have bi:=E.few;rw[Am] at bi;refine⟨X,A,t,aj,_,W,g,rfl,hC.same aq,ok,a8,aA,λz bW=>((E.mem _).mp (AW.mpr ⟨z,bW,rfl⟩)).ok ok R S,bi,sm.owd C D _ R S E,λb3 a1 H8 hO G eO ho bj=>?_⟩;have aD:=aq.trans G;have bk:=G _ _ a6;have bX:=G _ _ bh;have bl:∀z∈e,z.2∈DY W x (g.map (·.2)):=λz h=>hF.perm.mem_iff.mp (AW.mpr ⟨z,h,rfl⟩);have lw:e.length<=100:=(by have h1:=hF.perm.length_eq;have h2:=sm.fnd x C D _ R S E;rw[Am] at h1;lia);have bm:∀z∈e,CV W.ss z.2:=λz h=>U4 ok R S E (bl z h);have cd:∀{x:Addr},N x=none->H x=none/\x≠L/\x≠T:=λ{x}h=>⟨aq.free h,λz=>(by rw[z,a6] at h;cases h),λz=>(by rw[z,bh] at h;cases h)⟩;refine p4 ⟨_,.ref r,Ae.of bk,UK _ _,X,A,t,b3,r,aj,D2,P,F,(λx=>H x=none/\x≠L/\x≠T),W,Z,aa,e,u,a1,(i:Int),rfl,hC.same aD,TB.same aD,sm,aS,aU,G _ _ a7,G _ _ aK,λz h=>(aB z h).same G,λz h=>Rx ok R S E (bl z h),lw,bm,G _ _ a9,λz h=>(aC z h).same G,bf,eO,λz h=>(ho z h).mono' λy o _ c=>cd c.1,λz h=>XT ok R S E (bj.perm.mem_iff.mp (AW.mpr ⟨z,h,rfl⟩)),λm a w I s9 bv hm=>?_⟩;have aE:=aD.trans s9;have bn:=s9 _ _ bk;have ar:=s9 _ _ bX;obtain⟨av,wv,b4,ha,bY⟩:=hm.two;have LK:Cr W aa C D x (g.map (·.2),e.map (·.2),u.map (·.2)) (a1.map (·.2)):=⟨E,hF,bf,bj⟩
   have bo:A9 (λx=>H x=none/\x≠L/\x≠T) I (.ref r) (OE (g.map (·.2),e.map (·.2),u.map (·.2))):=by
    have b5:=Fb an ao a4 hD;have b6:=Fb ab U ah a5;have b7:=Fb ab U ah hP;have b8:AA (λx=>H x=none/\x≠L/\x≠T) N (g.map λz=>V.ref z.1) ((g.map (·.2)).map DX.D):=(by rw[DK];exact AA.of_all λz h=>(aA z h).own);have b9:AA (λx=>H x=none/\x≠L/\x≠T) N (e.map λz=>V.ref z.1) ((e.map (·.2)).map CD.D):=(by rw[DK];exact AA.of_all λz h=>(aB z h).own);have f3:AA (λx=>H x=none/\x≠L/\x≠T) N (u.map λz=>V.ref z.1) ((u.map (·.2)).map CD.D):=(by rw[DK];exact AA.of_all λz h=>(aC z h).own);exact((A9.tup a7 (.cons (.lst a8 b5 b8) (.cons (.lst aK b6 b9) (.cons (.lst a9 b7 f3) .nil)))).same G).same s9
   have bw:AA (λx=>H x=none/\x≠L/\x≠T) I (d++[.ref r]) ((ls++[(g.map (·.2),e.map (·.2),u.map (·.2))]).map OE):=(by rw[Ba];exact((bu.same G).same s9).snoc bo);clear aB aC aA bu bo hw c hz ho eD be eP er a8 aK a9 a7 B;refine⟨_,Ar.of b4,rfl,?_⟩
   have au:((∀k,a≠some (f',k))\/q.2.2.drop (i+1)=[])->∀O,I O=none->aQ (.ref O) (upd I O (.tup [av,wv,.ref L,.ref T])):=λcj O bZ=>by
    have j:=A0 (o:=.tup [av,wv,.ref L,.ref T]) bZ;refine qk O L T av wv (d++[.ref r]) a w _ l _ (aE.trans j) Aa hL (j _ _ bn) (j _ _ ar) ((ha.mono λ_ _ _ h=>h.1).same j) ((bY.mono λ_ _ _ h=>h.1).same j) ((bw.mono λ_ _ _ h=>⟨h.1,h.2.1⟩).same j) ?_;have:=ay a w [(g.map (·.2),e.map (·.2),u.map (·.2))] [] (by rw[ag];exact .stop LK bv cj);rw[FA] at this;exact this
   cases a with
   |none=>obtain rfl:=ha.ansN;exact⟨rfl,As (λ_=>Ch ⟨QL,au (.inl λk z=>(by cases z))⟩) (λh=>absurd (Bs rfl) h)⟩
   |some p=>
    obtain⟨pa,rfl,aF⟩:=ha.ansS;refine⟨rfl,As (λh=>absurd (BG h) (by simp)) (λ_=>?_)⟩;refine p5 (p4 ⟨_,.str p.1,Ar.of aF,rfl,rfl,rfl,As (λh=>?_) (λh=>?_)⟩);refine Ch ⟨QL,au (.inl λk z=>?_)⟩;have:p.1=f':=Bw Prod.fst (Bt z);rw[this] at h;simp at h
    have hp:p.1=f':=p9 λz=>h (by
     have:decide (V.str p.1=V.str "thing")=false:=DL λy=>z (V.str.inj y);rw[this];rfl)
    have az:BC W aa (e.map (·.2)) (a1.map (·.2)) i=(some (f',p.2),w):=(by rw[bv,<-hp]);refine⟨_,p5 ⟨_,Ar.of (aE _ _ eu),rfl⟩,rfl,rfl,As (λh2=>?_) (λh2=>?_)⟩;have e2:(i:Int)=((q.2.2.map V.str).length:Nat)-1:=V.int.inj (BG h2);rw[Am] at e2;exact⟨QL,au (.inr (List.drop_eq_nil_of_le (by lia)))⟩;have bp:i+1<q.2.2.length:=(by refine p9 λz=>h2 (Bs ?_);rw[Am];congr 1;lia);clear au;have rng:=Jt ok sm (λv hv=>by obtain⟨z,h1,rfl⟩:=AW.mp hv;exact bm z h1) az;obtain⟨n,hn⟩:=Ea rng.1;have bq:n<W.gs.length:=(by lia);have hg:=AD bq;have aw:Keeps (·=T) I (upd I T (.lst (l.map V.int++[.int p.2]))):=Keeps.one ar;have j:Ac H (upd I T (.lst (l.map V.int++[.int p.2]))):=λb o af=>by rw[AC (A3 af bI)];exact aE _ _ af
    have bx:(upd I T (.lst (l.map V.int++[.int p.2]))) T=some (.lst ((l++[p.2]).map V.int)):=by rw[Aa,Ba];rfl
    refine⟨p4 ⟨rfl,_,Ae.of ar⟩,p5 (p4 ⟨_,.int p.2,Ar.of aF,rfl,_,ar,by rw[Am];exact Bz (by lia),?_⟩)⟩;generalize upd I T (.lst (l.map V.int++[.int p.2]))=ct at aw j bx ⊢;have cf:=aw.at_ _ _ bn aX;have ck:=aw.tup aF;have cl:=bw.keeps aw λy c=>c.2.2;have cg:=hC.same j;refine p5 (p4 ⟨_,.int p.2,Ar.of ck,rfl,X,b1,Tn,b2,A,W.gs,W.as,p.2,n,W.gs[n],rfl,hn,hg,Ar.of (j _ _ eN),⟨_,Ae.of (j _ _ N3.et),(N3.tg.same j).dts⟩,cg.ans,ok.net,λb cu hb ax eb=>?_⟩);have ai:=j.trans ax;have aL:=ax _ _ cf;have aM:=ax _ _ bx;have aO:=cl.same ax
    have ei:Cd W p.2=Df W.gs W.as W.gs[n]:=by
     show(match W.gs[p.2.toNat]? with|some p=>Df W.gs W.as p|none=>("no",0))=_
     rw[hn,Bn,hg]
    obtain⟨y2,O,bz⟩:∃y2 O,q.2.2.drop (i+1)=y2::O:=⟨_,_,NV bp⟩;rw[bz] at ag;refine⟨_,Ar.of eb,rfl,?_⟩;generalize br:Df W.gs W.as W.gs[n]=J at *;refine⟨rfl,rfl,As (λh3=>?_) (λh3=>?_)⟩;have e3:J.1=n5:=V.str.inj (BG h3);refine⟨by decide,λe0 bs=>?_⟩;obtain⟨ca,aN,aG,cb⟩:=new_at (o:=.lst []) bs;rw[<-aN];refine⟨GK,λY aH=>?_⟩;obtain⟨cv,ch,bt,aI⟩:=new_at (o:=.tup [.int i,.ref e0,.int J.2]) aH;rw[<-ch];refine⟨QL,λr3 aJ=>?_⟩;have ae:=A0 (o:=.tup [.non,.ref Y,.ref L,.ref T]) aJ;have M:=(aG.trans bt).trans ae;refine qk r3 L T .non (.ref Y) (d++[.ref r]) none (some ((i:Int),[],J.2)) _ _ _ (ai.trans M) Aa hL (M _ _ aL) (M _ _ aM) .non (.tup (ae _ _ aI) (.cons (.int _) (.cons (.lst ((bt.trans ae) _ _ cb) (ai.free bs) .nil) (.cons (.int _) .nil)))) ((aO.mono λ_ _ _ h=>⟨h.1,h.2.1⟩).same M) ?_;exact ay none (some ((i:Int),[],J.2)) [(g.map (·.2),e.map (·.2),u.map (·.2))] [p.2] (by rw[ag];exact .opn LK az (ei.trans (Prod.ext e3 rfl)));have e3:J.1≠n5:=λz=>h3 (Bs (by rw[z]));refine⟨rfl,rfl,As (λh4=>?_) (λh4=>?_)⟩;have e4:J.1=o4:=V.str.inj (BG h4);refine⟨BP,λY aH=>?_⟩;obtain⟨ca,aN,aG,aI⟩:=new_at (o:=.tup [.str "none",.int ((i:Int)+1)]) aH;rw[<-aN];refine⟨QL,λr3 aJ=>?_⟩;have ae:=A0 (o:=.tup [.ref Y,.non,.ref L,.ref T]) aJ;have M:=aG.trans ae;refine qk r3 L T (.ref Y) .non (d++[.ref r]) (some (p0,(i:Int)+1)) none _ _ _ (ai.trans M) Aa hL (M _ _ aL) (M _ _ aM) (.tup (ae _ _ aI) (.cons (.str _) (.cons (.int _) .nil))) .non ((aO.mono λ_ _ _ h=>⟨h.1,h.2.1⟩).same M) ?_;exact ay (some (p0,(i:Int)+1)) none [(g.map (·.2),e.map (·.2),u.map (·.2))] [p.2] (by rw[ag];exact .no LK az (ei.trans (Prod.ext e4 rfl)));have e4:J.1≠o4:=λz=>h4 (Bs (by rw[z]));have e5:J.1=j':=(by have:=f5 W.gs W.as W.gs[n];rw[br] at this;rcases this with h|h|h;exact h;exact absurd h e3;exact absurd h e4);have rg:=UJ ok (Ez bq) br e5;refine AO λNz Q=>?_;obtain⟨ta,o,cw,cx,et,_⟩:=TB.ex;refine Q ?_;clear Q;refine Em ?_;cbv;refine p5 (p4 ⟨_,.int Z,Ar.of (ai _ _ et),rfl,?_⟩);refine⟨J.2,Z,_,_,_,_,_,_,_,d++[.ref r],ls++[(g.map (·.2),e.map (·.2),u.map (·.2))],l++[p.2],rfl,ai,aL,aM,aO,by simp[bO],by simp[bP],bp,rg,cc,λa w ak al z=>?_⟩;rw[Gu,Gu];refine ay a w _ _ ?_;rw[ag];rw[bz] at z;exact .go LK az (ei.trans (Prod.ext e5 rfl)) z
inductive Fw (K:Aj) (vs:U') (H:Hp) (Q:VK):Prop where
 |mk (nt A t:Addr) (W:Wd) (n:Int) (h0:vs=[.ref nt,.int n]) (h1:Bv K H nt A t W) (h2:(0<=n/\n<W.gs.length)) (h3:∀(D:Addr)(H':Hp),H D=none->Ac H H'->H' D=some (.lst ((Fl W.gs n).map V.int))->Q (.ref D) H'):Fw K vs H Q
def lV (K:Aj):Sp:=λvs H Q _=>Fw K vs H Q
abbrev Su(P w K mg base):=BL P w K mg base "of_sort" 1 ["net", "thing"] (lV K)
def lW(B:BO mg)(F:By K "of_sort" "of_sort" Ta f fd)(b:mg "of_sort" = some (.ref f)):Su P w K mg base:=by
 refine B8 F b VJ (λr H Q E h=>?_) (λM A N s H r Q E C h=>?_);obtain⟨u,A,t,W,n,rfl,_⟩:=h;rfl;obtain⟨u,A,t,W,n,rfl,v,x,q⟩:=h;obtain⟨S,T,R,us,G,I,c,J,L,y,d⟩:=v.net;obtain⟨m,b⟩:=Ea x.1;have j:m<W.gs.length:=(by lia);have o:m<c.length:=by rw[d.tg.len];exact j
 have k:W.gs[n.toNat]?=some W.gs[m]:=by rw[b,Bn];exact AD j
 have g:=d.tg.at_ m _ _ (AD o) (AD j);have l:Bm (c.map V.ref) n=some (.ref c[m]):=by rw[b];exact A8 (by rw[AQ,AD o];rfl)
 generalize W.gs[m]=p at k g;generalize c[m]=z at l g;have eq:Fl W.gs n=if p.1=o8 then[p.2] else[]:=by unfold Fl;rw[k]
 refine⟨_,(An (Dl (At Au (At Au (pv 0) Ap) (pv 1)) (Cb (n:=2) rfl (AE (Aw (i:=2) VJ.nd) (AE (Aw (i:=3) VJ.nd) Ca))))
  (An (BA (BU Dd (pv 2) Br (BJ _)) (Az (AZ (BV (Ab (pv 3) Af)))) BE)
  (Az (AZ (BV Af))))),?_⟩
 rfl';refine p5 (p4 ⟨_,.ref T,Ar.of y,rfl,p4 ⟨_,.ref z,Ae.of d.et,l,?_⟩⟩);refine⟨_,Ar.of g,rfl,?_⟩;refine⟨rfl,rfl,As (λh=>?_) (λh=>?_)⟩;have e:p.1=o8:=V.str.inj (BG h);refine⟨GW,λD a=>q D _ a (A0 a) ?_⟩;rw[Aa,eq,Ag e];rfl;have e:p.1≠o8:=λe=>h (Bs (by rw[e]));refine⟨by decide,λD a=>q D _ a (A0 a) ?_⟩;rw[Aa,eq,Ah e];rfl
inductive Ei (K:Aj) (vs:U') (H:Hp) (Q:VK):Prop where
 |mk (nt A t:Addr) (W:Wd) (v:V) (o:C') (h0:vs=[.ref nt,v]) (h1:Bv K H nt A t W) (h2:((o=none/\v=.non)\/∃p ta,o=some p/\v=.ref ta/\Ar K H ta [.str p.1,.int p.2])) (h3:(∀p,o=some p->p.1=f'->0<=p.2/\p.2<W.gs.length)) (h4:∀(D:Addr)(H':Hp),H D=none->Ac H H'->H' D=some (.lst ((qA W.gs o).map V.int))->Q (.ref D) H'):Ei K vs H Q
def lX (K:Aj):Sp:=λvs H Q _=>Ei K vs H Q
abbrev Wg(P w K mg base):=BL P w K mg base "of_answer" 2 ["net", "answer"] (lX K)
def lY(B:BO mg)(n:Su P w K mg base)(F:By K "of_answer" "of_answer" Tb f fd)(i:mg "of_answer" = some (.ref f)):Wg P w K mg base:=by
 refine B8 F i i9 (λj H Q E h=>?_) (λC A G s H j Q E u h=>?_);obtain⟨b,A,t,W,v,o,rfl,_⟩:=h;rfl;obtain⟨b,A,t,W,v,o,rfl,k,l,r,q⟩:=h;have d:qA W.gs o=[]->∀D,H D=none->Q (.ref D) (upd H D (.lst [])):=λe D a=>q D _ a (A0 a) (by rw[Aa,e];rfl)
 refine⟨_,(An (BA (PW.pt (OZ (FU (GB (pv 1))) (Q7 (BU JN (At Au (pv 1) Ap) Br (BJ _))))) (Az (AZ (BV Af))) BE)
  (Az (AZ (A7 n (Ab (pv 0) (Ab (At Au (pv 1) Ap) Af)))))),?_⟩
 rfl';rcases l with⟨rfl,rfl⟩|⟨p,x,rfl,rfl,g⟩;exact⟨rfl,As (λ_=>Ch ⟨by decide,d rfl⟩) (λh=>absurd (Bs rfl) h)⟩;refine⟨rfl,As (λh=>absurd (BG h) (by simp)) (λ_=>?_)⟩;refine p5 (p4 ⟨_,.str p.1,g,rfl,rfl,rfl,As (λh=>?_) (λh=>?_)⟩);refine⟨by decide,d ?_⟩;refine Ah λe=>?_;rw[e] at h;simp at h
 have c:p.1=f':=p9 λz=>h (by
  have:decide (V.str p.1=V.str "thing")=false:=DL λy=>z (V.str.inj y);rw[this];rfl)
 refine p5 (p4 ⟨_,.int p.2,g,rfl,b,A,t,W,p.2,rfl,k,r p rfl c,λD m a s e=>q D m a s ?_⟩);rw[e];show some (HO.lst ((Fl W.gs p.2).map V.int))=some (HO.lst ((if p.1=f' then Fl W.gs p.2 else[]).map V.int));rw[Ag c]
def lZ{k:Nat}{s:Bo}(h:W.ss[k]?=some s):BN W (k:Int)=s.1:=by unfold BN;rw[Bn,h]
def Lf{k:Nat}(h:W.sts[k]?=some s):Cw W (k:Int)=s.1:=by unfold Cw;rw[Bn,h]
inductive ES (K:Aj) (vs:U') (H:Hp) (Q:VK):Prop where
 |mk (nt A t:Addr) (W:Wd) (v:V) (F:Addr->Prop) (bs:Y') (h0:vs=[.ref nt,.ref A,.ref t,v]) (h1:Bv K H nt A t W) (h2:BS W) (h3:A9 F H v (.lst (bs.map DX.D))) (h4:(∀b∈bs,Dv W b)) (h5:(bs.flatMap (Bx W)).length<=4000) (h6:∀(D:Addr)(H':Hp),H D=none->Ac H H'->H' D=some (.lst ((bs.flatMap (Bx W)).map V.int))->Q (.ref D) H'):ES K vs H Q
def mD (K:Aj):Sp:=λvs H Q _=>ES K vs H Q
abbrev Wh(P w K mg base):=BL P w K mg base "of_steps" 3 ["net", "answers", "table", "begun"] (mD K)
def mF(aQ:BO mg)(a7:Sl P w K mg base)(a8:Wg P w K mg base)(F:By K "of_steps" "of_steps" Tc f fd)(B:mg "of_steps" = some (.ref f)):Wh P w K mg base:=by
 refine B8 F B LS (λvs H az a0 h=>?_) (λaW A aZ s H vs az a0 hr h=>?_);obtain⟨I,A,t,W,v,F,bs,rfl,_⟩:=h;rfl
 . obtain⟨I,A,t,W,v,F,bs,rfl,J,ok,hv,a9,hl,a1⟩:=h
   obtain⟨a2,aR,aS,us,Gs,Es,ts,qt,qs,eN,N3⟩:=J.net;obtain⟨a3,o,aA,b1,a4,b2,b3⟩:=J.tab;obtain⟨P,bv,rfl,eP,hb⟩:=Vr hv
   refine⟨_,(An (AU (i:=4) LS.nd (BV Af))
    (An (Dr CP rfl (DN (pv 3)) (Cb (n:=3) rfl (AE (Aw (i:=5) LS.nd) (AE (Aw (i:=6) LS.nd) (AE (Aw (i:=7) LS.nd) Ca)))) (Az (Dr CP rfl (DN (At Au (At Au (At Au (pv 0) Ap) (pv 6)) Ap)) (Cb (n:=3) rfl (AE (Aw (i:=8) LS.nd) (AE (Aw (i:=9) LS.nd) (AE (Aw (i:=10) LS.nd) Ca)))) (Az (BA (PW.pt (HJ (BU Dd (pv 9) Br (BJ _)) (Jj (FU (N9 (A7 a7 (Ab (pv 2) (Ab (pv 7) (Ab (pv 8) Af))))))))) (An (DR (Ds DM E9 Fa Fc (pv 4) (Ab (pv 10) Af)))
          (Az (DR (Ds DM PySem.F.slot_list_extend PySem.F.type_list_extend Pw (pv 4) (Ab (A7 a8 (Ab (pv 0) (Ab (At Au (pv 1) (pv 10)) Af))) Af))))) BE)))))
    (Az (AZ (pv 4))))),?_⟩
   rfl';refine⟨by decide,λD L=>?_⟩;obtain⟨aT,aB,s1,aC⟩:=new_at (o:=.lst []) L;rw[<-aB]
   refine⟨⟨_,Ae.of (s1 _ _ eP)⟩,F5 (xs:=bv) (λi σ g=>∃R S T q r u,σ=[some (.ref I),some (.ref A),some (.ref t),some (.ref P),some (.ref D),R,S,T,q,r,u]/\Ac H g/\g D=some (.lst (((bs.take i).flatMap (Bx W)).map V.int)))
    ⟨none,none,none,none,none,none,rfl,s1,by rw[aC,EB];rfl⟩ (λi σ g _ aa=>by obtain⟨_,_,_,_,_,_,_,s,_⟩:=aa;exact Ae.of (s _ _ eP)) ?_ ?_⟩
   rotate_left;refine λσ H2 y=>AO λM a=>?_;obtain⟨R,S,T,q,r,u,rfl,d,N⟩:=y;refine a ?_;clear a;rw[hb.length,Am,EU] at N;exact a1 D _ L d N;refine λi x σ H2 hx y=>AO λM a=>?_;obtain⟨R,S,T,q,r,u,rfl,d,N⟩:=y;refine a ?_;clear a;refine IJ ?_;intro Nx Cy;obtain⟨b,ak,aD⟩:=OG (hb.same d) hx;have al:=a9 b (Bf ak);obtain⟨tb,x0,rfl,aE⟩:=Nn aD;have aF:=al.rng b.2.1 (by unfold A5;simp);have aG:=al.st;obtain⟨n,hn⟩:=Ea aF.1;obtain⟨k,hk⟩:=Ea aG.1;have an:n<W.ss.length:=(by lia);have aH:k<W.sts.length:=(by lia);refine AO λM a=>?_;obtain⟨ah,a5,E1,a6,aU,aV,g4,⟨c0,⟨tG,c1,U⟩,_⟩⟩:=N3.sc.get an;refine a ?_;clear a;have ao:=AD aH;have X:BN W b.2.1=W.ss[n].1:=by rw[hn];exact lZ g4
   have eG:Cw W b.2.2=W.sts[k].1:=by rw[hk];exact Lf ao
   have aI:Bm (us.map V.ref) b.2.1=some (.ref ah):=by rw[hn];exact A8 (by rw[AQ,a6];rfl)
   have aq:=Qh (f:=Bx W) ak;have aO:=Qi (f:=Bx W) (l:=bs) (i+1);rw[aq,A1] at aO;refine⟨_,Ar.of aE,rfl,?_⟩;refine p5 (p4 ⟨_,.ref a2,Ar.of (d _ _ eN),rfl,p4 ⟨_,.ref ah,Ae.of (d _ _ N3.sc.top),aI,p5 (p4 ⟨_,.ref a5,Ar.of (d _ _ c0),rfl,⟨_,Ae.of (d _ _ c1)⟩,?_⟩)⟩⟩)
   refine F5 (xs:=tG.map V.ref) (λj σ g=>∃q r u,σ=[some (.ref I),some (.ref A),some (.ref t),some (.ref P),some (.ref D),some x0,some (.int b.2.1),some (.int b.2.2),q,r,u]/\Ac H g/\g D=some (.lst (((bs.take i).flatMap (Bx W)++((BN W b.2.1).take j).flatMap (Ge W b.2.2)).map V.int)))
    ⟨_,_,_,rfl,d,by rw[N,EB];simp⟩ (λj σ g _ aa=>by obtain⟨_,_,_,_,s,_⟩:=aa;exact Ae.of (s _ _ c1)) ?_ ?_
   rotate_left;refine λσ C y=>AO λM a=>?_;obtain⟨q,r,u,rfl,c,G⟩:=y;refine a ?_;clear a;refine⟨_,_,_,_,_,_,rfl,c,?_⟩;rw[G,aq,Am,U.len,X,EU,<-X];rfl;refine λj ai σ C hy y=>AO λM a=>?_;obtain⟨q,r,u,rfl,c,G⟩:=y;refine a ?_;clear a;refine IJ ?_;intro Nx Cy;obtain⟨tp,ar,rfl⟩:=getm hy;have au:j<W.ss[n].1.length:=by rw[<-U.len];exact(AV.mp ar).1
   have Y:=AD au;have av:=U.at_ j tp _ ar Y;have mp:=Ez au;generalize W.ss[n].1[j]=p at Y av mp;have ab:=Qh (f:=Ge W b.2.2) (show(BN W b.2.1)[j]?=some p by rw[X];exact Y);have ae:=Qi (f:=Ge W b.2.2) (l:=BN W b.2.1) (j+1);rw[ab,A1] at ae;have aX:(Bx W b).length=((BN W b.2.1).flatMap (Ge W b.2.2)).length:=rfl
   have skip:¬(p.2.1=n7/\(En (Cw W b.2.2) p.1).isSome=true)->C D=some (.lst (((bs.take i).flatMap (Bx W)++((BN W b.2.1).take (j+1)).flatMap (Ge W b.2.2)).map V.int)):=λaJ=>by
    have:Ge W b.2.2 p=[]:=Ah aJ;rw[G,ab,this,FA]
   refine⟨_,Ar.of (c _ _ av),rfl,?_⟩;refine⟨rfl,rfl,As (λz=>?_) (λz=>Bi ?_)⟩;rotate_left;exact⟨_,_,_,rfl,c,skip λh=>z (Bs (by rw[h.1]))⟩;have z:p.2.1=n7:=V.str.inj (BG z);refine⟨t,a3,o,aA,W.sts,b.2.2,k,_,p.1,rfl,hk,c.seqT b1,⟨a4,c.seq b2,b3.same c⟩,ao,?_⟩;rw[<-eG]
   cases eg:En (Cw W b.2.2) p.1 with
   |none=>refine⟨rfl,As (λh=>absurd h (by simp[Eo])) (λ_=>?_)⟩;exact⟨_,_,_,rfl,c,skip λh=>by rw[eg] at h;cases h.2⟩
   |some af=>
    refine⟨rfl,As (λ_=>?_) (λh=>absurd (by simp[Eo]) h)⟩;have aw:Ge W b.2.2 p=p.2.2::FN W.gs W.as p.2.2:=Ag ⟨z,by rw[eg];rfl⟩;have aK:=ok.by_ (Ez an) mp λaj=>by rw[z] at aj;exact absurd aj (by decide +kernel)
    obtain⟨m,B⟩:=Ea aK.1;have O:m<W.as.length:=(by lia);have ax:=KQ (gs:=W.gs) (AD O);rw[aw,D9] at ae;have Q:Ac H (upd C D (.lst (((bs.take i).flatMap (Bx W)++((BN W b.2.1).take j).flatMap (Ge W b.2.2)).map V.int++[.int p.2.2]))):=λai o e=>by rw[AC (A3 e L)];exact c _ _ e
    have ag:(upd C D (.lst (((bs.take i).flatMap (Bx W)++((BN W b.2.1).take j).flatMap (Ge W b.2.2)).map V.int++[.int p.2.2]))) D=some (.lst (((bs.take i).flatMap (Bx W)++((BN W b.2.1).take j).flatMap (Ge W b.2.2)).map V.int++[.int p.2.2])):=Aa;refine⟨p4 ⟨rfl,_,Ae.of G⟩,_,G,by rw[Am,A1];exact No (by lia),?_⟩;generalize upd C D (.lst (((bs.take i).flatMap (Bx W)++((BN W b.2.1).take j).flatMap (Ge W b.2.2)).map V.int++[.int p.2.2]))=H4 at Q ag ⊢;obtain⟨ay,Z,aL,aM,hc⟩:=(J.same Q).ans.get O;have aP:Bm ay p.2.2=some Z:=by rw[B];exact A8 aM
    refine⟨p4 ⟨rfl,_,Ae.of ag⟩,p4 ⟨ay,Z,aL,aP,I,A,t,W,Z,W.as[m],rfl,J.same Q,?_,λpp e E=>ok.net.t pp (by rw[<-e];exact Ez O) E,λD2 H5 aY s5 aN=>?_⟩⟩;rw[AD O] at hc;rcases hc with⟨e1,E⟩|⟨pp,ta,e1,E,e3⟩;exact .inl ⟨Bt e1,E⟩;exact .inr ⟨pp,ta,Bt e1,E,e3⟩;refine⟨D,D2,_,_,rfl,rfl,s5 _ _ ag,aN,?_,?_⟩;have:=Np W.gs W.as[m];rw[B,ax] at ae;rw[A1,Am,Am,A1,D8];exact Cf (No (by lia));refine⟨_,_,_,rfl,λai o e=>?_,?_⟩;rw[AC (A3 e L)];exact s5 _ _ (Q _ _ e);rw[Aa,ab,aw,B,ax];simp
inductive C9 (K:Aj) (vs:U') (H:Hp) (Q:VK):Prop where
 |mk (nt A t:Addr) (W:Wd) (v:V) (F:Addr->Prop) (ws:W') (h0:vs=[.ref nt,v]) (h1:Bv K H nt A t W) (h2:A9 F H v (.lst (ws.map CD.D))) (h3:(∀w∈ws,CV W.ss w)) (h4:(ws.flatMap (Fm W.ss)).length<=4000) (h5:∀(D:Addr)(H':Hp),H D=none->Ac H H'->H' D=some (.lst ((ws.flatMap (Fm W.ss)).map V.int))->Q (.ref D) H'):C9 K vs H Q
def mH (K:Aj):Sp:=λvs H Q _=>C9 K vs H Q
abbrev Wi(P w K mg base):=BL P w K mg base "of_tellings" 2 ["net", "found"] (mH K)
def mK(ah:BO mg)(ab:QK P w K mg base)(F:By K "of_tellings" "of_tellings" Td f fd)(Z:mg "of_tellings" = some (.ref f)):Wi P w K mg base:=by
 refine B8 F Z NG (λvs H Q E h=>?_) (λaj A al s H vs Q E hr h=>?_);obtain⟨g,A,t,W,v,F,j,rfl,_⟩:=h;rfl
 . obtain⟨g,A,t,W,v,F,j,rfl,hC,hv,he,hl,q⟩:=h
   obtain⟨S,T,R,us,Gs,Es,ts,qt,qs,eN,N3⟩:=hC.net;obtain⟨P,wv,rfl,I,J⟩:=Vr hv
   refine⟨_,(An (AU (i:=2) NG.nd (BV Af))
    (An (Dr CP rfl (DN (pv 1)) (Aw (i:=3) NG.nd) (An (Dl (A7 ab (Ab (pv 0) (Ab (At Au (pv 3) (GG GH Ap)) Af))) (Cb (n:=4) rfl (AE (Aw (i:=4) NG.nd) (AE (Aw (i:=5) NG.nd) (AE (Aw (i:=6) NG.nd) (AE (Aw (i:=7) NG.nd) Ca))))))
     (Az (BA (BU Dd (pv 6) Br (BJ _)) (Az (DR (Ds DM E9 Fa Fc (pv 2) (Ab (pv 7) Af)))) BE))))
    (Az (AZ (pv 2))))),?_⟩
   rfl';refine⟨by decide,λD k=>?_⟩;obtain⟨ai,ae,L,af⟩:=new_at (o:=.lst []) k;rw[<-ae]
   refine⟨⟨_,Ae.of (L _ _ I)⟩,F5 (xs:=wv) (λi σ p=>∃r u y z B,σ=[some (.ref g),some (.ref P),some (.ref D),r,u,y,z,B]/\Ac H p/\p D=some (.lst (((j.take i).flatMap (Fm W.ss)).map V.int)))
    ⟨none,none,none,none,none,rfl,L,by rw[af,EB];rfl⟩ (λi σ p _ ag=>by obtain⟨_,_,_,_,_,_,s,_⟩:=ag;exact Ae.of (s _ _ I)) ?_ ?_⟩
   rotate_left;refine λσ H2 G=>AO λM a=>?_;obtain⟨r,u,y,z,B,rfl,c,d⟩:=G;refine a ?_;clear a;rw[J.length,Am,EU] at d;exact q D _ k c d;refine λi x σ H2 hx G=>AO λM a=>?_;obtain⟨r,u,y,z,B,rfl,c,d⟩:=G;refine a ?_;clear a;obtain⟨w,N,O⟩:=OG (J.same c) hx;have ew:=he w (Bf N);obtain⟨vv,m,U,mo,aa⟩:=ew;rw[U] at O;refine AO λM a=>?_;obtain⟨l,ms,mk,rfl,l1,l2,l3⟩:=KR O;refine a ?_;clear a;have et:LJ W.ss m=Cp W.ss w:=(by rw[U,OD]);have ak:=Qi (f:=Fm W.ss) (l:=j) i;have X:=Qh (f:=Fm W.ss) N;refine p4 ⟨_,.ref mk,Ae.of l1,l2,g,S,T,R,mk,us,Gs,Es,W.ss,m,rfl,Ar.of (c _ _ eN),N3.sc.same c,Ar.of l3,mo,aa,λtp Y=>?_⟩;rw[et] at Y;refine⟨_,Ar.of Y,rfl,?_⟩;refine⟨rfl,rfl,As (λh=>?_) (λh=>?_)⟩;have C:(Cp W.ss w).2.2.1=n7:=V.str.inj (BG h);refine⟨p4 ⟨rfl,_,Ae.of d⟩,_,d,by rw[Am];exact No (by lia),?_⟩;refine⟨_,_,_,_,_,rfl,λb o e=>?_,?_⟩;rw[AC (A3 e k)];exact c _ _ e;rw[Aa,X,Ba];unfold Fm;rw[Ag C];rfl;have C:(Cp W.ss w).2.2.1≠n7:=λe=>h (Bs (by rw[e]));refine⟨_,_,_,_,_,rfl,c,?_⟩;rw[d,X];have:Fm W.ss w=[]:=Ah C;rw[this,FA]
inductive CO (K:Aj) (vs:U') (H:Hp) (Q:VK):Prop where
 |mk (nt A t L T:Addr) (F:Addr->Prop) (W:Wd) (lv:U') (ls:Γ) (ts:F') (h0:vs=[.ref nt,.ref A,.ref t,.ref L,.ref T]) (h1:Bv K H nt A t W) (h2:BS W) (h3:H L=some (.lst lv)) (h4:AA F H lv (ls.map OE)) (h5:(∀l∈ls,II W l)) (h6:H T=some (.lst (ts.map V.int))) (h7:(∀n∈ts,0<=n/\n<W.gs.length)) (h8:(CF W ls ts).length<=4000) (h9:(∀q∈CF W ls ts,0<=q/\q<((40:Nat):Int))) (h10:∀(D:Addr)(us:F')(H':Hp),H D=none->Ac H H'->H' D=some (.lst (us.map V.int))->(∀q,q∈us↔q∈CF W ls ts)->us.length<=40->Q (.ref D) H'):CO K vs H Q
def mO (K:Aj):Sp:=λvs H Q _=>CO K vs H Q
abbrev Wj(P w K mg base):=BL P w K mg base "questions_of" 4 ["net", "answers", "table", "looks", "things"] (mO K)
def mP(aa:BO mg)(ar:Wh P w K mg base)(au:Wi P w K mg base)(av:Su P w K mg base)(F:By K "questions_of" "questions_of" Tf f fd)(C:mg "questions_of" = some (.ref f)):Wj P w K mg base:=by
 refine B8 F C OQ (λvs H ak al h=>?_) (λa7 A aB s H vs ak al hr h=>?_);obtain⟨k,A,t,L,T,F,W,lv,a,m,rfl,_⟩:=h;rfl;obtain⟨k,A,t,L,T,F,W,lv,a,m,rfl,O,ok,eL,S,aw,eT,ax,N,ae,an⟩:=h;have a8:(a.flatMap (FY W)).length<=4000:=by unfold CF at N;rw[A1] at N;lia
 refine⟨_,(An (AU (i:=5) OQ.nd (BV Af))
  (An (Dr CP rfl (DN (pv 3)) (Cb (n:=3) rfl (AE (Aw (i:=6) OQ.nd) (AE (Aw (i:=7) OQ.nd) (AE (Aw (i:=8) OQ.nd) Ca)))) (An (DR (Ds DM PySem.F.slot_list_extend PySem.F.type_list_extend Pw (pv 5) (Ab (A7 ar (Ab (pv 0) (Ab (pv 1) (Ab (pv 2) (Ab (pv 6) Af))))) Af)))
   (Az (DR (Ds DM PySem.F.slot_list_extend PySem.F.type_list_extend Pw (pv 5) (Ab (A7 au (Ab (pv 0) (Ab (pv 7) Af))) Af))))))
  (An (Dr CP rfl (DN (pv 4)) (Aw (i:=9) OQ.nd) (Az (DR (Ds DM PySem.F.slot_list_extend PySem.F.type_list_extend Pw (pv 5) (Ab (A7 av (Ab (pv 0) (Ab (pv 9) Af))) Af)))))
  (Az (AZ (Cv (iG rfl) aa.b_sorted (Ab (HU (iF rfl) aa.b_set (Ab (pv 5) Af)) Af))))))),?_⟩
 rfl';refine⟨by decide,λD hD=>?_⟩;obtain⟨a5,ay,s1,az⟩:=new_at (o:=.lst []) hD;rw[<-ay];have Q:∀{c:Hp}{zs:U'},Ac H c->Ac H (upd c D (.lst zs)):=λs b o ab=>by rw[AC (A3 ab hD)];exact s _ _ ab
 refine⟨⟨_,Ae.of (s1 _ _ eL)⟩,F5 (xs:=lv) (λi σ c=>∃E G I p,σ=[some (.ref k),some (.ref A),some (.ref t),some (.ref L),some (.ref T),some (.ref D),E,G,I,p]/\Ac H c/\c D=some (.lst (((a.take i).flatMap (FY W)).map V.int)))
  ⟨none,none,none,none,rfl,s1,by rw[az,EB];rfl⟩ (λi σ c _ U=>by obtain⟨_,_,_,_,_,s,_⟩:=U;exact Ae.of (s _ _ eL)) ?_ ?_⟩
 refine λi x σ H2 J X=>AO λNz e=>?_;obtain⟨E,G,I,p,rfl,q,u⟩:=X;refine e ?_;clear e;obtain⟨l,Y,a0⟩:=OG (S.same q) J;have af:=aw l (Bf Y);refine AO λNz e=>?_;obtain⟨ao,x1,x2,x3,rfl,er,h1,h2,_⟩:=Qf a0;refine e ?_;clear e;have z:=Qh (f:=FY W) Y;have Z:=Qi (f:=FY W) (l:=a) (i+1);rw[z,A1] at Z;have hq:(FY W l).length=(l.1.flatMap (Bx W)).length+(l.2.1.flatMap (Fm W.ss)).length:=by unfold FY;rw[A1]
 refine⟨_,Ar.of er,rfl,?_⟩;refine⟨p4 ⟨rfl,_,Ae.of u⟩,k,A,t,W,x1,F,l.1,rfl,O.same q,ok,h1,af.bo,by lia,λv r M d j=>?_⟩;refine⟨D,v,_,_,rfl,rfl,d _ _ u,j,by rw[Am,Am];exact Cf (No (by lia)),?_⟩;have g:=Q (zs:=((a.take i).flatMap (FY W)).map V.int++(l.1.flatMap (Bx W)).map V.int) (q.trans d);have B:(upd r D (.lst (((a.take i).flatMap (FY W)).map V.int++(l.1.flatMap (Bx W)).map V.int))) D=some (.lst (((a.take i).flatMap (FY W)).map V.int++(l.1.flatMap (Bx W)).map V.int)):=Aa
 have ag:A9 F (upd r D (.lst (((a.take i).flatMap (FY W)).map V.int++(l.1.flatMap (Bx W)).map V.int))) x2 (.lst (l.2.1.map CD.D)):=by
  obtain⟨r',y1,y2,y3,e',ah,_,a1,_⟩:=Qf ((OG (S.same g) J).elim λl' h=>by
   have:l'=l:=Bt (h.1.symm.trans Y);rw[this] at h;exact h.2)
  have:ao=r':=V.ref.inj e';subst this;have a2:=(Keeps.one (H:=r) (o:=.lst (((a.take i).flatMap (FY W)).map V.int++(l.1.flatMap (Bx W)).map V.int)) (d _ _ u)).tup (d _ _ er);rw[a2] at ah;have e2:=HO.tup.inj (Bt ah);cases e2;exact a1
 generalize upd r D (.lst (((a.take i).flatMap (FY W)).map V.int++(l.1.flatMap (Bx W)).map V.int))=H4 at g B ag ⊢;refine⟨p4 ⟨rfl,_,Ae.of B⟩,k,A,t,W,x2,F,l.2.1,rfl,O.same g,ag,af.en,by lia,λD3 H5 a9 s5 a3=>?_⟩;refine⟨D,D3,_,_,rfl,rfl,s5 _ _ B,a3,by rw[A1,Am,Am,Am];exact Cf (No (by lia)),?_⟩;refine⟨_,_,_,_,rfl,Q (g.trans s5),?_⟩;rw[Aa,z];unfold FY;rw[Ba,Ba,Gu];refine λσ H2 X=>AO λNz e=>?_;obtain⟨E,G,I,p,rfl,q,u⟩:=X;refine e ?_;clear e;rw[S.length,Am,EU] at u
 refine⟨⟨_,Ae.of (q _ _ eT)⟩,F5 (xs:=m.map V.int) (λi σ c=>∃p,σ=[some (.ref k),some (.ref A),some (.ref t),some (.ref L),some (.ref T),some (.ref D),E,G,I,p]/\Ac H c/\c D=some (.lst ((a.flatMap (FY W)++(m.take i).flatMap (Fl W.gs)).map V.int)))
  ⟨_,rfl,q,by rw[u,EB];simp⟩ (λi σ c _ U=>by obtain⟨_,_,s,_⟩:=U;exact Ae.of (s _ _ eT)) ?_ ?_⟩
 rintro i x σ r J ⟨p,rfl,d,j⟩;obtain⟨n,ai,rfl⟩:=getm J;have z:=Qh (f:=Fl W.gs) ai;have Z:=Qi (f:=Fl W.gs) (l:=m) (i+1);rw[z,A1] at Z;have aj:=N;unfold CF at aj;rw[A1] at aj;refine⟨p4 ⟨rfl,_,Ae.of j⟩,k,A,t,W,n,rfl,O.same d,ax n (Bf ai),λv H4 M g B=>?_⟩;refine⟨D,v,_,_,rfl,rfl,g _ _ j,B,by rw[Am,Am,A1];exact Cf (No (by lia)),?_⟩;refine⟨_,rfl,Q (d.trans g),?_⟩;rw[Aa,z];simp;rintro σ r ⟨aA,rfl,d,j⟩;rw[Am,EU] at j;refine⟨D,CF W a m,rfl,Ae.of j,N,λaq hz=>?_⟩;refine⟨aq,CF W a m,rfl,Aa,λds hd hs=>?_,λv ms a4 C M=>?_⟩;have:=Vt hd λy R=>ae y (hs y R);lia;exact an v ms _ (d.free ((A0 hz).free M)) ((d.trans (A0 hz)).trans (A0 M)) Aa C (Vt (a4.imp λ{a6 b}h=>by lia) λy R=>ae y ((C y).mp R))
inductive Cs (K:Aj) (vs:U') (H:Hp) (Q:VK):Prop where
 |mk (nt A t P U:Addr) (F:Addr->Prop) (W:Wd) (qs:Z') (inn:Int) (ord:A') (as:List AI) (due:F') (kvs:Θ) (H0:Hp) (h0:vs=[.ref nt,.ref A,.ref t,.ref P,.ref U]) (h1:Ac H0 H) (h2:H0 U=none) (h3:LN K F H0 nt t W qs inn ord) (h4:KU W qs inn ord) (h5:IH W qs as) (h6:Fn H A as) (h7:H U=some (.dK kvs)) (h8:Jv kvs qs.length) (h9:H P=some (.lst (due.map V.int))) (h10:(∀k∈due,0<=k/\k<qs.length)) (h11:due.length<=40) (h12:∀(R:Addr)(rv:U')(fs:List (Int×(Str×Int)))(kvs':Θ)(H':Hp),H R=none->(∀x o,H x=some o->x≠U->H' x=some o)->H' U=some (.dK kvs')->H' R=some (.lst rv)->AA GZ H' rv (fs.map fD)->fs.length<=40->FT W qs inn ord as H H' kvs kvs' due fs->Q (.ref R) H'):Cs K vs H Q
def mQ (K:Aj):Sp:=λvs H Q _=>Cs K vs H Q
abbrev Wk(P w K mg base):=BL P w K mg base "found_in_turn" 8 ["net", "answers", "table", "due", "uses"] (mQ K)
def mS(aX:BO mg)(aE:QM P w K mg base)(aF:Wj P w K mg base)(F:By K "found_in_turn" "found_in_turn" Tg f fd)(hm:mg "found_in_turn" = some (.ref f)):Wk P w K mg base:=by
 refine B8 F hm NH (λJ H a6 a7 h=>?_) (λbb A bi s H J a6 a7 hr h=>?_);obtain⟨nt,A,t,P,U,F,W,L,ag,ah,j,due,ai,H0,rfl,_⟩:=h;rfl
 . obtain⟨nt,A,t,P,U,F,W,L,ag,ah,j,due,ai,H0,rfl,s0,aG,hN,G,hA,an,eU,hK,M,aW,bh,a8⟩:=h
   obtain⟨aY,aZ,R0,bc,Gs,Es,bd,N,eN,N3⟩:=hN.net;have ok:=G.all j hA;have aH:A≠U:=λz=>by obtain⟨_,e,_⟩:=an;rw[z,eU] at e;cases e
   have aI:P≠U:=λz=>by rw[z,eU] at M;cases M
   refine⟨_,(An (AU (i:=5) NH.nd (BV Af))
    (An (Dr CP rfl (DN (pv 3)) (Aw (i:=6) NH.nd) (An (Dl (A7 aE (Ab (pv 0) (Ab (pv 1) (Ab (pv 2) (Ab (At Au (At Au (pv 0) Ap) (pv 6)) Af))))) (Cb (n:=4) rfl (AE (Aw (i:=7) NH.nd) (AE (Aw (i:=8) NH.nd) (AE (Aw (i:=9) NH.nd) (AE (Aw (i:=10) NH.nd) Ca))))))
     (Az (BA (FU (GB (pv 7))) (Az (Dl (A7 aF (Ab (pv 0) (Ab (pv 1) (Ab (pv 2) (Ab (pv 9) (Ab (pv 10) Af)))))) (Q9 (pv 4) (pv 6) (cS (Ls hr))))) (Az (DR (Ds DM E9 Fa Fc (pv 5) (Ab (Bl (Ab (pv 6) (Ab (pv 7) Af))) Af))))))))
    (Az (AZ (pv 5))))),?_⟩
   rfl';refine⟨by decide,λR u=>?_⟩;obtain⟨af,aJ,p,aa⟩:=new_at (o:=.lst []) u;rw[<-aJ];have au:=p _ _ eU;have aw:R≠U:=λz=>by rw[z,au] at aa;cases aa
   have aK:H0 R=none:=s0.free u
   refine⟨⟨_,Ae.of (p _ _ M)⟩,F5 (xs:=due.map V.int) (λi σ v=>∃u6 u7 u8 u9 aj d fs r,σ=[some (.ref nt),some (.ref A),some (.ref t),some (.ref P),some (.ref U),some (.ref R),u6,u7,u8,u9,aj]/\(∀x o,af x=some o->x≠U->x≠R->v x=some o)/\v U=some (.dK r)/\v R=some (.lst d)/\AA GZ v d (fs.map fD)/\fs.length<=i/\FT W L ag ah j af v ai r (due.take i) fs)
    ⟨none,none,none,none,none,[],[],ai,rfl,λx o e _ _=>e,au,aa,.nil,AF _,⟨λf hf=>by simp at hf,λk O=>by simp at O,λk _=>rfl,hK⟩⟩ (λi σ v _ aL=>by obtain⟨_,_,_,_,_,_,_,_,_,b,_⟩:=aL;exact Ae.of (b _ _ (p _ _ M) aI (A3 M u))) ?_ ?_⟩
   rotate_left;refine λσ B ak=>AO λNz T=>?_;obtain⟨u6,u7,u8,u9,aj,d,fs,r,rfl,q,C,E,X,ax,g⟩:=ak;refine T ?_;clear T;rw[Am,EU] at g;refine a8 R d fs r B u (λx o e n=>q _ _ (p _ _ e) n (A3 e u)) C E X (by rw[Am] at ax;lia) ⟨g.fd,λk O=>?_,g.kp,g.ko⟩;rcases g.al k O with h|⟨l,us,a,b⟩;exact .inl h;exact .inr ⟨l,us,p.free a,b⟩;refine λi x σ B hx ak=>AO λNz T=>?_;obtain⟨u6,u7,u8,u9,aj,d,fs,r,rfl,q,C,E,X,ax,g⟩:=ak;refine T ?_;clear T;refine IJ ?_;intro Nx Cy;obtain⟨n,al,rfl⟩:=getm hx;have be:i<due.length:=(AV.mp al).1;have hn:=aW n (Bf al);obtain⟨k,O⟩:=Ea hn.1;subst O;have ay:k<L.length:=(by lia);have aM:k<N.length:=by rw[N3.tq.len];exact ay
   have az:=AD aM;have ab:=AD ay;obtain⟨a9,eq,eu⟩:=N3.tq.at_ k _ _ az ab;have aN:Bm (N.map V.ref) (k:Int)=some (.ref N[k]):=A8 (by rw[AQ,az];rfl);have aO:=ok.q _ (Bf ab);obtain⟨aq,ar,aC,g4⟩:=aO;generalize L[k]=qk at *;have a0:due.take (i+1)=due.take i++[(k:Int)]:=by rw[E8,al];rfl
   have Y:Ac H0 B:=λy o e=>q _ _ (p _ _ (s0 _ _ e)) (λz=>by rw[z,aG] at e;cases e) (λz=>by rw[z,aK] at e;cases e);have aP:Fn B A j:=(by refine an.go (λa J e=>q _ _ (p _ _ e) (λz=>by rw[z,eU] at e;cases e) (A3 e u)) λJ e=>q _ _ (p _ _ e) aH (A3 e u));have ao:=(hN.same Y).lc (K:=K) aP.ans;refine p5 (p4 ⟨_,.ref R0,Ar.of (Y _ _ eN),rfl,p4 ⟨_,.ref N[k],Ae.of (Y _ _ N3.er),aN,nt,A,t,N[k],a9,F,W.late j,ag,ah,qk,rfl,ao.caseH,ao.tab,ok.ok,ok.sm,ok.ol,ok.irr,ok.inn,Y _ _ eq,Y _ _ eu,aq,ar,aC,g4,λba aA T2 av wv lv a w ls ts H3 Q er hL eL eT ha hw aQ ae=>?_⟩⟩);refine⟨_,Ar.of er,rfl,?_⟩;have Z:=iU ok.ok ok.sm ok.inn ae aq ar;have bf:=M7 ae
   cases a with
   |none=>
    obtain rfl:=ha.ansN;refine⟨rfl,As (λ_=>?_) (λh=>absurd (Bs rfl) h)⟩;have aR:=ao.same Q;refine⟨nt,A,t,aA,T2,_,W.late j,lv,ls,ts,rfl,aR.caseH,ok.ok,eL,aQ,Z.1,eT,Z.2.1,iV (W:=W.late j) G.s3 Z.1 (by lia) (by lia),λy S=>?_,λD us H4 hD s4 eD a1 bg=>?_⟩;have h1:=Y1 ok.ok ok.sm Z.1 S;have h2:(W.late j).as.length=L.length:=hA.len;have:=G.lq;lia;have c:=Q.trans s4;have a2:=c _ _ C;refine⟨U,_,rfl,HZ.k (k:=.inl (k:Int)) a2 (No (by have:=g.ko.len;have:=G.lq;lia)),?_⟩;have I:B D=none:=Q.free hD;have a3:D≠U:=λz=>by rw[z,C] at I;cases I
    have tk:Tk B (upd H4 U (.dK (AM r (.inl (k:Int)) (.ref D)))):=c.tk.trans (KS a2);refine⟨_,_,_,_,_,d,fs,AM r (.inl (k:Int)) (.ref D),rfl,λy o e n1 n2=>?_,Aa,?_,X.tk tk,by lia,?_⟩;rw[AC n1];exact c _ _ (q _ _ e n1 n2);rw[AC aw];exact c _ _ E;rw[a0];refine g.wait (λl J hl e=>?_) ab ae (l:=D) (us:=us) ?_ ?_ (by lia) (λy S=>(Y1 ok.ok ok.sm Z.1 ((a1 y).mp S)).1) λy S=>(a1 y).mpr S;rw[AC λz=>by rw[z,C] at e;cases e];exact c _ _ e;refine p9 λz=>?_
    cases e:af D with
    |none=>exact z e
    |some o=>by_cases a4:D=R;rw[a4,E] at I;cases I;rw[q _ _ e a3 a4] at I;cases I
    rw[AC a3];exact eD
   |some aB=>
    obtain⟨pa,rfl,aS⟩:=ha.ansS;refine⟨rfl,As (λh=>absurd (BG h) (by simp)) (λ_=>?_)⟩;have aT:=Q _ _ E;refine⟨p4 ⟨rfl,_,Ae.of aT⟩,BP,λm hm=>?_⟩;obtain⟨H4,aU,s4,aD⟩:=new_at (o:=.tup [.int k,.ref pa]) hm;rw[<-aU];have c:=Q.trans s4;have a5:=c _ _ E;have aV:d.length<=1000:=by have:=X.length;rw[Am] at this;lia
    refine⟨_,a5,Bz aV,?_⟩;have tk:Tk H4 (upd H4 R (.lst (d++[.ref m]))):=Qj a5;refine⟨_,_,_,_,_,d++[.ref m],fs++[((k:Int),aB)],r,rfl,λy o e n1 n2=>?_,?_,Aa,?_,by rw[A1,D8];lia,?_⟩;rw[AC n2];exact c _ _ (q _ _ e n1 n2);rw[AC (Ne.symm aw)];exact c _ _ C;rw[Ba];exact(X.tk (c.tk.trans tk)).snoc (.tup (tk _ _ aD) (.cons (.int _) (.cons (.tup (tk _ _ (s4 _ _ aS)) (.cons (.str _) (.cons (.int _) .nil))) .nil)));rw[a0];refine g.hit (λl J hl e=>?_) ab ⟨w,ls,ts,ae⟩;rw[AC λz=>by rw[z,aa] at hl;cases hl];exact c _ _ e
inductive ET (K:Aj) (vs:U') (H:Hp) (Q:VK):Prop where
 |mk (l N:Addr) (us:F') (kvs:Θ) (h0:vs=[.ref l,.ref N]) (h1:H l=some (.lst (us.map V.int))) (h2:us.length<=1000) (h3:H N=some (.dK kvs)) (h4:∀H',Ac H H'->Q (.bl (us.any λu=>(AG kvs (.inl u)).isSome)) H'):ET K vs H Q
def ZE (K:Aj):Sp:=λvs H Q _=>ET K vs H Q
abbrev Wl(P w K mg base):=BL P w K mg base "uses_one" 1 ["questions", "new"] (ZE K)
theorem mU(B:BO mg)(F:By K "uses_one" "uses_one" Q1 f fd)(e:mg "uses_one" = some (.ref f)):Wl P w K mg base:=by
 refine B8 F e jA (λg H Q E h=>?_) (λC A D s H g Q E m h=>?_);obtain⟨l,N,us,b,rfl,_⟩:=h;rfl;obtain⟨l,N,us,b,rfl,c,n,o,q⟩:=h;refine⟨_,(Az (AZ (Cv (XW rfl) B.b_any (Ab (GJ rfl DA (DN (pv 0)) (λ_ _ _ _ _=>(Aw (i:=0) DA.nd)) (λ_ _ _ _ _=>FV) (λ_ _ _ _ _=>(Jl (Xa (Ls m)) (pv 0) (pv 1) (by with_unfolding_all rfl)))) Af)))),?_⟩;rfl';refine⟨⟨_,Ae.of c⟩,Um (xs:=us.map V.int) (λv=>match v with|.int u=>V.bl (AG b (.inl u)).isSome|_=>V.bl false) (by rw[Am];exact Cf (Bz n)) (Ae.of c) (λj y p d R2 r a z t=>?_) (λp d a z x=>?_)⟩
 obtain⟨u,_,rfl⟩:=getm r;refine⟨N,_,rfl,De.k (k:=.inl u) (a _ _ o),?_⟩;have:=t _ (Ac.refl _);simpa using this;refine⟨d,us.map λu=>(AG b (.inl u)).isSome,rfl,Ae.of (by rw[x,DK,DK];rfl),?_⟩;have:=q _ a;rw[List.any_map];exact this
inductive Cn (K:Aj) (vs:U') (H:Hp) (Q:VK):Prop where
 |mk (nt A t P:Addr) (F:Addr->Prop) (W:Wd) (qs:Z') (inn:Int) (ord:A') (ks:F') (h0:vs=[.ref nt,.ref A,.ref t,.ref P]) (h1:LC K F H nt A t W qs inn ord) (h2:LM W qs inn ord) (h3:H P=some (.lst (ks.map V.int))) (h4:(∀k∈ks,0<=k/\k<qs.length)) (h5:∀H',Ac H H'->Q .non H'):Cn K vs H Q
def mY (K:Aj):Sp:=λvs H Q _=>Cn K vs H Q
abbrev Wm(P w K mg base):=BL P w K mg base "refuse_tangled" 8 ["net", "answers", "table", "answered"] (mY K)
def mZ(ai:BO mg)(aa:QM P w K mg base)(F:By K "refuse_tangled" "refuse_tangled" Ti f fd)(C:mg "refuse_tangled" = some (.ref f)):Wm P w K mg base:=by
 refine B8 F C Zk (λD H Q E h=>?_) (λao A aq s H D Q E hr h=>?_);obtain⟨c,A,t,P,F,W,d,p,r,j,rfl,_⟩:=h;rfl
 . obtain⟨c,A,t,P,F,W,d,p,r,j,rfl,l,ok,m,ab,q⟩:=h
   obtain⟨aj,T,R,us,Gs,Es,G,b,I,e⟩:=l.net;refine⟨_,(Az (Dr CP rfl (DN (pv 3)) (Aw (i:=4) Zk.nd) (Az (DR (A7 aa (Ab (pv 0) (Ab (pv 1) (Ab (pv 2) (Ab (At Au (At Au (pv 0) Ap) (pv 4)) Af))))))))),?_⟩;try dsimp only[AH,Cx.nox,Cx.wish]
   refine⟨⟨_,Ae.of m⟩,F5 (xs:=j.map V.int) (λi σ o=>∃g,σ=[some (.ref c),some (.ref A),some (.ref t),some (.ref P),g]/\Ac H o)
    ⟨none,rfl,Ac.refl _⟩ (λi σ o _ ae=>by obtain⟨_,_,s⟩:=ae;exact Ae.of (s _ _ m)) ?_ ?_⟩
   rotate_left;rintro σ J ⟨g,rfl,a⟩;exact q _ a;rintro i x σ J L ⟨g,rfl,a⟩;obtain⟨n,af,rfl⟩:=getm L;have M:=ab n (Bf af);obtain⟨k,N⟩:=Ea M.1;have v:k<d.length:=(by lia);have ag:k<b.length:=by rw[e.tq.len];exact v
   have y:=AD ag;have z:=AD v;obtain⟨u,eq,O⟩:=e.tq.at_ k _ _ y z;have ah:Bm (b.map V.ref) n=some (.ref b[k]):=by rw[N];exact A8 (by rw[AQ,y];rfl)
   obtain⟨S,U,X,Y⟩:=ok.q _ (Bf z);have B:=l.same a;refine p5 (p4 ⟨_,.ref R,Ar.of (a _ _ I),rfl,p4 ⟨_,.ref b[k],Ae.of (a _ _ e.er),ah,c,A,t,b[k],u,F,W,p,r,d[k],rfl,B.caseH,B.tab,ok.ok,ok.sm,ok.ol,ok.irr,ok.inn,a _ _ eq,a _ _ O,S,U,X,Y,λak al T av wv lv an w ls G H3 Z _ _ _ _ _ _ _ _=>?_⟩⟩);exact⟨_,rfl,a.trans Z⟩
def QN(m:Nat):((List.range m).map λj:Nat=>V.int j)=((List.range m).map λj:Nat=>(j:Int)).map V.int:=by rw[DK];rfl
def F9(h:i<m):((List.range m).map λj:Nat=>V.int j)[i]?=some (.int i):=by rw[AQ,p8 h];rfl
variable {d:Dt}
def NQ{F:Addr->Prop}{e:Dt}(h:A9 F H v (.tup [d,e])):∃m x y,v=.ref m/\H m=some (.tup [x,y])/\A9 F H x d/\A9 F H y e:=by
 cases h with
 | tup h t=>
  cases t with
  |cons a t=>
   cases t with
   |cons b t=>
    cases t with|nil=>exact⟨_,_,_,rfl,h,a,b⟩
inductive Fy (K:Aj) (vs:U') (H:Hp) (Q:VK):Prop where
 |mk (nt t Kn Th:Addr) (F:Addr->Prop) (W:Wd) (qs:Z') (inn:Int) (ord:A') (h0:vs=[.ref nt,.ref t,.ref Kn,.ref Th]) (h1:LN K F H nt t W qs inn ord) (h2:KU W qs inn ord) (h3:H Kn=some (.lst (List.replicate qs.length .non))) (h4:H Th=some (.lst ((List.range qs.length).map λj:Nat=>V.int j))) (h5:∀(r A Tn:Addr)(n:Nat)(as:List AI)(ts:F')(H':Hp),Ac H H'->H A=none->H Tn=none->A≠Tn->H' r=some (.tup [.ref A,.ref Tn])->Fn H' A as->H' Tn=some (.lst (ts.map V.int))->Run W qs inn ord n as ts->Hj W qs inn ord as as->Q (.ref r) H'):Fy K vs H Q
def m5 (K:Aj):Sp:=λvs H Q _=>Fy K vs H Q
abbrev Wn(P w K mg base):=BL P w K mg base "settled" 9 ["net", "table", "known", "those"] (m5 K)
def m6(av:BO mg)(bo:Wk P w K mg base)(bp:Wl P w K mg base)(bq:Wm P w K mg base)(F:By K "settled" "settled" N6 f fd)(hm:mg "settled" = some (.ref f)):Wn P w K mg base:=by
 refine B8 F hm HC (λd H bi bj h=>?_) (λbO A bS s H d bi bj hr h=>?_);obtain⟨nt,t,Kn,Th,F,W,qs,inn,ord,rfl,_⟩:=h;rfl;obtain⟨nt,t,Kn,Th,F,W,qs,inn,ord,rfl,hN,G,a9,aa,bk⟩:=h;have lq:=G.lq;generalize hm:qs.length=m at *
 refine⟨_,(An (AU (i:=4) HC.nd (GJ (g:=Mo K 2 (Mn (Hr 0) (Mn (Hr 1) HL))) (te:=WA (tB (Ct (WO K false) (AS 0) (AS 2))) (tC .non) (AS 1)) rfl CJ (OC LK rfl av.b_enumerate (Ab (pv 2) Af)) (λ_ _ _ _ _=>(Cb (n:=2) rfl (AE (Aw (i:=0) CJ.nd) (AE (Aw (i:=1) CJ.nd) Ca)))) (λ_ _ _ _ _=>FV) (λ_ _ _ _ _=>(ZP (BU Z6 (pv 0) (pv 2) (by with_unfolding_all rfl)) GA (pv 1)))))
  (An (AU (i:=5) HC.nd (A2 YZ (BV (Ab Ap Af)) (Cv F7 av.b_len (Ab (pv 4) Af))))
  (An (AU (i:=6) HC.nd cE)
  (An (AU (i:=7) HC.nd (pv 3))
  (An (AU (i:=8) HC.nd Ap)
  (An (O8 CP (Xb (pv 7)) (An (Xp (i:=8) HC.nd rfl (p4 rfl) Ap WB)
   (An (AU (i:=9) HC.nd (A7 bo (Ab (pv 0) (Ab (pv 4) (Ab (pv 1) (Ab (pv 7) (Ab (pv 6) Af)))))))
   (An (Dr CP rfl (DN (pv 9)) (Cb (n:=2) rfl (AE (Aw (i:=10) HC.nd) (AE (Aw (i:=11) HC.nd) Ca))) (An (Dl (pv 11) (Q9 (pv 4) (pv 10) T1))
    (Az (Dl (pv 8) (Q9 (pv 5) (pv 10) T1)))))
   (An (AU (i:=12) HC.nd (HU (iO rfl) av.b_dict (Ab (pv 9) Af)))
   (Az (Lw (i:=7) HC.nd rfl (p4 rfl) (tc:=OY (tB (JK (Ct (DT K) (AS 2) (AS 0)))) (tB (HS (ZE K) [] E0 (Cu (Lr (AS 3) (AS 0)) (Cu (AS 1) B3))))) rfl Ee (DN (pv 3)) (λ_ _ _ _ _=>(Aw (i:=0) Ee.nd)) (λ_ _ _ _ _=>(Pu (PW.pt (HJ (FU (GB (At Au (pv 2) (pv 0)))) (Jj (GC (A7 bp (Ab (Uc (Ls hr) (pv 3) (pv 0) (λ_ _=>rfl)) (Ab (pv 1) Af))))))))) (λ_ _ _ _ _=>(pv 0)))))))))
  (An (DR (A7 bq (Ab (pv 0) (Ab (pv 4) (Ab (pv 1) (Ab (GJ (tc:=tB (Ln (Ct (DT K) (AS 1) (AS 0)))) rfl Ef (DN (pv 3)) (λ_ _ _ _ _=>(Aw (i:=0) Ef.nd)) (λ_ _ _ _ _=>(Pu (FU (N9 (At Au (pv 1) (pv 0)))))) (λ_ _ _ _ _=>(pv 0))) Af))))))
  (Az (AZ (Bl (Ab (pv 4) (Ab (pv 5) Af)))))))))))),?_⟩
 rfl';refine⟨Kn,rfl,⟨_,a9⟩,iX (xs:=List.replicate m .non) (λD i y q=>Ac H q/\q D=some (.lst y)/\y=List.replicate i .non) (λD C=>⟨A0 C,Aa,rfl⟩) (λD i y H2 p=>Ae.of (p.1 _ _ a9)) (λD i x bM y H2 ae C r hT p k=>?_) (λA y bN aK p=>?_)⟩;obtain⟨s2,br,rfl⟩:=p;rw[List.getElem?_replicate] at r;have hi:i<m:=p9 λz=>by rw[Ah z] at r;cases r
 have M:=A0 (o:=.tup [.int i,x]) hT;refine⟨_,Ar.of Aa,rfl,?_⟩;refine⟨Th,_,rfl,p4 (Ae.of ((s2.trans M) _ _ aa)),rfl,i0 m,rfl,As (λ_=>?_) (λh=>absurd (Nr hi) h)⟩;refine k _ _ (M _ _ br) (by rw[p7];exact Bz (by lia)) ⟨λb o e=>?_,Aa,?_⟩;rw[AC (A3 e C)];exact M _ _ (s2 _ _ e);rw[List.replicate_succ'];obtain⟨s1,aA,rfl⟩:=p;rw[p7] at aA;refine⟨GW,λbl hZ=>?_⟩;obtain⟨H2,bs,s2,eZ⟩:=new_at (o:=.lst [.int 0]) hZ;rw[<-bs];have an:=s2 _ _ aA;refine⟨_,p4 ⟨_,Ae.of an,rfl⟩,bl,_,_,rfl,rfl,eZ,?_,?_,λu aB=>?_⟩;rw[p7];lia;rw[p7,Bn];show 1*m<=1000;lia;have M:=A0 (o:=.lst (List.replicate (((List.replicate m V.non).length:Nat):Int).toNat [V.int 0]).flatten) aB;have a5:(upd H2 u (.lst (List.replicate (((List.replicate m V.non).length:Nat):Int).toNat [V.int 0]).flatten)) u=some (.lst ((List.replicate m (0:Int)).map V.int)):=(by rw[Aa,p7,Bn,Y4,List.map_replicate]);generalize upd H2 u (.lst (List.replicate (((List.replicate m V.non).length:Nat):Int).toNat [V.int 0]).flatten)=H3 at M a5 ⊢;intro U hU;obtain⟨H4,bt,s4,bu⟩:=new_at (o:=.dK []) hU;rw[<-bt];have aL:=s4 _ _ (M _ _ an);have bd:=s4 _ _ a5;have aM:=((s1.trans s2).trans M).trans s4;have be:H u=none:=s1.free (s2.free aB);have aN:H U=none:=s1.free (s2.free (M.free hU));have ay:A≠u:=A3 an aB;have aC:A≠U:=A3 (M _ _ an) hU;have aO:u≠U:=A3 a5 hU;have a8:=IL.start (W:=W) (qs:=qs) (inn:=inn) (ord:=ord) (X:=λl=>l=A\/l=u) (H:=H4);rw[hm] at a8
 have bv:Fn H4 A (List.replicate m none):=⟨_,aL,by
  rw[List.map_replicate];clear aL an aA a8 hm bd a5 a9 aa hN lq
  induction m with
  |zero=>exact .nil
  |succ m ih=>exact .cons .non (ih)⟩
 refine⟨λmm σ q=>∃(n:Nat)(as:List AI)(N:F')(due:F')(P:Addr)(az:Θ)(u9 ah ai aD:V'),σ=[some (.ref nt),some (.ref t),some (.ref Kn),some (.ref Th),some (.ref A),some (.ref u),some (.ref U),some (.ref P),some (.int n),u9,ah,ai,aD]/\Ac H q/\q P=some (.lst (due.map V.int))/\Fn q A as/\q u=some (.lst (N.map V.int))/\q U=some (.dK az)/\IL W qs inn ord (λl=>l=A\/l=u) q az n as N due/\due.length<=40/\mm=nn as+(if due=[] then 0 else 1),⟨_,0,_,_,_,Th,[],none,none,none,none,rfl,aM,by rw[<-QN];exact aM _ _ aa,bv,bd,bu,a8,by rw[Am,p6];exact lq,rfl⟩,?_⟩;refine λmm σ H5 J=>AO λS a=>?_;obtain⟨n,as,N,due,P,az,u9,ah,ai,aD,rfl,s5,aE,ab,au,a0,T,bm,bw⟩:=J;refine a ?_;clear a;have hA:=(T.run.aok G.toSOk).1;have bf:as.length=m:=hA.len.trans hm;refine⟨P,_,rfl,Ae.of aE,?_⟩;by_cases hd:due=[];subst hd;refine Bi ?_;have nx:=T.end_ G.toSOk;refine⟨⟨_,Ae.of (s5 _ _ aa)⟩,UC (xs:=(List.range m).map λj:Nat=>V.int j) (λD i y q=>∃c:F',y=c.map V.int/\Ac H5 q/\q D=some (.lst y)/\c.length<=i/\∀k∈c,0<=k/\k<(m:Int)) (λD C=>⟨[],rfl,A0 C,Aa,AF _,λk E=>by cases E⟩) (λD i y q p=>?_) (λD i x y O ae R0 C r p k k0=>?_) (λD y O C p=>?_)⟩;obtain⟨c,_,s,_⟩:=p;exact Ae.of (s _ _ (s5 _ _ aa));refine AO λS a=>?_;obtain⟨c,rfl,Q,a1,lz,L⟩:=p;refine a ?_;clear a;have hi:i<m:=by have:=(AV.mp r).1;rw[Am,p6] at this;exact this
 rw[F9 hi] at r;cases r;have aj:Fn O A as:=ab.go Q.tk λ_ e=>Q _ _ e;obtain⟨d,v,e1,e2,_⟩:=aj.get (k:=i) (by lia);refine p4 ⟨d,v,Ae.of e1,e2,rfl,As (λ_=>?_) (λ_=>?_)⟩;refine k _ _ a1 (by rw[Am];exact Bz (by lia)) ⟨c++[(i:Int)],by rw[Ba];rfl,λb o e=>?_,Aa,by rw[A1,D8];lia,λa6 I=>?_⟩;rw[AC (A3 e C)];exact Q _ _ e;rcases B0.mp I with I|I;exact L a6 I;rw[AR.mp I];lia;exact k0 _ ⟨c,rfl,Q,a1,by lia,L⟩;refine AO λS a=>?_;obtain⟨c,rfl,Q,a1,_,L⟩:=p;refine a ?_;clear a;have aj:Fn O A as:=ab.go Q.tk λ_ e=>Q _ _ e;refine⟨nt,A,t,D,F,W.late as,qs,inn,ord,c,rfl,(hN.same (s5.trans Q)).lc aj.ans,G.all as hA,a1,λk E=>by rw[hm];exact L k E,λY s7=>?_⟩;refine⟨BP,λaw bx=>?_⟩;have Z:=A0 (o:=.tup [.ref A,.ref u]) bx;have a2:=(Q.trans s7).trans Z;exact bk aw A u n as N _ (s5.trans a2) aK be ay Aa (ab.go a2.tk λ_ e=>a2 _ _ e) (a2 _ _ au) T.run nx;refine As (λ_=>?_) (λh=>absurd (by cases due with|nil=>exact absurd rfl hd|cons a7 aw=>rfl) h);refine⟨_,λ_ _ h=>h,?_⟩;refine⟨_,rfl,?_⟩;cbv
 have bI:∀k∈due,0<=k/\k<qs.length:=λk E=>by
  obtain⟨j,rfl,h1,_⟩:=T.du k E;lia
 refine⟨nt,A,t,P,U,F,W,qs,inn,ord,as,due,az,H,rfl,s5,aN,hN,G,hA,ab,a0,T.ko,aE,bI,bm,λae rv fs bg O hR b6 bz aF aG bP ft=>?_⟩;have ao:∃d,H5 A=some (.lst d):=by obtain⟨d,e,_⟩:=ab;exact⟨d,e⟩
 obtain⟨bR,ao⟩:=ao;have aP:ae≠A:=λz=>by rw[z,ao] at hR;cases hR
 have aQ:ae≠u:=λz=>by rw[z,au] at hR;cases hR
 have b0:Ac H O:=λx o e=>b6 _ _ (s5 _ _ e) (λz=>by rw[z,aN] at e;cases e);have aj:Fn O A as:=ab.go (λa7 d e=>b6 _ _ e (λz=>by rw[z,a0] at e;cases e)) λd e=>b6 _ _ e aC;have aR:=b6 _ _ ao aC;have aJ:=b6 _ _ au aO
 have af:=T.aft G.toSOk hd ft (λl hl r=>by
  rcases r with rfl|rfl;rw[ao] at hl;cases hl;rw[au] at hl;cases hl) (λl d r e=>b6 _ _ e (λz=>by rw[z,a0] at e;cases e))
 have opn:∀f∈fs,∃k:Nat,f.1=(k:Int)/\k<m/\as[k]?=some none:=λf hf=>by
  refine AO λS a=>?_;obtain⟨k,_,e1,e2,_,_⟩:=ft.fd f hf;refine a ?_;clear a;obtain⟨j,e5,e6,e7⟩:=T.du _ e2;have:k=j:=(by lia);subst this;exact⟨k,e1,by lia,e7⟩
 have b1:N.length=m:=(T.run.aok G.toSOk).2.trans hm;clear ab au a0 aE
 refine⟨⟨_,Ae.of aF⟩,F5 (xs:=rv) (λi σ q=>∃ah ai,σ=[some (.ref nt),some (.ref t),some (.ref Kn),some (.ref Th),some (.ref A),some (.ref u),some (.ref U),some (.ref P),some (.int ((n:Int)+1)),some (.ref ae),ah,ai,aD]/\(∀x o,O x=some o->x≠A->x≠u->q x=some o)/\Fn q A (BY as (fs.take i))/\q u=some (.lst ((Dh N ((n:Int)+1) (fs.take i)).map V.int)))
  ⟨_,_,rfl,λ_ _ e _ _=>e,by rw[EB];exact aj,by rw[EB];exact aJ⟩ (λi σ q _ b2=>by obtain⟨_,_,_,b,_⟩:=b2;exact Ae.of (b _ _ aF aP aQ)) ?_ ?_⟩
 refine λi x σ Y r J=>AO λS a=>?_;obtain⟨ah,ai,rfl,R,aq,al⟩:=J;refine a ?_;clear a;refine IJ ?_;intro Nx Cy;have a3:Tk O Y:=λa7 d e=>R _ _ e (λz=>by rw[z,aR] at e;cases e) (λz=>by rw[z,aJ] at e;cases e);obtain⟨f,aH,b3⟩:=OG (aG.tk a3) r;refine AO λS a=>?_;obtain⟨fm,x1,y1,rfl,bn,b4,b5⟩:=NQ b3;refine a ?_;clear a;obtain rfl:=Nl b4;obtain⟨k,ek,E,_⟩:=opn f (Bf aH);have aS:f.1.toNat=k:=(by rw[ek,Bn]);obtain⟨d,aT,aU⟩:=aq;have b7:d.length=m:=by rw[aU.length,Am,RY];exact bf
 have b8:((Dh N ((n:Int)+1) (fs.take i)).map V.int).length=m:=by rw[Am,Vu];exact b1
 refine⟨_,Ar.of bn,rfl,?_⟩;refine⟨A,d,f.1,k,rfl,rfl,aT,?_,?_⟩;rw[ek,b7,Up (by lia) (by lia),Bn];refine⟨u,_,f.1,k,rfl,rfl,(AC (Ne.symm ay)).trans al,?_,?_⟩;rw[ek,b8,Up (by lia) (by lia),Bn];have b9:Tk Y (upd (upd Y A (.lst (d.set k y1))) u (.lst (((Dh N ((n:Int)+1) (fs.take i)).map V.int).set k (.int ((n:Int)+1))))):=(Qj aT).trans (Qj ((AC (Ne.symm ay)).trans al));refine⟨_,_,rfl,λx o e n1 n2=>?_,⟨d.set k y1,?_,?_⟩,?_⟩;rw[AC n2,AC n1];exact R _ _ e n1 n2;rw[AC ay,Aa];rw[iY aH,aS,List.map_set];exact(aU.set b5 k).tk b9;rw[Aa,iZ aH,aS,List.map_set];refine λσ Y J=>AO λS a=>?_;obtain⟨ah,ai,rfl,R,aq,al⟩:=J;refine a ?_;clear a;have aV:rv.length=fs.length:=(by rw[aG.length,Am]);rw[aV,EU] at aq al;have a3:Tk O Y:=λa7 d e=>R _ _ e (λz=>by rw[z,aR] at e;cases e) (λz=>by rw[z,aJ] at e;cases e);have bA:Ac H Y:=λx o e=>R _ _ (b0 _ _ e) (λz=>by rw[z,aK] at e;cases e) (λz=>by rw[z,be] at e;cases e);have aW:=R _ _ bz (Ne.symm aC) (Ne.symm aO);have aX:=af.keep (H'':=Y) λl d r e=>R _ _ e (λz=>r (.inl z)) (λz=>r (.inr z));obtain⟨ps,bB,bh⟩:=IP (aG.tk a3);refine⟨ae,rv,ps,rfl,R _ _ aF aP aQ,by rw[aV];exact Bz (by lia),bB,λNw bC=>?_⟩;obtain⟨H8,bD,Z,bE⟩:=new_at (o:=.dK (GI [] ps)) bC;rw[<-bD];have aI:=bA.trans Z;have aY:=aX.keep (H'':=H8) λl d _ e=>Z _ _ e;have aZ:Fn H8 A (BY as fs):=aq.go Z.tk λ_ e=>Z _ _ e;have ba:=Z _ _ aW;have bJ:=Z _ _ al;have lA:(BY as fs).length=m:=by rw[RY];exact bf
 clear af aX aq aj a3 aW al R
 refine⟨⟨_,Ae.of (aI _ _ aa)⟩,UC (xs:=(List.range m).map λj:Nat=>V.int j) (λD i y q=>∃c:F',y=c.map V.int/\Ac H8 q/\q D=some (.lst y)/\c.length<=i/\(∀k∈c,∃j:Nat,k=(j:Int)/\j<qs.length/\(BY as fs)[j]?=some none)/\(fs=[]->c=[])/\∀k:Nat,k<i->(BY as fs)[k]?=some none->(k:Int)∈c\/∃(l:Addr)(us:F'),AG bg (.inl (k:Int))=some (.ref l)/\H8 l=some (.lst (us.map V.int))/\∀ax∈us,∀f∈fs,f.1≠ax)
  (λD C=>⟨[],rfl,A0 C,Aa,AF _,(λk E=>by cases E),λ_=>rfl,λk E=>absurd E (Nat.not_lt_zero _)⟩) (λD i y q p=>?_) (λD i x y H9 RR R0 C r p k k0=>?_) (λD y H9 C p=>?_)⟩
 obtain⟨c,_,s,_⟩:=p;exact Ae.of (s _ _ (aI _ _ aa));refine AO λS a=>?_;obtain⟨c,rfl,B,ar,lz,L,J,ak⟩:=p;refine a ?_;clear a;have hi:i<m:=by have:=(AV.mp r).1;rw[Am,p6] at this;exact this
 rw[F9 hi] at r;cases r;have bF:Fn H9 A (BY as fs):=aZ.go B.tk λ_ e=>B _ _ e;obtain⟨d,v,e1,e2,hc⟩:=bF.get (k:=i) (by lia);refine p4 ⟨d,v,Ae.of e1,e2,rfl,?_⟩;rcases hc with⟨ho,rfl⟩|⟨p,tt,ho,rfl,_⟩;refine As (λ_=>?_) (λh=>absurd (Bs rfl) h);obtain⟨av,l,us,r,hB,hu,ag⟩:=aY.us i (by lia) ho;refine⟨U,.ref l,rfl,by rw[<-hu.1];exact De.k (k:=.inl (i:Int)) (B _ _ ba),l,Nw,us,GI [] ps,rfl,B _ _ hu.2.1,hu.2.2.1,B _ _ bE,λbQ a4=>⟨rfl,As (λhb=>?_) (λhb=>?_)⟩⟩;obtain⟨ax,_,bb⟩:=Gv.mp hb;rw[Y3 bh] at bb;obtain⟨f,hf,_⟩:=Gv.mp bb;have bK:=B.trans a4;refine k _ _ (a4 _ _ ar) (by rw[Am];exact Bz (by lia)) ⟨c++[(i:Int)],by rw[Ba];rfl,λb o e=>?_,Aa,by rw[A1,D8];lia,λa6 I=>?_,λe=>(by rw[e] at hf;cases hf),λj hj e=>?_⟩;rw[AC (A3 e C)];exact bK _ _ e;rcases B0.mp I with I|I;exact L a6 I;exact⟨i,AR.mp I,by lia,ho⟩;by_cases ej:j=i;subst ej;exact .inl (by simp);rcases ak j (by lia) e with h|h;exact .inl (Et _ h);exact .inr h;refine k0 _ ⟨c,rfl,B.trans a4,a4 _ _ ar,by lia,L,J,λj hj e=>?_⟩;by_cases ej:j=i;subst ej;refine .inr ⟨l,us,hu.1,hu.2.1,λax bG f hf z=>hb (Gv.mpr ⟨ax,bG,?_⟩)⟩;rw[Y3 bh];exact Gv.mpr ⟨f,hf,Bs z⟩;exact ak j (by lia) e;refine As (λh=>absurd (BG h) (by simp)) (λ_=>Bi (k0 _ ⟨c,rfl,B,ar,by lia,L,J,λj hj e=>?_⟩));by_cases ej:j=i;subst ej;rw[ho] at e;cases e;exact ak j (by lia) e;refine AO λS a=>?_;obtain⟨c,rfl,B,ar,lz,L,J,ak⟩:=p;refine a ?_;clear a;rw[Am,p6] at lz ak;have bL:((n+1:Nat):Int)=(n:Int)+1:=by push_cast;rfl
 have bH:=aY.keep (H'':=H9) λl d _ e=>B _ _ e;refine⟨nn (BY as fs)+(if c=[] then 0 else 1),?_,n+1,BY as fs,Dh N ((n:Int)+1) fs,c,D,bg,_,_,_,_,by rw[bL];rfl,aI.trans B,ar,aZ.go B.tk λ_ e=>B _ _ e,B _ _ bJ,B _ _ ba,bH.trn L J λk E e=>?_,by lia,rfl⟩;rw[bw,Ah hd]
 cases bc:fs with
 |nil=>rw[Ag (J bc)];exact Nat.lt_succ_of_le (Vx [] as)
 |cons f aw=>obtain⟨k,e1,e2,e3⟩:=opn f (by rw[bc];exact Bg);have:=Qk (f:=f) (fs:=aw) (as:=as) (by rw[e1,Bn];exact e3);by_cases z0:c=[];rw[Ag z0];lia;rw[Ah z0];lia
 rcases ak k (by lia) e with h|⟨l,us,h1,h2,h3⟩;exact .inl h;exact .inr ⟨l,us,h1,B _ _ h2,h3⟩
inductive Ha (K:Aj) (vs:U') (H:Hp) (Q:VK):Prop where
 |mk (nt t:Addr) (F:Addr->Prop) (W:Wd) (qs:Z') (inn:Int) (ord:A') (h0:vs=[.ref nt,.ref t]) (h1:LN K F H nt t W qs inn ord) (h2:KU W qs inn ord) (h3:∀(r A Tn:Addr)(n:Nat)(as:List AI)(ts:F')(H':Hp),Ac H H'->H A=none->H Tn=none->A≠Tn->H' r=some (.tup [.ref A,.ref Tn])->Fn H' A as->H' Tn=some (.lst (ts.map V.int))->Run W qs inn ord n as ts->Hj W qs inn ord as as->Q (.ref r) H'):Ha K vs H Q
def m7 (K:Aj):Sp:=λvs H Q _=>Ha K vs H Q
abbrev Sv(P w K mg base):=BL P w K mg base "still" 10 ["net", "table"] (m7 K)
theorem m8(B:BO mg)(aa:Wn P w K mg base)(F:By K "still" "still" Tj f fd)(v:mg "still" = some (.ref f)):Sv P w K mg base:=by
 refine B8 F v Zl (λx H Q E h=>?_) (λal A ao s H x Q E hr h=>?_);obtain⟨d,t,F,W,a,l,m,rfl,_⟩:=h;rfl;obtain⟨d,t,F,W,a,l,m,rfl,e,G,q⟩:=h;obtain⟨aj,ak,R,us,Gs,Es,an,y,z,g⟩:=e.net;have lq:=G.lq;have ai:(((y.map V.ref).length:Nat):Int)=((a.length:Nat):Int):=(by rw[Am,g.tq.len])
 refine⟨_,(An (AU (i:=2) Zl.nd (Cv F7 B.b_len (Ab (At Au (pv 0) Ap) Af)))
  (Az (AZ (A7 aa (Ab (pv 0) (Ab (pv 1) (Ab (A2 YZ (BV (Ab GA Af)) (pv 2)) (Ab (HU (iM rfl) B.b_list (Ab (HU iL B.b_range (Ab (pv 2) Af)) Af)) Af)))))))),?_⟩
 rfl';refine p5 (p4 ⟨_,.ref R,Ar.of z,rfl,_,p4 ⟨_,Ae.of g.er,rfl⟩,?_⟩);rw[ai];refine⟨GW,λZ C=>?_⟩;have D:=A0 (o:=.lst [.non]) C;refine⟨Z,_,_,rfl,rfl,Aa,by lia,?_,λb ab=>?_⟩;show 1*_<=1000;rw[Bn];lia;have u:(upd (upd H Z (.lst [.non])) b (.lst (List.replicate ((a.length:Nat):Int).toNat [V.non]).flatten)) b=some (.lst (List.replicate a.length .non)):=(by rw[Aa,Bn,Y4]);have j:=D.trans (A0 (o:=.lst (List.replicate ((a.length:Nat):Int).toNat [V.non]).flatten) ab);generalize upd (upd H Z (.lst [.non])) b (.lst (List.replicate ((a.length:Nat):Int).toNat [V.non]).flatten)=H2 at u j ⊢;refine⟨_,rfl,λp I=>⟨p,a.length,rfl,Aa,by lia,λJ ae=>?_⟩⟩;have L:=A0 (o:=.rng 0 ((a.length:Nat):Int)) I;have k:=L.trans (A0 (o:=.lst ((List.range a.length).map λi:Nat=>V.int i)) ae);have c:=j.trans k;exact⟨d,t,b,J,F,W,a,l,m,rfl,e.same c,G,k _ _ u,Aa,λr A M n N O S T U af ag X Y ah ru nx=>q r A M n N O S (c.trans T) (c.free U) (c.free af) ag X Y ah ru nx⟩
def ZF{b:List Dt}(h:Aq K H v (.lst b)):∃a vs,v=.ref a/\Ae K H a vs/\Ak K H vs b:=by cases h with|lst h t=>exact⟨_,_,rfl,h,t⟩
def ZG{b:List Dt}(h:Aq K H v (.tup b)):∃a vs,v=.ref a/\Ar K H a vs/\Ak K H vs b:=by cases h with|tup h t=>exact⟨_,_,rfl,h,t⟩
def QO:Dt->Ty
 |.non=>.non
 |.bl _=>.bool
 |.int _=>.int
 |.str _=>.str
 |.tup _=>.tup
 |.lst _=>.lst
def Sw(h:Aq K H v d):J1 K H v (QO d):=by
 cases h with|non=>exact .non|bl b=>exact .bl b|int i=>exact .int i|str x=>exact .str x|tup h t=>exact .tup h|lst h t=>exact .lst h
def Lg(h:Aq K H v d):v=.non↔d=.non:=by cases h<;>simp
def Sx (K:Aj) (n:Nat):Sp:=λvs H Q _=>∃(x y:V)(d e:Dt),vs=[x,y]/\Aq K H x d/\Aq K H y e/\Dn n d/\Dn n e/\∀(b:Bool)(H':Hp),Ac H H'->(b=true↔d=e)->Q (.bl b) H'
abbrev nA (K:Aj):Sp:=Sx K 8
theorem nB(B:BO mg)(n:Nat)(aj:BL P w K mg base "_law_same" (0+n) ["_law_found", "_law_due_here"] (Sx K n))(F:By K "_law_same" "_law_same" OW f fd):ED P w K mg base Jn (0+n+1) f fd ["_law_found", "_law_due_here"] (Sx K (n+1)):=by
 refine F.ok VL (λvs H ag ah h=>?_) (λal ak an s H vs ag ah hr h=>?_);obtain⟨x,y,d,af,rfl,_⟩:=h;rfl;obtain⟨x,y,d,af,rfl,g,G,hd,U,q⟩:=h
 refine⟨_,(An (BA (FU (GB (pv 1))) (Az (AZ (Ts (GB (pv 0))))) BE)
  (An (BA (GC (Cv J2 B.b_isinstance (Ab (pv 1) (Ab (J3 "str" rfl B.b_str (by decide +kernel)) Af)))) (Az (AZ (Q8 (Cv J2 B.b_isinstance (Ab (pv 0) (Ab (J3 "str" rfl B.b_str (by decide +kernel)) Af))) (Tu (Jl Dd (pv 0) (pv 1) (BJ _)))))) BE)
  (An (BA (GC (Cv J2 B.b_isinstance (Ab (pv 1) (Ab (J3 "int" rfl B.b_int (by decide +kernel)) Af)))) (Az (AZ (Q8 (Cv J2 B.b_isinstance (Ab (pv 0) (Ab (J3 "int" rfl B.b_int (by decide +kernel)) Af))) (Q8 (Mj (Cv J2 B.b_isinstance (Ab (pv 0) (Ab (J3 "bool" rfl B.b_bool (by decide +kernel)) Af)))) (Tu (Jl Dd (pv 0) (pv 1) (BJ _))))))) BE)
  (An (BA (PW.pt (HJ (GC (Cv J2 B.b_isinstance (Ab (pv 1) (Ab (J3 "list" rfl B.b_list (by decide +kernel)) Af)))) (Jj (Lo (GC (Cv J2 B.b_isinstance (Ab (pv 0) (Ab (J3 "list" rfl B.b_list (by decide +kernel)) Af)))))))) (Az (AZ JH)) BE)
  (An (BA (PW.pt (HJ (GC (Cv J2 B.b_isinstance (Ab (pv 1) (Ab (J3 "tuple" rfl B.b_tuple (by decide +kernel)) Af)))) (Jj (Lo (GC (Cv J2 B.b_isinstance (Ab (pv 0) (Ab (J3 "tuple" rfl B.b_tuple (by decide +kernel)) Af)))))))) (Az (AZ JH)) BE)
  (An (BA (BU JN (Cv F7 B.b_len (Ab (pv 0) Af)) (Cv F7 B.b_len (Ab (pv 1) Af)) (BJ _)) (Az (AZ JH)) BE)
  (An (Dr CP rfl (Kp rfl B.b_zip (Ab (pv 0) (Ab (pv 1) Af))) (Cb (n:=2) rfl (AE (Aw (i:=2) VL.nd) (AE (Aw (i:=3) VL.nd) Ca))) (Az (BA (Lo (GC (A7 aj (Ab (pv 2) (Ab (pv 3) Af)) (hr.mono (by lia))))) (Az (AZ JH)) BE)))
  (Az (AZ JH))))))))),?_⟩
 try dsimp only[AH,Cx.nox,Cx.wish]
 cases af with
 |non=>cases G;refine⟨rfl,As (λ_=>?_) (λh=>absurd (Bs rfl) h)⟩;exact q _ _ (Ac.refl _) ((decide_eq_true_iff).trans (Lg g))
 |bl b=>exact False.elim U
 |int s=>
  cases G;refine⟨rfl,As (λh=>absurd (BG h) (by simp)) (λ_=>?_)⟩;refine⟨_,.str,.int,rfl,.int s,rfl,Bi ?_⟩;refine⟨_,.int,.int,rfl,.int s,rfl,Ch ?_⟩;refine⟨_,.int,QO d,rfl,Sw g,_,rfl,?_⟩;cases d with|bl _=>exact False.elim hd|int ai=>cases g;refine Ch ⟨_,.bool,.int,rfl,.int _,_,rfl,_,rfl,Ch ⟨rfl,?_⟩⟩;refine q _ _ (Ac.refl _) ⟨λz=>?_,λz=>?_⟩;rw[V.int.inj (BG z)];cases z;exact Bs rfl|_=>exact Bi (q false _ (Ac.refl _) ⟨λz=>(by cases z),λz=>(by cases z)⟩)
 |str s=>
  cases G;refine⟨rfl,As (λh=>absurd (BG h) (by simp)) (λ_=>?_)⟩;refine⟨_,.str,.str,rfl,.str s,rfl,Ch ?_⟩;refine⟨_,.str,QO d,rfl,Sw g,_,rfl,?_⟩;cases d with|bl _=>exact False.elim hd|str ai=>cases g;refine Ch ⟨rfl,?_⟩;refine q _ _ (Ac.refl _) ⟨λz=>?_,λz=>?_⟩;rw[V.str.inj (BG z)];cases z;exact Bs rfl|_=>exact Bi (q false _ (Ac.refl _) ⟨λz=>(by cases z),λz=>(by cases z)⟩)
 | lst k=>
  obtain⟨b,W,rfl,e,I⟩:=ZF G;have p:=I.length;refine⟨rfl,As (λh=>absurd (BG h) (by simp)) (λ_=>?_)⟩;refine⟨_,.str,.lst,rfl,.lst e,rfl,Bi ?_⟩;refine⟨_,.int,.lst,rfl,.lst e,rfl,Bi ?_⟩;refine⟨_,.lst,.lst,rfl,.lst e,rfl,Ch ⟨_,.lst,QO d,rfl,Sw g,rfl,?_⟩⟩
  cases d with
  |lst r=>
   obtain⟨a,us,rfl,t,J⟩:=ZF g;have u:=J.length;refine Bi ⟨_,.tup,.lst,rfl,.lst e,rfl,Bi (Bi ?_)⟩;refine⟨_,p4 ⟨_,t,rfl⟩,_,p4 ⟨_,e,rfl⟩,rfl,rfl,As (λh=>?_) (λh=>?_)⟩;refine q false _ (Ac.refl _) ⟨λz=>(by cases z),λz=>?_⟩;cases z;rw[u,p] at h;simp at h;have X:r.length=k.length:=(by rw[u,p] at h;simp at h;lia);refine⟨a,b,rfl,p4 ⟨⟨_,t⟩,⟨_,e⟩,Yc LK (xs:=us) (ys:=W) (λi σ L=>∃v A,σ=[some (.ref a),some (.ref b),v,A]/\Ac H L/\∀j:Nat,j<i->r[j]?=k[j]?) ⟨none,none,rfl,Ac.refl _,λj M=>absurd M (Nat.not_lt_zero _)⟩ (λi σ L aa=>by obtain⟨_,_,_,s,_⟩:=aa;exact⟨s.seq t,s.seq e⟩) ?_ ?_⟩⟩;rintro i x y T σ Y ab ae Z ⟨v,A,rfl,C,D⟩;obtain⟨N,l,t1⟩:=J.get ab;obtain⟨O,E,t2⟩:=I.get ae;have Q:=A0 (o:=.tup [x,y]) Z;refine⟨_,Ar.of Aa,rfl,?_⟩;generalize upd Y T (.tup [x,y])=H2 at Q ⊢;have m:=C.trans Q;refine⟨x,y,N,O,rfl,t1.same m,t2.same m,hd N (Bf l),U O (Bf E),λbb H3 R S=>⟨rfl,?_⟩⟩
   cases bb with
   |false=>
    refine Ch (q false _ (m.trans R) ⟨λz=>(by cases z),λz=>?_⟩);have e1:r=k:=by cases z;rfl
    rw[e1,E] at l;have:=S.mpr (Bt l).symm;cases this
   |true=>refine Bi ⟨_,_,rfl,m.trans R,λj M=>?_⟩;by_cases c:j=i;rw[c,l,E,S.mp rfl];exact D j (by lia)
   rintro σ Y ⟨v,A,rfl,C,D⟩;refine q true _ C ⟨λ_=>?_,λ_=>rfl⟩;congr 1;refine t4 λj=>?_;by_cases c:j<k.length;exact D j (by simp only[p,u,X,Nat.min_self] at *;lia);rw[Ek (by lia),Ek (by lia)]
  |bl _=>exact False.elim hd
  |_=>exact Ch (q false _ (Ac.refl _) ⟨λz=>(by cases z),λz=>(by cases z)⟩)
 | tup k=>
  obtain⟨b,W,rfl,e,I⟩:=ZG G;have p:=I.length;refine⟨rfl,As (λh=>absurd (BG h) (by simp)) (λ_=>?_)⟩;refine⟨_,.str,.tup,rfl,.tup e,rfl,Bi ?_⟩;refine⟨_,.int,.tup,rfl,.tup e,rfl,Bi ?_⟩;refine⟨_,.lst,.tup,rfl,.tup e,rfl,Bi (Bi ?_)⟩;refine⟨_,.tup,.tup,rfl,.tup e,rfl,Ch ⟨_,.tup,QO d,rfl,Sw g,rfl,?_⟩⟩
  cases d with
  |tup r=>
   obtain⟨a,us,rfl,t,J⟩:=ZG g;have u:=J.length;refine Bi ?_;refine⟨_,p5 ⟨_,t,rfl⟩,_,p5 ⟨_,e,rfl⟩,rfl,rfl,As (λh=>?_) (λh=>?_)⟩;refine q false _ (Ac.refl _) ⟨λz=>(by cases z),λz=>?_⟩;cases z;rw[u,p] at h;simp at h;have X:r.length=k.length:=(by rw[u,p] at h;simp at h;lia);refine⟨a,b,rfl,p5 ⟨⟨_,t⟩,⟨_,e⟩,Yc TK (xs:=us) (ys:=W) (λi σ L=>∃v A,σ=[some (.ref a),some (.ref b),v,A]/\Ac H L/\∀j:Nat,j<i->r[j]?=k[j]?) ⟨none,none,rfl,Ac.refl _,λj M=>absurd M (Nat.not_lt_zero _)⟩ (λi σ L aa=>by obtain⟨_,_,_,s,_⟩:=aa;exact⟨s.seqT t,s.seqT e⟩) ?_ ?_⟩⟩;rintro i x y T σ Y ab ae Z ⟨v,A,rfl,C,D⟩;obtain⟨N,l,t1⟩:=J.get ab;obtain⟨O,E,t2⟩:=I.get ae;have Q:=A0 (o:=.tup [x,y]) Z;refine⟨_,Ar.of Aa,rfl,?_⟩;generalize upd Y T (.tup [x,y])=H2 at Q ⊢;have m:=C.trans Q;refine⟨x,y,N,O,rfl,t1.same m,t2.same m,hd N (Bf l),U O (Bf E),λbb H3 R S=>⟨rfl,?_⟩⟩
   cases bb with
   |false=>
    refine Ch (q false _ (m.trans R) ⟨λz=>(by cases z),λz=>?_⟩);have e1:r=k:=by cases z;rfl
    rw[e1,E] at l;have:=S.mpr (Bt l).symm;cases this
   |true=>refine Bi ⟨_,_,rfl,m.trans R,λj M=>?_⟩;by_cases c:j=i;rw[c,l,E,S.mp rfl];exact D j (by lia)
   rintro σ Y ⟨v,A,rfl,C,D⟩;refine q true _ C ⟨λ_=>?_,λ_=>rfl⟩;congr 1;refine t4 λj=>?_;by_cases c:j<k.length;exact D j (by simp only[p,u,X,Nat.min_self] at *;lia);rw[Ek (by lia),Ek (by lia)]
  |bl _=>exact False.elim hd
  |_=>exact Ch (q false _ (Ac.refl _) ⟨λz=>(by cases z),λz=>(by cases z)⟩)
def nC(B:BO mg)(F:By K "_law_same" "_law_same" OW f fd)(a:mg "_law_same" = some (.ref f))(n:Nat):BL P w K mg base "_law_same" (0+n) ["_law_found", "_law_due_here"] (Sx K n):=by
 have b:Binds K fd ["_law_found", "_law_due_here"] []:=F.binds λ_ _ _ _ _ _ us c=>(by obtain⟨g,i,rfl⟩:=IU c;rfl)
 induction n with|zero=>exact⟨f,fd,⟨λd H Q E h=>(by obtain⟨_,_,_,_,_,_,_,h,_⟩:=h;exact False.elim h),λA k s H j us d Q E _ _ _ _ h=>(by obtain⟨_,_,_,_,_,_,_,h,_⟩:=h;exact False.elim h)⟩,a,F.kp,b⟩|succ n e=>exact⟨f,fd,nB B n e F,a,F.kp,b⟩
abbrev Sy(P w K mg base):=BL P w K mg base "_law_same" 8 ["_law_found", "_law_due_here"] (nA K)
def nF(B:BO mg)(F:By K "_law_same" "_law_same" OW f fd)(a:mg "_law_same" = some (.ref f)):Sy P w K mg base:=
 nC B F a 8
inductive Je (K:Aj) (vs:U') (H:Hp) (Q:VK):Prop where
 |mk (nt A t:Addr) (F:Addr->Prop) (W:Wd) (qs:Z') (inn:Int) (ord:A') (n:Int) (k:Nat) (q:Qu) (h0:vs=[.ref nt,.ref A,.ref t,.int n]) (h1:n=k) (h2:qs[k]?=some q) (h3:LC K F H nt A t W qs inn ord) (h4:LM W qs inn ord) (h5:∀(v:V)(a:C')(w:Option Wt)(ls:Γ)(ts:F')(H':Hp),Ac H H'->A9 (λx=>H x=none) H' v (.tup [B4 a,Iy w])->LU W inn ord q.1 q.2.1 q.2.2 0 a w ls ts->Q v H'):Je K vs H Q
def Lh (K:Aj):Sp:=λvs H Q _=>Je K vs H Q
abbrev Wo(P w K mg base):=BL P w K mg base "find" 8 ["net", "answers", "table", "question"] (Lh K)
def nH(ag:BO mg)(Z:QM P w K mg base)(F:By K "find" "find" Tl f fd)(x:mg "find" = some (.ref f)):Wo P w K mg base:=by
 refine B8 F x Qx (λy H Q E h=>?_) (λan A aq s H y Q E hr h=>?_);obtain⟨j,A,t,F,W,l,p,r,n,k,q,rfl,_⟩:=h;rfl;obtain⟨j,A,t,F,W,l,p,r,n,k,q,rfl,rfl,c,d,ok,z⟩:=h;obtain⟨ah,T,R,us,Gs,Es,m,b,B,e⟩:=d.net;have aa:k<l.length:=(AV.mp c).1;have ab:k<b.length:=by rw[e.tq.len];exact aa
 have v:=AD ab;obtain⟨u,eq,C⟩:=e.tq.at_ k _ q v c;have ae:Bm (b.map V.ref) (k:Int)=some (.ref b[k]):=A8 (by rw[AQ,v];rfl);obtain⟨D,G,I,J⟩:=ok.q q (Bf c)
 refine⟨_,(An (Dl (A7 Z (Ab (pv 0) (Ab (pv 1) (Ab (pv 2) (Ab (At Au (At Au (pv 0) Ap) (pv 3)) Af))))) (Cb (n:=4) rfl (AE (Aw (i:=4) Qx.nd) (AE (Aw (i:=5) Qx.nd) (AE (Aw (i:=6) Qx.nd) (AE (Aw (i:=7) Qx.nd) Ca))))))
  (Az (AZ (Bl (Ab (pv 4) (Ab (pv 5) Af)))))),?_⟩
 rfl';refine p5 (p4 ⟨_,.ref R,Ar.of B,rfl,p4 ⟨_,.ref b[k],Ae.of e.er,ae,j,A,t,b[k],u,F,W,p,r,q,rfl,d.caseH,d.tab,ok.ok,ok.sm,ok.ol,ok.irr,ok.inn,eq,C,D,G,I,J,λai aj T L M lv a w N m ak O S hL eL eT U X ao af=>?_⟩⟩);refine⟨_,Ar.of S,rfl,?_⟩;refine⟨BP,λal Y=>?_⟩;have g:=A0 (o:=.tup [L,M]) Y;exact z _ a w N m _ (O.trans g) (.tup Aa (.cons (U.same g) (.cons (X.same g) .nil))) af
inductive DJ (K:Aj) (vs:U') (H:Hp) (Q:VK):Prop where
 |mk (nt A t:Addr) (F:Addr->Prop) (W:Wd) (qs:Z') (inn:Int) (ord:A') (n:Int) (k:Nat) (q:Qu) (h0:vs=[.ref nt,.ref A,.ref t,.int n]) (h1:n=k) (h2:qs[k]?=some q) (h3:LC K F H nt A t W qs inn ord) (h4:LM W qs inn ord) (h5:k<W.as.length) (h6:(W.as[k]?=some none->∀a w ls ts,LU W inn ord q.1 q.2.1 q.2.2 0 a w ls ts->a=none)) (h7:∀(v:M')(H':Hp),Ac H H'->OJ W inn ord q W.as[k]? v->Q (oV v) H'):DJ K vs H Q
def nI (K:Aj):Sp:=λvs H Q _=>DJ K vs H Q
abbrev Wp(P w K mg base):=BL P w K mg base "waited_for" 9 ["net", "answers", "table", "question"] (nI K)
def nJ(aa:BO mg)(R:Wo P w K mg base)(F:By K "waited_for" "waited_for" To f fd)(z:mg "waited_for" = some (.ref f)):Wp P w K mg base:=by
 refine B8 F z Sg (λb H Q E h=>?_) (λah A aj s H b Q E hr h=>?_);obtain⟨d,A,t,F,W,g,r,u,n,k,q,rfl,_⟩:=h;rfl
 . obtain⟨d,A,t,F,W,g,r,u,n,k,q,rfl,rfl,B,j,ok,S,T,l⟩:=h
   obtain⟨b,v,C,D,y⟩:=j.ans.get S;have U:Bm b (k:Int)=some v:=A8 D
   refine⟨_,(An (BA (FU (N9 (At Au (pv 1) (pv 3)))) (Az (AZ GA)) BE)
    (An (Dl (At Au (A7 R (Ab (pv 0) (Ab (pv 1) (Ab (pv 2) (Ab (pv 3) Af))))) Ap) (Cb (n:=3) rfl (AE (Aw (i:=4) Sg.nd) (AE (Aw (i:=5) Sg.nd) (AE (Aw (i:=6) Sg.nd) Ca)))))
    (Az (AZ (pv 6))))),?_⟩
   rfl';refine p4 ⟨_,v,C,U,rfl,As (λh=>?_) (λh=>?_)⟩;refine l none _ (Ac.refl _) (.inl ?_);rcases y with⟨_,rfl⟩|⟨p,_,e,_⟩;exact absurd h (by decide);exact⟨p,e,rfl⟩;have m:W.as[k]?=some none:=(by rcases y with⟨e,_⟩|⟨p,t',_,rfl,_⟩;exact e;exact absurd rfl h);refine⟨d,A,t,F,W,g,r,u,_,k,q,rfl,rfl,B,j,ok,λfv ab w G I ae J V c=>?_⟩;obtain rfl:=T m _ _ _ _ c;rcases Yz c with⟨_,o,rfl⟩|⟨⟨x,L⟩,_⟩;rotate_left;cases L;refine AO λM a=>?_;obtain⟨ep,ex,ey,rfl,X,ai,Y⟩:=Ql V;refine a ?_;clear a;refine AO λM a=>?_;obtain⟨N,x,af,ag,rfl,Z,_,_,O⟩:=Qf Y;refine a ?_;clear a;obtain rfl:=Nl O;refine p5 (p4 ⟨_,.ref N,Ar.of X,rfl,_,Ar.of Z,rfl,?_⟩);exact l (some o.2.2) _ J (.inr ⟨m,o,G,I,c,rfl⟩)
def NR(h:n<=100):n<sizeLine:=Nat.lt_of_le_of_lt h (by decide)
inductive Hb (K:Aj) (vs:U') (H:Hp) (Q:VK):Prop where
 |mk (nt A t:Addr) (F:Addr->Prop) (W:Wd) (qs:Z') (inn:Int) (ord:A') (h0:vs=[.ref nt,.ref A,.ref t]) (h1:LC K F H nt A t W qs inn ord) (h2:LM W qs inn ord) (h3:qs.length=W.as.length) (h4:qs.length<=100) (h5:(∀(k:Nat)(q:Qu),qs[k]?=some q->W.as[k]?=some none->∀a w ls ts,LU W inn ord q.1 q.2.1 q.2.2 0 a w ls ts->a=none)) (h6:∀(D:Addr)(ws:E')(H':Hp),H D=none->Ac H H'->H' D=some (.lst (ws.map oV))->ws.length=qs.length->(∀(k:Nat)(q:Qu)(o:M'),qs[k]?=some q->ws[k]?=some o->OJ W inn ord q W.as[k]? o)->Q (.ref D) H'):Hb K vs H Q
def nK (K:Aj):Sp:=λvs H Q _=>Hb K vs H Q
abbrev QP(P w K mg base):=BL P w K mg base "waits" 10 ["net", "answers", "table"] (nK K)
theorem nL(B:BO mg)(aa:Wp P w K mg base)(F:By K "waits" "waits" Q2 f fd)(T:mg "waits" = some (.ref f)):QP P w K mg base:=by
 refine B8 F T jB (λU H Q E h=>?_) (λag A ai s H U Q E hr h=>?_);obtain⟨L,A,t,F,W,c,I,J,rfl,_⟩:=h;rfl;obtain⟨L,A,t,F,W,c,I,J,rfl,M,ok,V,ah,ab,X⟩:=h;obtain⟨S,Y,ae⟩:=M.ans;have la:S.length=c.length:=(by rw[ae.length,Am,V]);refine⟨_,(Az (AZ (GJ rfl Fq (GD rfl B.b_range (Ab (Cv F7 B.b_len (Ab (pv 1) Af)) Af)) (λ_ _ _ _ _=>(Aw (i:=0) Fq.nd)) (λ_ _ _ _ _=>FV) (λ_ _ _ _ _=>(A7 aa (Ab (pv 1) (Ab (pv 2) (Ab (pv 3) (Ab (pv 0) Af))))))))),?_⟩;rfl'
 refine⟨_,p4 ⟨_,Y,rfl⟩,(by lia),(by lia),J9 (lo:=0) (n:=S.length) (λD i m N=>Ac H N/\N D=some (.lst m)/\∃a:E',m=a.map oV/\a.length=i/\∀(k:Nat)(q:Qu)(o:M'),c[k]?=some q->a[k]?=some o->OJ W I J q W.as[k]? o)
  (λD x=>⟨A0 x,Aa,[],rfl,rfl,λk q o _ z=>by cases z⟩) (λD i m O RR x hi g k=>?_) (λZ m O af g=>?_)⟩
 refine AO λNz l=>?_;obtain⟨p,y,a,rfl,r,C⟩:=g;refine l ?_;clear l;have u:=AD (show i<c.length by lia);generalize c[i]'(by lia)=q at u;refine⟨L,A,t,F,W,c,I,J,_,i,q,rfl,Int.zero_add _,u,M.same p,ok,by lia,ab i q u,λv H6 R g=>?_⟩;refine k _ _ (R _ _ y) (by rw[Am,r];exact NR (by lia)) ⟨λb o e=>?_,Aa,a++[v],by rw[Ba];rfl,by rw[A1,r];rfl,λj q' o' G d=>?_⟩;rw[AC (A3 e x)];exact R _ _ (p _ _ e);rcases t7 j a.length with h|h;rw[D7 h] at d;exact C j q' o' G d;rw[EA h] at d;have e:j=i:=(by have:=(AV.mp d).1;rw[D8] at this;lia);subst e;rw[r,Nat.sub_self] at d;cases d;rw[u] at G;cases G;exact g;refine AO λNz l=>?_;obtain⟨p,y,a,rfl,r,C⟩:=g;refine l ?_;clear l;exact X Z a O af p y (by lia) C
def Wq{o:M'}:oV o=.non↔o=none:=by cases o<;>simp[oV]
def NS(h:n<=60):n<sizeLine:=Nat.lt_of_le_of_lt h (by decide)
def nM (ws:E') (R:F'):Prop:=((∀(k:Nat)(o:Int),ws[k]?≠some (some o))/\R=[])\/∃(f:Nat)(o:Int),ws[f]?=some (some o)/\(∀k,k<f->∀o',ws[k]?≠some (some o'))/\GO ws f R
inductive Fz (K:Aj) (vs:U') (H:Hp) (Q:VK):Prop where
 |mk (nt A t:Addr) (F:Addr->Prop) (W:Wd) (qs:Z') (inn:Int) (ord:A') (h0:vs=[.ref nt,.ref A,.ref t]) (h1:LC K F H nt A t W qs inn ord) (h2:LM W qs inn ord) (h3:qs.length=W.as.length) (h4:qs.length<=50) (h5:(∀(k:Nat)(q:Qu),qs[k]?=some q->W.as[k]?=some none->∀a w ls ts,LU W inn ord q.1 q.2.1 q.2.2 0 a w ls ts->a=none)) (h6:(∀ws:E',ws.length=qs.length->(∀(k:Nat)(q:Qu)(o:M'),qs[k]?=some q->ws[k]?=some o->OJ W inn ord q W.as[k]? o)->Cl ws)) (h7:∀(D:Addr)(R:F')(ws:E')(H':Hp),H D=none->Ac H H'->H' D=some (.lst (R.map V.int))->ws.length=qs.length->(∀(k:Nat)(q:Qu)(o:M'),qs[k]?=some q->ws[k]?=some o->OJ W inn ord q W.as[k]? o)->nM ws R->Q (.ref D) H'):Fz K vs H Q
def nN (K:Aj):Sp:=λvs H Q _=>Fz K vs H Q
abbrev Sz(P w K mg base):=BL P w K mg base "ring_of" 11 ["net", "answers", "table"] (nN K)
def nO(ae:BO mg)(ar:QP P w K mg base)(F:By K "ring_of" "ring_of" Q3 f fd)(q:mg "ring_of" = some (.ref f)):Sz P w K mg base:=by
 refine B8 F q OR (λvs H al E h=>?_) (λaE A aJ s H vs al E X h=>?_);obtain⟨Y,A,t,F,W,qs,ag,ah,rfl,_⟩:=h;rfl;obtain⟨Y,A,t,F,W,qs,ag,ah,rfl,hC,ok,hl,aF,au,av,qk⟩:=h
 refine⟨_,(An (AU (i:=3) OR.nd (A7 ar (Ab (pv 0) (Ab (pv 1) (Ab (pv 2) Af)))))
  (An (Lw (i:=4) OR.nd rfl (p4 rfl) (g:=Mo K 2 (Mn (Hr 0) (Mn (Hr 1) HL))) rfl CK (OC LK rfl ae.b_enumerate (Ab (pv 3) Af)) (λ_ _ _ _ _=>(Cb (n:=2) rfl (AE (Aw (i:=0) CK.nd) (AE (Aw (i:=1) CK.nd) Ca)))) (λ_ _ _ _ _=>(Pu (FU (N9 (pv 1))))) (λ_ _ _ _ _=>(pv 0)))
  (An (BA (Lo (Xb (pv 4))) (Az (AZ (BV Af))) BE)
  (An (AU (i:=5) OR.nd (BV (Ab (At Au (pv 4) Ap) Af)))
  (An (O8 CP (BU (Xg X.units) (At Au (pv 3) (At Au (pv 5) (GG GH Ap))) (pv 5) (by with_unfolding_all rfl)) (Az (DR (Ds DM E9 Fa Fc (pv 5) (Ab (At Au (pv 3) (At Au (pv 5) (GG GH Ap))) Af)))))
  (An (AU (i:=6) OR.nd (Of Oh (pv 5) (Oe (Ds DM PySem.F.slot_list_index PySem.F.type_list_index (VA X.units) (pv 5) (Ab (At Au (pv 3) (At Au (pv 5) (GG GH Ap))) Af))) Od))
  (An (AU (i:=7) OR.nd (Ds DM PySem.F.slot_list_index PySem.F.type_list_index (VA X.units) (pv 6) (Ab (Cv (Y5 rfl) ae.b_min (Ab (pv 6) Af)) Af)))
  (Az (AZ (A2 Oi (Of Oh (pv 6) (Oe (pv 7)) Od) (Of Oh (pv 6) Od (Oe (pv 7))))))))))))),?_⟩
 rfl';refine⟨Y,A,t,F,W,qs,ag,ah,rfl,hC,ok,hl,by lia,au,λD c an hD s1 M Z hw=>?_⟩;have cl:=av c Z hw;refine⟨D,rfl,⟨_,M⟩,i4 (xs:=c.map oV) (λE i I B=>Ac an B/\B E=some (.lst I)/\I=(opn c i).map V.int) (λE N=>⟨A0 N,Aa,rfl⟩) (λE i I O p=>Ae.of (p.1 _ _ M)) (λE i x aD I O af J N r hT p k k0=>?_) (λE I O N p=>?_)⟩;obtain⟨C,u,rfl⟩:=p;obtain⟨o,y,rfl⟩:=getm r;have Q:i<c.length:=(AV.mp y).1;obtain⟨H3,aw,d,eT⟩:=new_at (o:=.tup [.int i,oV o]) hT;rw[<-aw];refine⟨_,Ar.of eT,rfl,rfl,As (λh=>?_) (λh=>?_)⟩
 cases o with
 |none=>exact absurd h (by decide)
 |some o=>exact k _ _ (d _ _ u) (by rw[Am];exact Nat.lt_of_le_of_lt (Y7 c i) (NS (by lia))) ⟨λb ao e=>by rw[AC (A3 e N)];exact d _ _ (C _ _ e),Aa,by rw[VB y,Ba];rfl⟩
 cases o with
 |none=>exact k0 _ ⟨C.trans d,d _ _ u,by rw[VC y]⟩
 |some o=>exact absurd rfl h
 obtain⟨C,u,rfl⟩:=p;have T:=s1.trans C;rw[Am] at u;refine⟨E,_,rfl,Ae.of u,?_⟩
 cases ez:opn c c.length with
 |nil=>refine Ch ⟨by decide,λaf R=>?_⟩;have d:=A0 (o:=.lst []) R;refine qk af [] c _ (T.free R) (T.trans d) Aa Z hw (.inl ⟨λk o z=>?_,rfl⟩);have:=VD (AV.mp z).1 z;rw[ez] at this;cases this
 |cons z zs=>
  obtain⟨f,o0,rfl,hf,hb⟩:=Qn ez;rw[ez] at u;have n0:nx c f=some o0:=CT.mpr ⟨by lia,hf⟩;refine Bi ?_;refine p4 ⟨_,.int f,Ae.of u,A8 (j:=0) rfl,GW,λP hP=>?_⟩;have d:=A0 (o:=.lst [.int f]) hP;have eP:(upd O P (.lst [.int f])) P=some (.lst ([(f:Int)].map V.int)):=Aa;generalize upd O P (.lst [.int f])=H3 at d eP ⊢;have ax:=T.free hP;have ay:D≠P:=A3 (C _ _ M) hP;refine⟨λmm σ B=>∃a:F',σ=[some (.ref Y),some (.ref A),some (.ref t),some (.ref D),some (.ref E),some (.ref P),none,none]/\Ac H B/\B D=some (.lst (c.map oV))/\B P=some (.lst (a.map V.int))/\Rw c f a/\mm=c.length-a.length,⟨_,_,rfl,T.trans d,d _ _ (C _ _ M),eP,.one n0,rfl⟩,?_⟩;refine λmm σ H5 az=>AO λNz ai=>?_;obtain⟨a,rfl,s5,U,l,L,rfl⟩:=az;refine ai ?_;clear ai;have aG:0<a.length:=List.length_pos_iff.mpr L.ne;have aI:=L.few;have r:=AD (show a.length-1<a.length by lia);generalize a[a.length-1]'(by lia)=x at r;obtain⟨o,y⟩:=L.op x (Bf r);have aa:Bm (a.map V.int) (-1)=some (.int x):=Uw (by rw[Am,AQ,r];rfl);obtain⟨a0,a1⟩:=CT.mp y;have ab:Bm (c.map oV) x=some (.int o):=(by have:=A8 (xs:=c.map oV) (j:=x.toNat) (v:=.int o) (by rw[AQ,a1];rfl);rw[Int.toNat_of_nonneg a0] at this;exact this);refine p4 ⟨_,.int x,Ae.of l,aa,p4 ⟨_,.int o,Ae.of U,ab,1,.int o,a.map Dt.int,P,_,R3,by decide,.int o,rfl,Ae.of l,Ip a,rfl,As (λh=>?_) (λh=>?_)⟩⟩;have hn:o∉a:=λz=>by rw[Eu (IQ.mpr z)] at h;cases h
  have r6:=L.more cl r y hn;have a2:=r6.few;rw[A1,D8] at a2;refine⟨_,λ_ _ z=>z,p4 ⟨rfl,_,Ae.of l⟩,p4 ⟨_,.int x,Ae.of l,aa,p4 ⟨_,.int o,Ae.of U,ab,_,l,by rw[Am];exact NS (by lia),?_⟩⟩⟩;refine⟨_,?_,a++[o],rfl,λb ao e=>by rw[AC (A3 e ax)];exact s5 _ _ e,by rw[AC ay];exact U,by rw[Aa,Ba];rfl,r6,rfl⟩;rw[A1,D8];lia;have a3:o∈a:=p9 λz=>h (by rw[EV λaq=>z (IQ.mp aq)];rfl);obtain⟨i,Q,a4⟩:=R1 a3;have aH:=(AV.mp Q).1;refine⟨p4 ⟨rfl,_,Ae.of l⟩,p4 ⟨_,.int x,Ae.of l,aa,p4 ⟨_,.int o,Ae.of U,ab,P,.int o,1,.int o,a.map Dt.int,_,i,rfl,rfl,R3,by decide,.int o,Ae.of l,Ip a,Fo.mpr Q,λm q z=>a4 m q (Fo.mp z),_,rfl,P,_,rfl,Ae.of l,λJ a5=>?_⟩⟩⟩;rw[Uq,<-SG];obtain⟨H6,a6,s6,G⟩:=new_at (o:=.lst ((a.drop i).map V.int)) a5;rw[<-a6];have rg:=λj m S q=>L.ring (j:=j) (m:=m) r y Q S q
  have aj:a.drop i≠[]:=λz=>by
   have:=Bw List.length z;rw[HE] at this;simp at this;lia
  have a7:(a.drop i).length<=50:=by rw[HE];lia
  generalize a.drop i=rd at G rg aj a7 ⊢;obtain⟨n,ns,rfl⟩:=List.exists_cons_of_ne_nil aj;obtain⟨lm,ll⟩:=Y6 n ns;obtain⟨j,S,a8⟩:=R1 lm;refine⟨p4 ⟨rfl,_,Ae.of G⟩,J,n,ns,rfl,G,J,.int (ns.foldl min n),1,.int (ns.foldl min n),(n::ns).map Dt.int,_,j,rfl,rfl,R3,by decide,.int _,Ae.of G,Ip (n::ns),Fo.mpr S,λm q z=>a8 m q (Fo.mp z),?_⟩;have R:=rg j _ S ll;refine⟨_,rfl,J,_,rfl,Ae.of G,λRa a9=>?_⟩;rw[Uq,<-SG];obtain⟨H7,aA,s7,e7⟩:=new_at (o:=.lst (((n::ns).drop j).map V.int)) a9;rw[<-aA];refine⟨_,rfl,J,_,rfl,Ae.of (s7 _ _ G),λRb aB=>?_⟩;rw[W9,<-List.map_take];obtain⟨H8,aC,s8,e8⟩:=new_at (o:=.lst (((n::ns).take j).map V.int)) aB;rw[<-aC];refine⟨Ra,Rb,_,_,rfl,rfl,s8 _ _ e7,e8,?_,λRc ak=>?_⟩;rw[Am,Am,<-A1,OK];exact Cf (NS (by lia));have s9:=A0 (o:=.lst (((n::ns).drop j).map V.int++((n::ns).take j).map V.int)) ak;have sx:=((s5.trans s6).trans s7).trans s8;refine qk Rc _ c _ (sx.free ak) (sx.trans s9) (by rw[Aa,Ba]) Z hw (.inr ⟨f,o0,hf,hb,R⟩)
def Li{ws:E'}{A B:F'}(a:Nv ws A)(b:Nv ws B)(g:A.length=B.length)(j:A[0]?=B[0]?):A=B:=by
 refine t4 λi=>?_
 induction i with
 |zero=>exact j
 |succ i k=>rcases t7 (i+1) A.length with h|h;have c:=AD (show i<A.length by lia);obtain⟨y,d,l⟩:=a _ _ c;obtain⟨z,e,f⟩:=b _ _ (k.symm.trans c);rw[Nat.mod_eq_of_lt h] at d;rw[<-g,Nat.mod_eq_of_lt h] at e;rw[l] at f;cases f;rw[d,e];rw[Ek h,Ek (by lia)]
inductive Ej (K:Aj) (vs:U') (H:Hp) (Q:VK):Prop where
 |mk (L D:Addr) (dts:I') (n:Nat) (lk:Nat->Nat) (bt:Nat->C') (g:Nat->Str×Int->Str×Int) (R:F') (h0:vs=[.ref L,.ref D]) (h1:H L=some (.lst ((Fp lk n).map V.int))) (h2:n<=40) (h3:H D=some (.lst (dts.map V.ref))) (h4:Zg H dts lk bt g n) (h5:(((∀(k:Nat)(o:Int),(E7 lk bt g n)[k]?≠some (some o))/\R=[])\/∃(f:Nat)(o:Int),(E7 lk bt g n)[f]?=some (some o)/\(∀k,k<f->∀o',(E7 lk bt g n)[k]?≠some (some o'))/\GO (E7 lk bt g n) f R)) (h6:∀(r:Addr)(H':Hp),Ac H H'->H' r=some (.lst (R.map V.int))->Q (.ref r) H'):Ej K vs H Q
def nQ (K:Aj):Sp:=λvs H Q _=>Ej K vs H Q
abbrev SA(P w K mg base):=BL P w K mg base "_law_ring" 1 ["_law_links", "_law_dues"] (nQ K)
theorem nR(B:BO mg)(F:By K "_law_ring" "_law_ring" Q4 f fd)(hm:mg "_law_ring" = some (.ref f)):SA P w K mg base:=by
 refine B8 F hm NI (λvs H av E h=>?_) (λaL aK aP s H vs av E U h=>?_);obtain⟨aa,ab,dts,n,lk,bt,g,R,rfl,_⟩:=h;rfl;obtain⟨aa,ab,dts,n,lk,bt,g,R,rfl,X,aM,eD,ak,r,aj⟩:=h;have ay:=ak.len;have aJ:(dts.map V.ref).length=n:=(by rw[Am,ay]);have aO:((Fp lk n).map V.int).length=n:=(by rw[Am,R8])
 refine⟨_,(An (Lw (i:=2) NI.nd rfl (p4 rfl) (tc:=tB (JK (Ct (DT K) (Ct (DT K) (AS 1) (AS 0)) (tC (.int ((0:Nat):Int)))))) rfl C4 (GD rfl B.b_range (Ab (Cv F7 B.b_len (Ab (pv 1) Af)) Af)) (λ_ _ _ _ _=>(Aw (i:=0) C4.nd)) (λ_ _ _ _ _=>(Pu (FU (GB (At Au (At Au (pv 1) (pv 0)) Ap))))) (λ_ _ _ _ _=>(pv 0)))
  (An (BA (BU (Ib U.units) (pv 2) (BV Af) (BJ _)) (Az (AZ (BV Af))) BE)
  (An (AU (i:=3) NI.nd (At Au (pv 2) Ap))
  (An (Dr CP rfl (GD rfl B.b_range (Ab (Cv F7 B.b_len (Ab (pv 0) Af)) Af)) (Aw (i:=4) NI.nd) (Az (AU (i:=3) NI.nd (At Au (pv 0) (pv 3)))))
  (An (AU (i:=5) NI.nd (BV (Ab (pv 3) Af)))
  (An (O8 CP (BU JN (At Au (pv 0) (At Au (pv 5) (GG GH Ap))) (pv 3) (BJ _)) (Az (DR (Ds DM E9 Fa Fc (pv 5) (Ab (At Au (pv 0) (At Au (pv 5) (GG GH Ap))) Af)))))
  (An (AU (i:=6) NI.nd (Ds DM PySem.F.slot_list_index PySem.F.type_list_index (VA U.units) (pv 5) (Ab (Cv (Y5 rfl) B.b_min (Ab (pv 5) Af)) Af)))
  (Az (AZ (A2 Oi (Of Oh (pv 5) (Oe (pv 6)) Od) (Of Oh (pv 5) Od (Oe (pv 6))))))))))))),?_⟩
 rfl';refine Sa λJ d=>?_;refine⟨_,p4 ⟨_,Ae.of eD,rfl⟩,by lia,by lia,fO (n:=(((dts.map V.ref).length:Nat):Int).toNat) (λE i Y C=>Ac H C/\C E=some (.lst Y)/\Y=(opn (E7 lk bt g n) i).map V.int) (λE Z=>⟨A0 Z,Aa,rfl⟩) (λE i Y H2 RR R0 Z hi p k k0=>?_) (λE Y H2 Z p=>?_)⟩;obtain⟨A,Q,rfl⟩:=p;have az:i<n:=(by lia);have ae:=AD (show i<dts.length by lia);generalize dts[i]'(by lia)=t at ae;obtain⟨v,et,ow⟩:=ak.at_ i t ae;have e1:Bm (dts.map V.ref) (0+(i:Int))=some (.ref t):=by rw[Int.zero_add];exact A8 (by rw[AQ,ae];rfl)
 have ew:=VF (lk:=lk) (bt:=bt) (g:=g) az;unfold HA at ow;have lo:=Y7 (E7 lk bt g n) i
 cases ea:dq lk bt g (n+1) i with
 |none=>rw[ea] at ow ew;cases ow;refine p4 ⟨_,_,Ae.of (A _ _ eD),e1,p5 (p4 ⟨_,_,Ar.of (A _ _ et),rfl,rfl,Ch ?_⟩)⟩;refine k _ _ Q (by rw[Am];exact Bz (by lia)) ⟨λb aw e=>by rw[AC (A3 e Z)];exact A _ _ e,Aa,?_⟩;rw[VB (o:=(lk i:Nat)) ew,Ba,Int.zero_add];rfl
 |some z=>rw[ea] at ow ew;cases ow;refine p4 ⟨_,_,Ae.of (A _ _ eD),e1,p5 (p4 ⟨_,_,Ar.of (A _ _ et),rfl,rfl,Bi ?_⟩)⟩;exact k0 _ ⟨A,Q,by rw[VC ew]⟩
 obtain⟨A,Q,rfl⟩:=p;rw[Bn,aJ] at Q;refine Dz d λJ d=>?_;refine⟨by decide,λp L=>?_⟩;obtain⟨H3,a0,s3,ep⟩:=new_at (o:=.lst []) L;rw[<-a0];have af:=A.trans s3;have ag:=s3 _ _ Q;refine⟨1,.lst ((opn (E7 lk bt g n) n).map Dt.int),.lst [],.lst (.nil' _),by decide,.lst (Ae.of ag) (Ip _),.lst (Ae.of ep) .nil,rfl,?_⟩
 cases ez:opn (E7 lk bt g n) n with
 |nil=>
  rw[Eu (show Dt.lst (List.map Dt.int [])=Dt.lst [] from rfl)];refine Ch ⟨by decide,λax U=>?_⟩;have D:=A0 (o:=.lst []) U;refine aj ax _ (af.trans D) ?_;rcases r with⟨_,rfl⟩|⟨f,o,hf,_⟩;exact Aa;have:=VD (i:=n) (by have:=(AV.mp hf).1;rw[Qq] at this;exact this) hf;rw[ez] at this;cases this
 |cons z zs=>
  obtain⟨G,o0,rfl,al,a1⟩:=Qn ez;rw[ez] at ag;rw[EV nofun];refine Bi ?_;rcases r with⟨a2,_⟩|⟨f,o,hf,hb,r⟩;exact absurd al (a2 _ _);have a3:G=f:=(by rcases u0 G f with h|h|h;exact absurd al (hb _ h _);exact h;exact absurd hf (a1 _ h _));subst a3;obtain⟨M,ah,a4⟩:=r.end_;rw[Qq] at ah;refine Dz d λJ d=>?_;refine p4 ⟨_,.int G,Ae.of ag,A8 (j:=0) rfl,?_⟩;refine Dz d λJ d=>?_;refine⟨_,p4 ⟨_,Ae.of (af _ _ X),rfl⟩,by lia,by lia,Pc (lo:=0) (n:=((((Fp lk n).map V.int).length:Nat):Int).toNat) (λi σ C=>∃y u4,σ=[some (.ref aa),some (.ref ab),some (.ref E),some (.int y),u4,none,none]/\Ac H C/\it (E7 lk bt g n) G i=some y) ⟨G,_,rfl,af,rfl⟩ ?_ ?_⟩;rintro i σ H4 hi ⟨y,u4,rfl,D,N⟩;obtain⟨z,S⟩:=LQ ah (i+1) (by lia);have a5:=S;rw[show it (E7 lk bt g n) G (i+1)=(it (E7 lk bt g n) G i).bind (nx (E7 lk bt g n)) from rfl,N] at S;exact p4 ⟨_,.int z,Ae.of (D _ _ X),VG S,z,_,rfl,D,a5⟩;rintro σ H4 ⟨y,u4,rfl,D,N⟩;rw[show(((((Fp lk n).map V.int).length:Nat):Int).toNat)=n by lia,ah] at N;cases N
  have a6:=Kf (E7 lk bt g n).length _ r.nd λz S=>by
   obtain⟨k,hk⟩:=List.mem_iff_getElem?.mp S;obtain⟨z',_,e⟩:=r.cyc k z hk;exact LP e
  rw[Qq] at a6;obtain⟨j,hj⟩:=List.mem_iff_getElem?.mp a4;have ai:=(AV.mp hj).1;have cyc:=r.cyc.rot (Cf ai);have L:(R.drop j++R.take j).Perm R:=(by refine List.perm_append_comm.trans ?_;rw[List.take_append_drop]);have lr:=OK R j;have T:(R.drop j++R.take j)[0]?=some M:=(by rw[Qm (Cf ai) (by lia),Nat.zero_add,Nat.mod_eq_of_lt ai,hj]);have nd:=L.nodup_iff.mpr r.nd;have an:∀x,R[0]?=some x->x∈R.drop j++R.take j:=λx q=>L.mem_iff.mpr (Bf q);have ao:∀x,R[0]?=some x->∀y∈R.drop j++R.take j,x<=y:=λx q y N=>r.low x q y (L.mem_iff.mp N);generalize R.drop j++R.take j=W at cyc lr T nd an ao;clear L;refine Dz d λJ d=>?_;refine⟨GW,λP hP=>?_⟩;obtain⟨H5,a7,s5,eP⟩:=new_at (o:=.lst [.int M]) hP;rw[<-a7];have a8:=D.free hP
  have tk:W.take (0+1)=[M]:=by
   cases W with|nil=>cases T|cons x l=>cases T;rfl
  refine Dz d λJ d=>?_;refine⟨λmm σ C=>∃n,σ=[some (.ref aa),some (.ref ab),some (.ref E),some (.int M),u4,some (.ref P),none]/\Ac H C/\C P=some (.lst ((W.take (n+1)).map V.int))/\n<W.length/\mm=W.length-n,⟨_,0,rfl,D.trans s5,by rw[tk];exact eP,by lia,rfl⟩,?_⟩;refine λmm σ H6 a9=>AO λNz aq=>?_;obtain⟨n,rfl,s6,u,hn,rfl⟩:=a9;refine aq ?_;clear aq;have q:=AD hn;generalize W[n]=x at q;have O:Bm ((W.take (n+1)).map V.int) (-1)=some (.int x):=Uw (by rw[Am,FQ,Nat.min_eq_left (by lia),AQ,Nat.add_sub_cancel,List.getElem?_take_of_lt (by lia),q];rfl);obtain⟨o,I,ar⟩:=cyc n x q;refine p4 ⟨_,.int x,Ae.of u,O,p4 ⟨_,.int o,Ae.of (s6 _ _ X),VG ar,rfl,rfl,As (λh=>?_) (λh=>?_)⟩⟩;have aA:o≠M:=λz=>by rw[z] at h;simp at h
  have au:n+1<W.length:=(by rcases t7 (n+1) W.length with g|g;exact g;rw[show n+1=W.length by lia,Nat.mod_self,T] at I;cases I;exact absurd rfl aA);rw[Nat.mod_eq_of_lt au] at I;refine⟨_,λ_ _ z=>z,p4 ⟨rfl,_,Ae.of u⟩,p4 ⟨_,.int x,Ae.of u,O,p4 ⟨_,.int o,Ae.of (s6 _ _ X),VG ar,_,u,by rw[Am,FQ];exact Bz (by lia),?_⟩⟩⟩;refine⟨_,?_,n+1,rfl,λb aw e=>by rw[AC (A3 e a8)];exact s6 _ _ e,?_,au,rfl⟩;lia;rw[Aa,List.take_add_one (i:=n+1),I,Ba];rfl;have aB:o=M:=p9 λz=>h (by rw[DL λe=>z (V.int.inj e)];rfl);have aN:n+1=W.length:=(by rcases t7 (n+1) W.length with g|g;rw[Nat.mod_eq_of_lt g,aB,<-T] at I;rw[AD g,AD (show 0<W.length by lia)] at I;exact absurd (Bt I).symm ((List.pairwise_iff_getElem.mp nd) 0 (n+1) (by lia) g (by lia));lia);rw[List.take_of_length_le (by lia)] at u;obtain⟨c,ns,rfl⟩:=List.exists_cons_of_ne_nil (l:=W) (by intro z;rw[z] at hn;cases hn);obtain⟨lm,ll⟩:=Y6 c ns;obtain⟨a,ha,aC⟩:=R1 lm;have O:=(AV.mp ha).1;have aD:(c::ns).drop a++(c::ns).take a=R:=(by refine(Li r.cyc (cyc.rot (Cf O)) (by rw[OK];exact lr.symm) ?_).symm;rw[Qm (Cf O) (by lia),Nat.zero_add,Nat.mod_eq_of_lt O,ha];have q:=AD (show 0<R.length by lia);have l1:=ao _ q _ lm;have l2:=ll _ (an _ q);rw[q,show R[0]=ns.foldl min c by lia]);refine Dz d λJ d=>?_;refine⟨p4 ⟨rfl,_,Ae.of u⟩,P,c,ns,rfl,u,P,.int (ns.foldl min c),1,.int (ns.foldl min c),(c::ns).map Dt.int,_,a,rfl,rfl,R3,by decide,.int _,Ae.of u,Ip (c::ns),Fo.mpr ha,λm hm z=>aC m hm (Fo.mp z),?_⟩;refine Sb d ?_;refine⟨_,rfl,P,_,rfl,Ae.of u,λRa aE=>?_⟩;rw[Uq,<-SG];obtain⟨H7,aF,s7,e7⟩:=new_at (o:=.lst (((c::ns).drop a).map V.int)) aE;rw[<-aF];refine⟨_,rfl,P,_,rfl,Ae.of (s7 _ _ u),λRb aG=>?_⟩;rw[W9,<-List.map_take];obtain⟨H8,aH,s8,e8⟩:=new_at (o:=.lst (((c::ns).take a).map V.int)) aG;rw[<-aH];refine⟨Ra,Rb,_,_,rfl,rfl,s8 _ _ e7,e8,?_,λRc aI=>?_⟩;rw[Am,Am,<-A1,OK];exact Cf (Bz (by lia));have s9:=A0 (o:=.lst (((c::ns).drop a).map V.int++((c::ns).take a).map V.int)) aI;exact aj Rc _ (((s6.trans s7).trans s8).trans s9) (by rw[Aa,<-Ba,aD])
abbrev JB (ns:F'):Nat->C':=G0 (Ey ns) (L7 ns)
abbrev mG (ns:F'):Nat->Str×Int->Str×Int:=gS (mM ns) (Ey ns) (L7 ns) (GU ns)
abbrev mA (ns:F') (i:Nat):AI:=HA (EN ns) (JB ns) (mG ns) (mM ns+1) i
abbrev mT (ns:F') (i:Nat):Int:=LR (EN ns) (JB ns) (mG ns) (mM ns+1) i
abbrev Jf (ns:F'):List AI:=Ny (EN ns) (JB ns) (mG ns) (mM ns)
abbrev ZH (ns:F'):F':=Zf (EN ns) (JB ns) (mG ns) (mM ns)
abbrev Wr (ns:F'):E':=E7 (EN ns) (JB ns) (mG ns) (mM ns)
abbrev mW (ns:F') (ss:List Bo) (e0:J') (as:List AI):Wd:=⟨ss,K6 ns (mM ns),as,[([(Bp ns 1,1)],e0),([],[Bp ns 4])]⟩
section
variable {ns:F'} {ss:List Bo} {e0:J'} {ord:A'}
def NT(j k:Nat)(h:j<5/\k<5/\j≠k:=by decide):Bp ns j≠Bp ns k:=λe=>by have a:(Gh (DU ns 1) 5).Nodup:=jE (by decide);have b:(Gh (DU ns 1) 5).length=5:=VN _ _;unfold Bp at e;rw[CU,CU,AD (by lia),AD (by lia)] at e;exact h.2.2 ((List.getElem_inj a).mp e)
def QQ(a:ord.Perm (QG ns))(p:Str×Str):p∈ord↔p=(Bp ns 0,Bp ns 1)\/p=(Bp ns 1,Bp ns 2)\/p=(Bp ns 0,Bp ns 2):=by rw[a.mem_iff];simp
def Wu(d:ord.Perm (QG ns))(j k:Nat)(c:j<5/\k<5/\(j=0->k≠1/\k≠2)/\(j=1->k≠2):=by decide):(Bp ns j,Bp ns k)∉ord:=λh=>by
 obtain⟨f,g,p,q⟩:=c;rw[QQ d] at h
 have o:∀{a b:Nat},a<5->b<5->(Bp ns j,Bp ns k)=(Bp ns a,Bp ns b)->j=a/\k=b:=λ{a b}i l e=>by
  injection e with m n;exact⟨p9 λz=>NT j a ⟨f,i,z⟩ m,p9 λz=>NT k b ⟨g,l,z⟩ n⟩
 rcases h with h|h|h<;>have:=o (by decide) (by decide) h<;>lia
def Gi.two(P:Gi ns (mM ns) ss){s:Bo}(d:s∈ss):∃i,i<mM ns/\(s=I0 ns i\/s=L8 ns i):=by obtain⟨h,b⟩:=List.mem_iff_getElem?.mp d;have c:=(AV.mp b).1;rw[P.len] at c;obtain⟨i,a,e|e⟩:=Zv c;have:=P.h i a;rw[e,b,Ag a] at this;exact⟨i,a,.inl (Bt this)⟩;have:=P.p i a;rw[e,b,Ag a] at this;exact⟨i,a,.inr (Bt this)⟩
def QR(i:Nat):(Ey ns i=n8/\JA ns i=Bp ns 0)\/(Ey ns i≠n8/\Ey ns i=o2/\JA ns i=Bp ns 2)\/(Ey ns i≠n8/\Ey ns i≠o2/\JA ns i=Bp ns 3):=by unfold JA;by_cases a:Ey ns i=n8;rw[Ag a];exact .inl ⟨a,rfl⟩;rw[Ah a];by_cases b:Ey ns i=o2;rw[Ag b];exact .inr (.inl ⟨a,b,rfl⟩);rw[Ah b];exact .inr (.inr ⟨a,b,rfl⟩)
def Gi.snet(P:Gi ns (mM ns) ss)(d:e0.Perm (VS ns))(b:ord.Perm (QG ns)):GP (mW ns ss e0 []) (Gj ns (mM ns)) ord (mM ns) (Bp ns 1) (Bp ns 4) (Ho ns) e0 (Er ns) (FZ ns) (EN ns) (Ey ns) (JA ns) (L7 ns) (GU ns) where
 sts:=rfl
 len:=GS _ _
 q i a:=by rw[AQ,p8 a];rfl
 sh i a:=by have:=P.h i a;rw[Ag a] at this;exact this
 sp i a:=by have:=P.p i a;rw[Ag a] at this;exact this
 gl:=GS _ _
 gs i a:=by show(K6 ns (mM ns))[i]?=_;rw[AQ,p8 a];rfl
 ne i j a f:=QF a f
 lt i a:=IX ns (QD ns).1 i
 s8 s c:=by obtain⟨i,_,rfl|rfl⟩:=P.two c;show 1<=8;decide;exact Dp _
 t3 s c:=by
  obtain⟨i,_,rfl|rfl⟩:=P.two c;unfold I0;show(if _ then _ else _:List Dg).length<=3
  split<;>simp;unfold L8
  show(if _ then _ else _:List Dg).length<=3
  split<;>simp
 e_ i a g:=by rw[d.mem_iff];rcases QR (ns:=ns) i with⟨_,e⟩|⟨_,_,e⟩|⟨_,_,e⟩<;>rw[e]<;>simp
 bo i a e:=by
  rcases QR (ns:=ns) i with⟨_,z⟩|⟨h,_⟩|⟨h,_⟩;rw[z];exact(QQ b _).mpr (.inl rfl)
  all_goals exact absurd e h
 bn i a e:=by
  rcases QR (ns:=ns) i with⟨z,_⟩|⟨_,_,z⟩|⟨_,_,z⟩;exact absurd z e
  all_goals rw[z];exact Wu b _ _
 wo i a e:=by rcases QR (ns:=ns) i with⟨h,_⟩|⟨_,_,z⟩|⟨_,h,_⟩;rw[h] at e;exact absurd e (by decide +kernel);rw[z];exact(QQ b _).mpr (.inr (.inl rfl));exact absurd e h
 wn i a e:=by rcases QR (ns:=ns) i with⟨_,z⟩|⟨_,h,_⟩|⟨_,_,z⟩;rw[z];exact Wu b _ _;exact absurd h e;rw[z];exact Wu b _ _
 kd i a:=IY ns (mM ns) i
set_option tactic.hygienic true in
def Gi.sok(P:Gi ns (mM ns) ss)(l:e0.Perm (VS ns))(g:ord.Perm (QG ns)):KU (mW ns ss e0 []) (Gj ns (mM ns)) 1 ord:=by
 have N:=P.snet l g;obtain⟨j,B⟩:=QD ns;have C:=NT (ns:=ns) 0 1;have D:=NT (ns:=ns) 0 2;have E:=NT (ns:=ns) 1 2;refine {all:=λf k=>?_,tr:=λx y z c d=>?_,s3:=λs b=>?_,lq:=by rw[GS];lia};have m:f.length=mM ns:=k.len.trans (GS _ _);have n:=N.hub f;have o:P8 (mW ns ss e0 f):=(by refine⟨N.s8,λs b p a=>?_,λp a=>?_,k.rng,λs b p a=>?_⟩;obtain⟨i,e,rfl|rfl⟩:=P.two b;rw[AR.mp a];have:=N.lt i e;exact .inr ⟨rfl,by show(0:Int)<=(EN ns i:Int);lia,by show(EN ns i:Int)<f.length;lia⟩;cases a;obtain⟨i,e,rfl⟩:=AW.mp a;have:FZ ns i<2*mM ns:=L6 (by have:=List.mem_range.mp e;lia);exact .inr (.inl ⟨rfl,by show(0:Int)<=(FZ ns i:Int);lia,by show(FZ ns i:Int)<ss.length;rw[P.len];lia⟩);have b:s=([(Bp ns 1,1)],e0)\/s=([],[Bp ns 4]):=(by simpa using b);rcases b with rfl|rfl;rw[AR.mp a];exact⟨by show(0:Int)<=1;decide,by show(1:Int)<2;decide⟩;cases a)
 obtain⟨ok,r⟩:=n.ok o (by show ss.length<=100;rw[P.len];lia) (λs b p a=>by
  show Kb (K6 ns (mM ns)).length f.length p;rw[GS,m];obtain⟨i,e,rfl|rfl⟩:=P.two b;unfold I0 at a;change p∈(if _ then _ else _:List Dg) at a
  split at a;cases a;rw[AR.mp a];exact .inl ⟨rfl,Zr ns j i⟩;unfold L8 at a
  change p∈(if _ then _ else _:List Dg) at a
  split at a;cases a;rename_i h;rw[AR.mp a];have:=Zs ns j i
  exact .inl ⟨rfl,by show 0<=GU ns i;lia,this.2⟩)
 refine⟨ok,r,?_,λx h=>?_,⟨by decide,by show(1:Int)<2;decide⟩,λq t=>?_⟩;rw[g.length_eq];show 3<=40;decide;rw[QQ g] at h;rcases h with h|h|h<;>injection h with c d<;>exact absurd (c.symm.trans d) (NT _ _);obtain⟨i,e,rfl⟩:=AW.mp t;have:Er ns i<2*mM ns:=L6 (by have:=List.mem_range.mp e;lia);exact⟨⟨by show(0:Int)<=(Er ns i:Int);lia,by show(Er ns i:Int)<ss.length;rw[P.len];lia⟩,⟨by show(0:Int)<=0;decide,by show(0:Int)<2;decide⟩,AF 1,by show 1<=8;decide⟩;rw[QQ g] at c d ⊢;rcases c with c|c|c<;>rcases d with d|d|d<;>injection c with u v<;>injection d with w A<;>(first|exact absurd (v.symm.trans w) (NT _ _)|exact .inr (.inr (by rw[u,A])));obtain⟨i,_,rfl|rfl⟩:=P.two b;show 1<=3;decide;exact Dp _
end
def SD(as:List AI):Dn 8 (.lst (as.map B4)):=λd hd=>by
 obtain⟨o,_,rfl⟩:=AW.mp hd
 cases o with
 |none=>exact True.intro
 |some p=>intro d hd;rcases B1.mp hd with rfl|hd;exact True.intro;rw[AR.mp hd];exact True.intro
def Mb(ws:E'):Dn 8 (.lst (ws.map Kq)):=λd hd=>by obtain⟨o,_,rfl⟩:=AW.mp hd;cases o<;>exact True.intro
def SE(ws:F'):Dn 8 (.lst (ws.map Dt.int)):=λd hd=>by obtain⟨o,_,rfl⟩:=AW.mp hd;exact True.intro
inductive Mc (K:Aj) (vs:U') (H:Hp) (Q:VK):Prop where
 |mk (a:Addr) (ns:F') (h0:vs=[.ref a]) (h1:Ae K H a (ns.map V.int)) (h2:ns.length<=63) (h3:∀H',Q (.bl true) H'):Mc K vs H Q
def QS (K:Aj):Sp:=λvs H Q _=>Mc K vs H Q
theorem Jg(B:BO mg)(aV:Sj P w K mg base)(bh:QC P w K mg base)(bE:Sk P w K mg base)(aW:Sv P w K mg base)(ag:Sy P w K mg base)(bi:QP P w K mg base)(bF:Sz P w K mg base)(bG:SA P w K mg base)(F:By K "law" "law" Hq f fd):ED P w K mg base Jn 12 f fd ["_law_script"] (QS K):=by
 refine F.ok IS (λvs H an E h=>?_) (λbW A cz s H vs an E hr h=>?_);obtain⟨a,ns,rfl,_⟩:=h;rfl;obtain⟨a,ns,rfl,hS,cw,kq⟩:=h
 refine⟨_,(An (Dl (A7 aV (Ab (pv 0) Af)) (Cb (n:=2) rfl (AE (Aw (i:=1) IS.nd) (AE (Aw (i:=2) IS.nd) Ca))))
  (An (AU (i:=3) IS.nd (A7 aV (Ab (pv 0) Af)))
  (An (Dl (A7 bh (Ab (pv 0) (Ab (Cv F7 B.b_len (Ab (At Au (pv 1) Ap) Af)) Af))) (Cb (n:=3) rfl (AE (Aw (i:=4) IS.nd) (AE (Aw (i:=5) IS.nd) (AE (Aw (i:=6) IS.nd) Ca)))))
  (An (AU (i:=7) IS.nd (GJ rfl G6 (GD rfl B.b_range (Ab (Cv F7 B.b_len (Ab (pv 4) Af)) Af)) (λ_ _ _ _ _=>(Aw (i:=0) G6.nd)) (λ_ _ _ _ _=>FV) (λ_ _ _ _ _=>(A7 bE (Ab (pv 1) (Ab (pv 2) (Ab (pv 3) (Ab (pv 0) Af))))))))
  (An (Dl (A7 aW (Ab (At Au (pv 3) Ap) (Ab (At Au (pv 3) Ap) Af))) (Cb (n:=2) rfl (AE (Aw (i:=8) IS.nd) (AE (Aw (i:=9) IS.nd) Ca))))
  (An (BA (PW.pt (OZ (Lo (GC (A7 ag (Ab (pv 8) (Ab (GJ (te:=Ct (DT K) (AS 0) (tC (.int ((0:Nat):Int)))) rfl G7 (DN (pv 7)) (λ_ _ _ _ _=>(Aw (i:=0) G7.nd)) (λ_ _ _ _ _=>FV) (λ_ _ _ _ _=>(At Au (pv 0) Ap))) Af))))) (Q7 (Lo (GC (A7 ag (Ab (pv 9) (Ab (GJ (te:=Ct (DT K) (AS 0) (tC (.int ((1:Nat):Int)))) rfl G8 (DN (pv 7)) (λ_ _ _ _ _=>(Aw (i:=0) G8.nd)) (λ_ _ _ _ _=>FV) (λ_ _ _ _ _=>(At Au (pv 0) Ap))) Af)))))))) (Az (AZ JH)) BE)
  (An (Lw (i:=10) IS.nd rfl (p4 rfl) (te:=Ct (DT K) (FH (Cu (tC .non) (Cu (Ct (DT K) (AS 1) (AS 0)) B3))) (My (λxs H an=>(∃i,xs=[V.int i]/\an (.int i) H)\/∃k,xs=[V.bl k]/\an (.int (if k then 1 else 0)) H) (Cu (JK (Ct (DT K) (Ct (DT K) (AS 2) (AS 0)) (tC (.int ((0:Nat):Int))))) B3))) rfl G9 (GD rfl B.b_range (Ab (Cv F7 B.b_len (Ab (pv 4) Af)) Af)) (λ_ _ _ _ _=>(Aw (i:=0) G9.nd)) (λ_ _ _ _ _=>FV) (λ_ _ _ _ _=>(At Au (BV (Ab GA (Ab (At Au (pv 1) (pv 0)) Af))) (HU Pe B.b_int (Ab (Ts (GB (At Au (At Au (pv 2) (pv 0)) Ap))) Af)))))
  (An (BA (Lo (GC (A7 ag (Ab (A7 bi (Ab (At Au (pv 3) Ap) (Ab (pv 8) (Ab (At Au (pv 3) Ap) Af)))) (Ab (pv 10) Af))))) (Az (AZ JH)) BE)
  (An (BA (Lo (GC (A7 ag (Ab (A7 bF (Ab (At Au (pv 3) Ap) (Ab (pv 8) (Ab (At Au (pv 3) Ap) Af)))) (Ab (A7 bG (Ab (pv 4) (Ab (pv 7) Af))) Af))))) (Az (AZ JH)) BE)
  (Az (AZ (Q8 (A7 ag (Ab (At Au (A7 aW (Ab (At Au (pv 3) Ap) (Ab (At Au (pv 3) Ap) Af))) Ap) (Ab (pv 8) Af))) (Tu (Jl (Ib hr.units) (pv 3) (Bl (Ab (pv 1) (Ab (pv 2) Af))) (BJ _))))))))))))))),?_⟩
 rfl';refine Sa λN l=>?_;refine⟨a,ns,rfl,hS,λbP nt t bQ bR bg us Gs Es gt qt M u J bS s1 er eN N3 P TB pe se ay so=>?_⟩;refine⟨_,Ar.of er,rfl,?_⟩;refine Dz l λN l=>?_;refine⟨a,ns,rfl,s1.seq hS,λr2 L y S2 T2 R2 bj bk bl bm bn bX bo bH H2 s2 aA aB aC P2 aD bp bq br bs=>?_⟩;obtain rfl:=P.uniq P2;obtain rfl:u=bo:=Ov (O:=CC) (pe.trans bp.symm) se bq;obtain rfl:J=bH:=Ov (O:=BW CC CC) (ay.trans br.symm) so bs;have ao:=(P.snet pe ay).tnet 1;have aa:=P.sok pe ay;obtain⟨m1,bY⟩:=QD ns;have bt:(Gj ns (mM ns)).length=mM ns:=GS _ _;have bu:(qt.map V.ref).length=mM ns:=(by rw[Am,N3.tq.len,bt]);refine Dz l λN l=>?_;refine p5 (p4 ⟨_,.ref bg,Ar.of (s2 _ _ eN),rfl,_,p4 ⟨_,Ae.of (s2 _ _ N3.er),rfl⟩,a,ns,mM ns,by rw[bu];rfl,(s1.trans s2).seq hS,m1,by lia,λr3 ab O Pp to H3 s3 bv eL eO TO eP=>⟨_,Ar.of bv,rfl,?_⟩⟩);have ll:((Fp (GR ns (mM ns)) (mM ns)).map V.int).length=mM ns:=(by rw[Am,R8]);refine Dz l λN l=>?_
 refine⟨_,p4 ⟨_,Ae.of eL,rfl⟩,by lia,by lia,J9 (n:=((((Fp (GR ns (mM ns)) (mM ns)).map V.int).length:Nat):Int).toNat) (λD i c g=>∃dts:I',c=dts.map V.ref/\Ac H3 g/\g D=some (.lst c)/\dts.length=i/\∀(j:Nat)(t:Addr),dts[j]?=some t->∃v,g t=some (.tup [v,.int (mT ns j)])/\A9 GZ g v (B4 (mA ns j)))
  (λD hD=>⟨[],rfl,A0 hD,Aa,rfl,λj t h=>by cases h⟩) (λD i c H4 RR hD hi hv k=>?_) (λD c H4 hD hv=>?_)⟩
 refine AO λNz ah=>?_;obtain⟨dts,rfl,z,Q,I,hd⟩:=hv;refine ah ?_;clear ah;refine⟨ab,O,Pp,to,mM ns,i,EN ns,Ey ns,L7 ns,GU ns,?_,z _ _ eL,z _ _ eO,TO.same z,z _ _ eP,by lia,by lia,λi _=>IX ns m1 i,λi _=>Zr ns m1 i,λi _=>(Zs ns m1 i).2,λt v H5 ht C et ow=>?_⟩;show[V.ref ab,V.ref O,V.ref Pp,V.int (0+(i:Int))]=_;rw[Int.zero_add];have aE:=C _ _ Q;have tk:Tk H5 (upd H5 D (.lst (dts.map V.ref++[.ref t]))):=Qj aE;refine k _ _ aE (by rw[Am,I];exact Bz (by lia)) ⟨dts++[t],by rw[Ba];rfl,λb o e=>by rw[AC (A3 e hD)];exact C _ _ (z _ _ e),Aa,by rw[A1,I];rfl,λj t' m=>?_⟩;rcases t7 j dts.length with ae|ae;rw[D7 ae] at m;obtain⟨v',q,G⟩:=hd j t' m;exact⟨v',tk _ _ (C _ _ q),(G.same C).tk tk⟩;have R:=(AV.mp m).1;rw[A1,D8] at R;obtain rfl:j=i:=by lia
 rw[<-I,List.getElem?_concat_length] at m;cases m;exact⟨v,tk _ _ et,ow.tk tk⟩;refine AO λNz ah=>?_;obtain⟨dts,rfl,z,Q,I,hd⟩:=hv;refine ah ?_;clear ah;rw[show((((Fp (GR ns (mM ns)) (mM ns)).map V.int).length:Nat):Int).toNat=mM ns by lia] at I;have Du:Zg H4 dts (EN ns) (JB ns) (mG ns) (mM ns):=⟨I,hd⟩;have Z:=s3.trans z;have bZ:=s2.trans Z;have az:LN K (λ_=>True) H4 L y (mW ns M u []) (Gj ns (mM ns)) 1 J:=⟨⟨S2,T2,R2,bj,bk,bl,bm,bn,Z _ _ aB,aC.same Z⟩,aD.same Z⟩;have ai:=Z _ _ aA;refine Dz l λN l=>?_;refine p5 (p4 ⟨_,.ref L,Ar.of ai,rfl,p5 (p4 ⟨_,.ref y,Ar.of ai,rfl,L,y,λ_=>True,(mW ns M u []),Gj ns (mM ns),1,J,rfl,az,aa,λr5 A Tn n bV tu H5 C hA ca cb bw bx bI ru nx=>?_⟩)⟩);obtain⟨rfl,rfl⟩:=ao.due ru nx;obtain⟨aF,cc⟩:=ru.aok aa.toSOk;obtain⟨bz,aG,aH⟩:=bx;refine⟨_,Ar.of bw,rfl,?_⟩;dsimp only[Mn,HL,Hr,mC,mN];generalize hσ:List.set _ 9 _=σ;obtain rfl:σ=[some (V.ref a),some (V.ref nt),some (V.ref t),some (V.ref r2),some (V.ref ab),some (V.ref O),some (V.ref Pp),some (V.ref D),some (V.ref A),some (V.ref Tn),none]:=hσ.symm;clear hσ
 have aI:∀{j:Nat}{x:V},(dts.map V.ref)[j]?=some x->∃t v,x=.ref t/\H4 t=some (.tup [v,.int (mT ns j)])/\A9 GZ H4 v (B4 (mA ns j)):=λh=>by
  rw[AQ] at h;obtain⟨t,h1,h2⟩:=E4.mp h;obtain⟨v,q,G⟩:=Du.at_ _ t h1;exact⟨t,v,h2.symm,q,G⟩
 have aq:(dts.map V.ref).length=mM ns:=(by rw[Am,I]);refine Dz l λN l=>?_;refine⟨⟨_,Ae.of (C _ _ Q)⟩,Py (xs:=dts.map V.ref) (λE i c g=>Ac H5 g/\g E=some (.lst c)/\c.length=i/\∀(j:Nat)(v:V),c[j]?=some v->A9 GZ g v (B4 (mA ns j))) (λE r=>⟨A0 r,Aa,rfl,λj v h=>by cases h⟩) (λE i c H6 p=>Ae.of (p.1 _ _ (C _ _ Q))) (λE i x c H6 RR r hx p k=>?_) (λE1 c H6 cd p=>?_)⟩;obtain⟨S,X,T,hy⟩:=p;obtain⟨t,v,rfl,q,G⟩:=aI hx;have hi:=(AV.mp hx).1;rw[aq] at hi;have aJ:=C.trans S;have tk:Tk H6 (upd H6 E (.lst (c++[v]))):=Qj X;refine p5 (p4 ⟨_,v,Ar.of (aJ _ _ q),rfl,k _ _ X (by rw[T];exact Bz (by lia)) ⟨λb o e=>by rw[AC (A3 e r)];exact S _ _ e,Aa,by rw[A1,T];rfl,λj v' m=>?_⟩⟩);rcases t7 j c.length with ae|ae;rw[D7 ae] at m;exact(hy j v' m).tk tk;have R:=(AV.mp m).1;rw[A1,D8] at R;obtain rfl:j=i:=by lia
 rw[<-T,List.getElem?_concat_length] at m;cases m;exact(G.same aJ).tk tk;obtain⟨S,aK,T,hy⟩:=p;rw[aq] at T
 have aL:Ak K H6 c ((Jf ns).map B4):=Ak.of_get (by rw[T,Am,Am,p6]) λj v d h1 h2=>by
  have m:=(AV.mp h1).1;rw[AQ,AQ,p8 (by lia)] at h2;cases h2;exact(hy j v h1).dt
 refine⟨_,_,.lst ((Jf ns).map B4),.lst ((Jf ns).map B4),rfl,.lst (Ae.of (S _ _ aG)) (aH.same S).dts,.lst (Ae.of aK) aL,SD _,SD _,λb H7 s7 hb=>?_⟩;rw[hb.mpr rfl];refine⟨rfl,Bi ?_⟩;clear aL aK hy T;have ar:=S.trans s7;have au:=C.trans ar;clear S s7;refine⟨⟨_,Ae.of (au _ _ Q)⟩,Py (xs:=dts.map V.ref) (λE i c g=>Ac H7 g/\g E=some (.lst c)/\c=((List.range i).map λj=>mT ns j).map V.int) (λE r=>⟨A0 r,Aa,rfl⟩) (λE i c H8 p=>Ae.of (p.1 _ _ (au _ _ Q))) (λE i x c H8 RR r hx p k=>?_) (λE2 cf H8 cg p=>?_)⟩;obtain⟨Y,X,rfl⟩:=p;obtain⟨t,v,rfl,q,G⟩:=aI hx;have hi:=(AV.mp hx).1;rw[aq] at hi;refine p5 (p4 ⟨_,.int (mT ns i),Ar.of (Y _ _ (au _ _ q)),rfl,k _ _ X (by rw[Am,Am,p6];exact Bz (by lia)) ⟨λb o e=>by rw[AC (A3 e r)];exact Y _ _ e,Aa,?_⟩⟩);rw[List.range_succ,Ba,Ba];rfl;obtain⟨Y,a0,rfl⟩:=p;rw[aq] at a0;refine⟨_,_,.lst ((ZH ns).map Dt.int),.lst ((ZH ns).map Dt.int),rfl,.lst (Ae.of ((ar.trans Y) _ _ bI)) (Ip _),.lst (Ae.of a0) (Ip _),SE _,SE _,λb H9 s9 b0=>?_⟩;rw[b0.mpr rfl];refine⟨rfl,Bi ?_⟩;have a1:=(ar.trans Y).trans s9;have U:=C.trans a1;clear Y s9 a0 ar au;have aM:=a1 _ _ aG;have aX:=aH.same a1;refine Dz l λN l=>?_;refine⟨_,p4 ⟨_,Ae.of ((z.trans U) _ _ eL),rfl⟩,by lia,by lia,J9 (n:=((((Fp (GR ns (mM ns)) (mM ns)).map V.int).length:Nat):Int).toNat) (λE i c g=>Ac H9 g/\g E=some (.lst c)/\c=((List.range i).map λi=>if(dq (EN ns) (JB ns) (mG ns) (mM ns+1) i).isNone=true then some ((EN ns i:Nat):Int) else none).map oV) (λE r=>⟨A0 r,Aa,rfl⟩) (λE i c aN RR r hi p k=>?_) (λEd c aN ch p=>?_)⟩;obtain⟨W,X,rfl⟩:=p;have b1:i<mM ns:=(by lia);have aY:=U.trans W;have q:Bm ((Fp (GR ns (mM ns)) (mM ns)).map V.int) (0+(i:Int))=some (.int (EN ns i:Nat)):=by rw[Int.zero_add];exact R9 b1
 have a2:=AD (show i<dts.length by lia);generalize dts[i]'(by lia)=av at a2;obtain⟨v,et,ow⟩:=Du.at_ i av a2;have G:Bm (dts.map V.ref) (0+(i:Int))=some (.ref av):=by rw[Int.zero_add];exact A8 (by rw[AQ,a2];rfl)
 refine p4 ⟨_,.int (EN ns i:Nat),Ae.of ((z.trans aY) _ _ eL),q,BP,λTW b2=>?_⟩;obtain⟨a3,bJ,t1,aO⟩:=new_at (o:=.lst [.non,.int (EN ns i:Nat)]) b2;rw[<-bJ];have aZ:=aY.trans t1
 have aP:∀aw,aw=oV (if(dq (EN ns) (JB ns) (mG ns) (mM ns+1) i).isNone=true then some ((EN ns i:Nat):Int) else none)->RR aw a3:=λaw ey=>by
  refine k _ _ (t1 _ _ X) (by rw[Am,Am,p6];exact Bz (by lia)) ⟨λb o e=>by rw[AC (A3 e r)];exact t1 _ _ (W _ _ e),Aa,?_⟩;rw[List.range_succ,Ba,Ba,ey];rfl
 refine p4 ⟨_,.ref av,Ae.of (aZ _ _ Q),G,p5 (p4 ⟨_,v,Ar.of (aZ _ _ et),rfl,p5 ⟨_,rfl,?_⟩⟩)⟩;show DT K (.ref TW) (.int (if decide (v=V.non)=true then 1 else 0)) a3 RR;unfold HA at ow
 cases ez:dq (EN ns) (JB ns) (mG ns) (mM ns+1) i with
 |none=>rw[ez] at ow;cases ow;exact p4 ⟨_,_,Ae.of aO,A8 (j:=1) rfl,aP _ (by rw[ez];rfl)⟩
 |some bT=>rw[ez] at ow;cases ow;exact p4 ⟨_,_,Ae.of aO,A8 (j:=0) rfl,aP _ (by rw[ez];rfl)⟩
 obtain⟨W,aj,rfl⟩:=p;rw[show((((Fp (GR ns (mM ns)) (mM ns)).map V.int).length:Nat):Int).toNat=mM ns by lia] at aj;have aj:aN Ed=some (.lst ((Wr ns).map oV)):=aj;refine Em ?_;generalize hσ:List.set _ 10 _=σ;obtain rfl:σ=[some (V.ref a),some (V.ref nt),some (V.ref t),some (V.ref r2),some (V.ref ab),some (V.ref O),some (V.ref Pp),some (V.ref D),some (V.ref A),some (V.ref Tn),some (V.ref Ed)]:=hσ.symm;clear hσ;have Lk:=aa.all _ aF;have R:(Gj ns (mM ns)).length=(Jf ns).length:=aF.len.symm
 have aQ:∀(k:Nat)(af:Qu),(Gj ns (mM ns))[k]?=some af->(Jf ns)[k]?=some none->∀a w ls ts,LU (mW ns M u (Jf ns)) 1 J af.1 af.2.1 af.2.2 0 a w ls ts->a=none:=λk af hq e a w ls tl b3=>by
  have:=ru.still aa.toSOk nx hq (b:=a) ⟨w,ls,tl,b3⟩;rw[e] at this;cases this;rfl
 have lc:∀{g:Hp},Ac H9 g->LC K (λ_=>True) g L A y (mW ns M u (Jf ns)) (Gj ns (mM ns)) 1 J:=λs=>(az.same (U.trans s)).lc (Fn.ans ⟨bz,s _ _ aM,aX.same s⟩);have ba:=(U.trans W) _ _ ai;refine Dz l λN l=>?_;refine p5 (p4 ⟨_,.ref L,Ar.of ba,rfl,p5 (p4 ⟨_,.ref y,Ar.of ba,rfl,L,A,y,λ_=>True,(mW ns M u (Jf ns)),Gj ns (mM ns),1,J,rfl,lc W,Lk,R,by lia,aQ,λWs ws a3 cj a4 aR lw hw=>?_⟩)⟩);obtain rfl:=ao.wts ⟨lw,hw⟩;refine⟨_,_,.lst ((Wr ns).map Kq),.lst ((Wr ns).map Kq),rfl,.lst (Ae.of aR) (R7 _),.lst (Ae.of (a4 _ _ aj)) (R7 _),Mb _,Mb _,λb ck aS b4=>?_⟩;rw[b4.mpr rfl];refine⟨rfl,Bi ?_⟩;have a6:=(W.trans a4).trans aS;have bb:=U.trans a6;clear W a4 aS aR aj;have bc:=bb _ _ ai;refine Dz l λN l=>?_;refine p5 (p4 ⟨_,.ref L,Ar.of bc,rfl,p5 (p4 ⟨_,.ref y,Ar.of bc,rfl,L,A,y,λ_=>True,(mW ns M u (Jf ns)),Gj ns (mM ns),1,J,rfl,lc a6,Lk,R,by lia,aQ,λws lw hw=>Qp Lk R ⟨lw,hw⟩,λbU Rg ws cl hC a5 eC lw hw rg=>?_⟩)⟩);obtain rfl:=ao.wts ⟨lw,hw⟩;have ak:=bb.trans a5;refine⟨ab,D,dts,mM ns,EN ns,JB ns,mG ns,Rg,rfl,(z.trans ak) _ _ eL,by lia,ak _ _ Q,⟨Du.len,λi t h=>?_⟩,rg,λrr cm a7 b5=>?_⟩;obtain⟨v,q,G⟩:=Du.at_ i t h;exact⟨v,ak _ _ q,G.same ak⟩;refine⟨_,_,.lst (Rg.map Dt.int),.lst (Rg.map Dt.int),rfl,.lst (Ae.of (a7 _ _ eC)) (Ip _),.lst (Ae.of b5) (Ip _),SE _,SE _,λb cn aT b6=>?_⟩;rw[b6.mpr rfl];refine⟨rfl,Bi ?_⟩;have bd:=((a6.trans a5).trans a7).trans aT;have be:=U.trans bd;clear a5 a7 aT ak;have bf:=be _ _ ai;refine Sb l ?_;refine p5 (p4 ⟨_,.ref L,Ar.of bf,rfl,p5 (p4 ⟨_,.ref y,Ar.of bf,rfl,L,y,λ_=>True,(mW ns M u []),Gj ns (mM ns),1,J,rfl,az.same be,aa,λr4 A4 cp n4 cq cs ct b7 cu cx cy bK bL c0 b8 b9=>?_⟩)⟩);obtain⟨rfl,rfl⟩:=ao.due b8 b9;obtain⟨cv,bM,bO⟩:=bL;have a8:=bd.trans b7;refine p5 (p4 ⟨_,.ref A4,Ar.of bK,rfl,_,_,.lst ((Jf ns).map B4),.lst ((Jf ns).map B4),rfl,.lst (Ae.of bM) bO.dts,.lst (Ae.of (a8 _ _ aM)) (aX.same a8).dts,SD _,SD _,λb aU bA bB=>?_⟩);rw[bB.mpr rfl];refine⟨_,rfl,Ch ⟨BP,λax bC=>?_⟩⟩;have bD:=A0 (o:=.tup [.ref nt,.ref t]) bC;have bN:=((U.trans a8).trans bA).trans bD;have al:=Z.trans bN;have a9:=s2.trans al;have d1:Aq K (upd aU ax (.tup [.ref nt,.ref t])) (.ref ax) (.tup [Ij M (K6 ns (mM ns)) (Gj ns (mM ns)),PP [([(Bp ns 1,1)],u),([],[Bp ns 4])] 1 J]):=.tup (Ar.of Aa) (.cons ((N3.same a9).dt (a9 _ _ eN)) (.cons (TB.same a9).dt .nil));have d2:Aq K (upd aU ax (.tup [.ref nt,.ref t])) (.ref r2) (.tup [Ij M (K6 ns (mM ns)) (Gj ns (mM ns)),PP [([(Bp ns 1,1)],u),([],[Bp ns 4])] 1 J]):=.tup (Ar.of (al _ _ aA)) (.cons ((aC.same al).dt (al _ _ aB)) (.cons (aD.same al).dt .nil));refine⟨7,_,_,.tup (.cons (Kd _ _ _ _ _ _) (.cons (d8 _ _ _ _ _ _) (.nil _))),by decide,d2,d1,?_⟩;rw[Eu rfl];exact kq _
abbrev QU(P w K mg base):=BL P w K mg base "law" 12 ["_law_script"] (QS K)
def QV(B:BO mg)(g:Sj P w K mg base)(c:QC P w K mg base)(h:Sk P w K mg base)(i:Sv P w K mg base)(d:Sy P w K mg base)(e:QP P w K mg base)(j:Sz P w K mg base)(k:SA P w K mg base)(F:By K "law" "law" Hq f fd)(a:mg "law" = some (.ref f)):QU P w K mg base:=
 ⟨f,fd,Jg B g c h i d e j k F,a,F.kp,F.binds λ_ _ _ _ _ _ us b=>(by obtain⟨l,rfl⟩:=IT b;rfl)⟩
end
abbrev Fin (K:Aj) (mg:Str->L') (x:Str) (st:Stmt):Prop:=∃f fd,By K x x st f fd/\mg x=some (.ref f)
def B7{K:Aj}{h:Heap}{b:Str->L'}(X:K.In h)(G:h.Ns mainGlobals b){x:Str}{st:Stmt}(q:Fx K x st):Fin K b x st:=by obtain⟨f,d,e,g,m,kV,n,i,o,j,a,l,c,k⟩:=q;exact⟨f,_,H1 l c k,PySem.W.mg_of X G a⟩
def all_mk{l:PySem.W.OpenLaw}{w:World}{K:Aj}{h:Heap}{a:Str->L'}{g:Addr}(X:K.In h)(G:h.Ns mainGlobals a)(U:a "law" = some (.ref g))(q:Ll K)
 : ∃fd:FuncData,(∀(s:Shared)(v:Value),BindsTo s fd ⟨[v],[]⟩ [("_law_script",v)])/\∀b:Heap,K.In b->b.Ns mainGlobals a->ED l.prog w K a b Jn 12 g fd ["_law_script"] (QS K):=by
 obtain⟨bT,bU,bV,bp,bW,bq,br,bs,bt,bu,V,W,Y,Z⟩:=q.q45;have e:=U.symm.trans (PySem.W.mg_of X G V);cases e;have B:BO a:=⟨F2 X G q.z_all,F2 X G q.z_any,F2 X G q.z_bool,F2 X G q.z_dict,F2 X G q.z_enumerate,F2 X G q.z_int,F2 X G q.z_isinstance,F2 X G q.z_len,F2 X G q.z_list,F2 X G q.z_min,F2 X G q.z_range,F2 X G q.z_reversed,F2 X G q.z_set,F2 X G q.z_sorted,F2 X G q.z_str,F2 X G q.z_tuple,F2 X G q.z_zip,q.y_MOST_BEGINNINGS.imp λ_ y=>PySem.W.mg_of X G y⟩;obtain⟨_,_,u,x⟩:=B7 X G q.q0;obtain⟨_,_,z,A⟩:=B7 X G q.q1;obtain⟨_,_,C,D⟩:=B7 X G q.q2;obtain⟨_,_,E,F⟩:=B7 X G q.q3;obtain⟨_,_,H,I⟩:=B7 X G q.q4;obtain⟨_,_,J,L⟩:=B7 X G q.q5;obtain⟨_,_,M,N⟩:=B7 X G q.q6;obtain⟨_,_,O,P⟩:=B7 X G q.q7;obtain⟨_,_,Q,R⟩:=B7 X G q.q8;obtain⟨_,_,S,T⟩:=B7 X G q.q9;obtain⟨_,_,aa,ab⟩:=B7 X G q.q10;obtain⟨_,_,ae,af⟩:=B7 X G q.q11;obtain⟨_,_,ag,ah⟩:=B7 X G q.q12;obtain⟨_,_,ai,aj⟩:=B7 X G q.q13;obtain⟨_,_,ak,al⟩:=B7 X G q.q14;obtain⟨_,_,an,ao⟩:=B7 X G q.q15;obtain⟨_,_,aq,ar⟩:=B7 X G q.q16;obtain⟨_,_,au,av⟩:=B7 X G q.q17;obtain⟨_,_,aw,ax⟩:=B7 X G q.q18;obtain⟨_,_,ay,az⟩:=B7 X G q.q19;obtain⟨_,_,a0,a1⟩:=B7 X G q.q20;obtain⟨_,_,a2,a3⟩:=B7 X G q.q21;obtain⟨_,_,a4,a5⟩:=B7 X G q.q22;obtain⟨_,_,a6,a7⟩:=B7 X G q.q23;obtain⟨_,_,a8,a9⟩:=B7 X G q.q24;obtain⟨_,_,aA,aB⟩:=B7 X G q.q25;obtain⟨_,_,aC,aD⟩:=B7 X G q.q26;obtain⟨_,_,aE,aF⟩:=B7 X G q.q27;obtain⟨_,_,aG,aH⟩:=B7 X G q.q28;obtain⟨_,_,aI,aJ⟩:=B7 X G q.q29;obtain⟨_,_,aK,aL⟩:=B7 X G q.q30;obtain⟨_,_,aM,aN⟩:=B7 X G q.q31;obtain⟨_,_,aO,aP⟩:=B7 X G q.q32;obtain⟨_,_,aQ,aR⟩:=B7 X G q.q33;obtain⟨_,_,aS,aT⟩:=B7 X G q.q34;obtain⟨_,_,aU,aV⟩:=B7 X G q.q35;obtain⟨_,_,aW,aX⟩:=B7 X G q.q36;obtain⟨_,_,aY,aZ⟩:=B7 X G q.q37;obtain⟨_,_,ba,bb⟩:=B7 X G q.q38;obtain⟨_,_,bc,bd⟩:=B7 X G q.q39;obtain⟨_,_,be,bf⟩:=B7 X G q.q40;obtain⟨_,_,bg,bh⟩:=B7 X G q.q41;obtain⟨_,_,bi,bj⟩:=B7 X G q.q42;obtain⟨_,_,bk,bl⟩:=B7 X G q.q43;obtain⟨_,_,bm,bn⟩:=B7 X G q.q44;have bo:=H1 (st:=Hq) W Y Z;refine⟨PySem.W.fnOf "law" "law" (Lj Hq) (Ji Hq) (AY Hq) .none bq br bs bp bt bu,λs v=>.of_eq rfl,λb _ _=>?_⟩;have bv:VO l.prog w K a b:=jH B u x;have c:QA l.prog w K a b:=jL B z A;have bw:VP l.prog w K a b:=jN B c C D;have i:QC l.prog w K a b:=jP B bw c E F;have bx:Sj l.prog w K a b:=jT B bv c i H I;have bz:VT l.prog w K a b:=jV B J L;have b0:Sk l.prog w K a b:=jX B bz M N;have j:Sl l.prog w K a b:=jZ B O P;have b1:VX l.prog w K a b:=j1 B Q R;have k:Sm l.prog w K a b:=j3 B b1 S T;have b2:VY l.prog w K a b:=j6 B k aa ab;have m:So l.prog w K a b:=kC B j b2 ae af;have b3:VZ l.prog w K a b:=kI B m ag ah;have b4:V0 l.prog w K a b:=kK B b3 ai aj;have b5:V2 l.prog w K a b:=kN B ak al;have b6:V4 l.prog w K a b:=kS B b5 an ao;have n:Sq l.prog w K a b:=kU B aq ar;have o:Sr l.prog w K a b:=kX B au av;have b7:V8 l.prog w K a b:=kZ B aw ax;have p:Ss l.prog w K a b:=lC B b7 ay az;have b8:V9 l.prog w K a b:=lE B n o p a0 a1;have b9:Wa l.prog w K a b:=lG B b6 b8 a2 a3;have bA:Wb l.prog w K a b:=lI B n o p a4 a5;have d:QK l.prog w K a b:=lK B a6 a7;have bB:Wc l.prog w K a b:=lM B d a8 a9;have bC:We l.prog w K a b:=lP B d aA aB;have bD:Jd l.prog w K a b:=lQ B bA bB bC aC aD;have bE:Wf l.prog w K a b:=lS B m aE aF;have f:QM l.prog w K a b:=lU B b4 b9 bD bE k aG aH;have r:Su l.prog w K a b:=lW B aI aJ;have bF:Wg l.prog w K a b:=lY B r aK aL;have bG:Wh l.prog w K a b:=mF B j bF aM aN;have bH:Wi l.prog w K a b:=mK B d aO aP;have bI:Wj l.prog w K a b:=mP B bG bH r aQ aR;have bJ:Wk l.prog w K a b:=mS B f bI aS aT;have bK:Wl l.prog w K a b:=mU B aU aV;have bL:Wm l.prog w K a b:=mZ B f aW aX;have bM:Wn l.prog w K a b:=m6 B bJ bK bL aY aZ;have bN:Sv l.prog w K a b:=m8 B bM ba bb;have bO:Sy l.prog w K a b:=nF B bc bd;have bP:Wo l.prog w K a b:=nH B f be bf;have bQ:Wp l.prog w K a b:=nJ B bP bg bh;have t:QP l.prog w K a b:=nL B bQ bi bj;have bR:Sz l.prog w K a b:=nO B t bk bl;have bS:SA l.prog w K a b:=nR B bm bn;exact Jg B bx i b0 bN bO t bR bS bo
def walk{l:PySem.W.OpenLaw}{q:Program}{loose:J'}{XP:(Str->L')->Heap->Prop}{YP:World->Heap->Prop}{d:DefRec}{K:Params->Aj}(g:l.most=some 63)(p:d.params.defaults=[])
 (i:∀(w:World)(h:Heap),YP w h->(K w.params).In h)
 (F:∀(w:World)(b:Str->L')(e:Addr)(h:Heap),(K w.params).In h->h.Ns mainGlobals b->b d.name=some (.ref e) ->
  ∃fd:FuncData,(∀(s:Shared)(u:Value),BindsTo s fd ⟨[u],[]⟩ [("_law_script",u)])/\∀c:Heap,(K w.params).In c->c.Ns mainGlobals b->ED l.prog w (K w.params) b c Jn 12 e fd ["_law_script"] (QS (K w.params))) :
 PySem.W.WalkO q loose XP YP l.row.toRowW d [] (λf vs=>PySem.call f vs):=
 L2.JZ (n:=63) (k:=12) (x:= "_law_script") (CX:=λ_=>Jn) (sp:=λw=>QS (K w.params)) g (by decide) p ⟨rfl,by decide,by decide⟩ i F (λ_ _ a j m _ o=>⟨a,j,rfl,o,m,λ_=>rfl⟩) λ_ _ _ _ _ z=>z
end K41
open PySem PySem.W PyProof.Rows in
theorem PySem.Challenge.cw_namepaths_k41_brought_in_by_turns_holds : PySem.Challenge.rw_namepaths_k41_brought_in_by_turns.Holds :=
 K41.hd λK q YP d h1 h2 hY=>K41.walk (l:=PySem.Challenge.rw_namepaths_k41_brought_in_by_turns) rfl h1 hY λw mg fa h X G hm=>K41.all_mk X G (h2▸hm) (q w)
