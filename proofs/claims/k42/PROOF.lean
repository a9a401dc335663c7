import PyProof.Rows.All
import Wide.All
import OpenK.AllK
import Wide.FinOn
import Lean
import PyProof.EqAt
import PyProof.EqKinds
import PyProof.TupleCall
import PySem.Challenge.RW_namepaths_k42_found_in_their_turns
set_option Elab.async false
set_option linter.all false
set_option maxRecDepth 100000
set_option maxHeartbeats 1000000
abbrev Ah:=PySem.W.Frag
def An:=@List.length_map
def AC:=@List.getElem?_eq_getElem
def AY:=@List.length_append
def Br:=@List.map_append
def A8:=@List.getElem?_eq_some_iff
def BI:=@List.mem_append
def Bh:=@List.getElem?_map
def Bl:=@List.mem_of_getElem?
def A3:=@List.mem_map
def AZ:=@List.mem_singleton
def Ck:=@List.size_toArray
def BB:=@List.mem_cons_self
def Cj:=@List.mem_cons
def Dj:=@List.mem_append_right
def D9:=@List.map_cons
def Co:=@List.mem_cons_of_mem
def B0:=@List.getD_eq_getElem?_getD
def DV:=@List.take_succ
def Ej:=@List.take_length
def EJ:=@List.getElem?_append_left
def DJ:=@List.length_singleton
def Ep:=@List.getElem_mem
def FN:=@List.length_take
def DK:=@List.map_map
def EW:=@List.getElem?_append_right
def Er:=@List.take_zero
def Ek:=@List.mem_append_left
def El:=@List.length_cons
def Gw:=@List.nodup_cons
def F4:=@List.length_set
def F5:=@List.append_assoc
def Ks:=@List.length_drop
def Pj:=@List.mem_iff_getElem
def FH:=@List.append_nil
def MZ:=@List.lookup_cons
def Fh:=@List.getElem?_eq_none
def M0:=@List.mem_filter
def M1:=@List.drop_eq_getElem_cons
def M3:=@List.filter_cons
def Gx:=@List.length_nil
def NG:=@List.map_nil
def IB:=@List.prefix_append
def Gh:=@List.any_eq_true
def M4:=@List.find?_cons
def NH:=@List.filter_append
def Kt:=@List.foldl_append
def Pk:=@List.length_filter_le
def EX:=@Option.map_eq_some_iff
def AD:=@Nat.le_refl
def Gi:=@Nat.lt_irrefl
def Dm:=@Nat.le_of_lt
def CU:=@Nat.ne_of_lt
def Q7:=@Nat.lt_succ_self
def Cm:=@Nat.zero_le
def Fi:=@Int.emod_lt_of_pos
def Fj:=@Int.emod_nonneg
def DL:=@Int.eq_ofNat_of_zero_le
def Bo:=@Int.toNat_natCast
def A7:=@decide_eq_true
def Do:=@decide_eq_false
def Bi:=@of_decide_eq_true
def Dp:=@PySem.F.plainAttrs_list
def EE:=@PySem.F.slot_list_append
def EF:=@PySem.F.type_list_append
def Cz:=@Bool.false_ne_true
def AO:=@Option.some.inj
def Ak:=@if_neg
def Al:=@if_pos
def FO:=@Nat.lt_of_lt_of_le
def Em:=@Nat.le_trans
def Fk:=@Bool.false_eq_true
def Q8:=@List.filterMap_cons
def BJ:=@congrArg
open PySem PySem.Spec PyProof.Rows in
def Ad:=@wpAny_bind
open PySem PySem.Spec PyProof.Rows in
def Aw:=@wpAny_pure
open PySem PySem.Spec PyProof.Rows in
def Fl:=@wpAny_holding
open PySem PySem.Spec PyProof.Rows in
def FI:=@wpAny_truthy_bool
open PySem PySem.Spec PyProof.Rows in
def Be:=@Heap.get?_push_of_some
open PySem PySem.Spec PyProof.Rows in
def A5:=@Heap.lt_size
open PySem PySem.Spec PyProof.Rows in
def B9:=@Heap.get?_push_size
open PySem PySem.Spec PyProof.Rows in
def CB:=@PassesOwn.never
open PySem PySem.Spec PyProof.Rows in
def F6:=@PySem.W.mg_none_of
open PySem PySem.Spec PyProof.Rows in
def Gj:=@PySem.mem_of_lookup
open PySem PySem.Spec PyProof.Rows in
def M5:=@wpAny_typeOf
open PySem PySem.Spec PyProof.Rows in
def FP:=@wpAny_mono
open PySem PySem.Spec PyProof.Rows in
def Gk:=@wpAny_seqItems
open PySem PySem.Spec PyProof.Rows in
def Hi:=@wpAny_rule
noncomputable section
noncomputable def PySem.W.Fast.tw8059271570626986523:PySem.Program:=PySem.Challenge.pw_namepaths_k42_found_in_their_turns
theorem PySem.W.Fast.te8059271570626986523:PySem.Challenge.pw_namepaths_k42_found_in_their_turns=PySem.W.Fast.tw8059271570626986523:=rfl
namespace L2
open PySem PySem.Spec PyProof.Rows
noncomputable def Ku (s:Stmt):Arguments:=match s with
 |.FunctionDef _ a _ _ _ _ _ _ _ _=>a
 |_=>{posonlyargs:=[],args:=[],vararg:=none,kwonlyargs:=[],kw_defaults:=[],kwarg:=none,defaults:=[]}
noncomputable def IC (s:Stmt):List Stmt:=match s with
 |.FunctionDef _ _ b _ _ _ _ _ _ _=>b
 |_=>[]
noncomputable def A6 (s:Stmt):Scope:=match s with
 |.FunctionDef _ _ _ _ _ _ sc _ _ _=>sc
 |_=>{kind:=.function,names:=[],isGenerator:=false,isCoroutine:=false}
section
open PySem.W PySem.W.Fast
noncomputable def GQ (p:Program) (w:World) (N:Nat):Option Shared:=((tw10274390034422433532 tw14364793385576792824 (opening p) w N (PySem.start (opening p)).1 (PySem.start (opening p)).2).bind (tw14289696077712309145 p)).bind λs₀ =>
 match s₀.heap.isNs mainGlobals && s₀.gens.size==0 with
 |true=>(tw14082659384304107361 tw14364793385576792824 p w s₀.heap.objs.size (s₀.heap.nsMap mainGlobals "__annotations__") N s₀ (topStub p)).bind λs₁=>match staticsOk (tw5923862056798008813 p.main.body) s₀.heap s₁.heap && namesBound p s₁.heap && gensDone s₁ && laidKept s₀.heap s₁.heap with
   |true=>some s₁
   |false=>none
 |false=>none
def IU{p q:Program}{loose:List Str}{Xt:Shared->Bool}{α:Type}{Yf:Shared->α}{Ya:World->α}{N:Nat}
 (A:∀w:World,Option.map (λs=>tw4187177175401517315 q loose (tw5923862056798008813 p.main.body) Xt true s) (GQ p w N)=some (openGood q loose))
 (B:∀w:World,Option.map Yf (GQ p w N)=some (Ya w)):LeftO p q loose Xt Yf Ya N:=by
 intro w;have a:=A w;have b:=B w
 have h:Option.map (λs=>(tw4187177175401517315 q loose (tw5923862056798008813 p.main.body) Xt true s,Yf s)) (GQ p w N)=some (openGood q loose,Ya w):=by
  cases e:GQ p w N with
  |none=>rw[e] at a;cases a
  |some s =>
    rw[e] at a b;simp only[Option.map_some] at a b ⊢;rw[AO a,AO b]
 unfold GQ at h;rw[<-te14082659384304107361,<-te10274390034422433532,<-te14364793385576792824,<-te4187177175401517315,<-te5923862056798008813,<-te14289696077712309145] at h;exact h
end
end L2
namespace K42
open PySem PySem.Spec PyProof.Rows PySem.W L2
noncomputable def top (i:Nat):Stmt:=PySem.Challenge.pw_namepaths_k42_found_in_their_turns.main.body.getD i (.Pass ⟨0,0,0,0⟩)
abbrev Q9:Stmt:=top 48
abbrev Ra:Stmt:=top 47
abbrev Rb:Stmt:=top 49
abbrev Rc:Stmt:=top 50
abbrev Re:Stmt:=top 51
abbrev Rf:Stmt:=top 52
abbrev Rg:Stmt:=top 53
abbrev Rh:Stmt:=top 54
abbrev Ri:Stmt:=top 55
abbrev Pl:Stmt:=top 56
abbrev NI:Stmt:=top 57
abbrev Rj:Stmt:=top 11
abbrev Rk:Stmt:=top 3
abbrev Rl:Stmt:=top 1
abbrev Rm:Stmt:=top 2
abbrev Rn:Stmt:=top 19
abbrev Po:Stmt:=top 18
abbrev Ro:Stmt:=top 15
abbrev Rp:Stmt:=top 12
abbrev Rq:Stmt:=top 16
abbrev Pp:Stmt:=top 22
abbrev Rr:Stmt:=top 23
abbrev Rs:Stmt:=top 8
abbrev Rt:Stmt:=top 24
abbrev Pq:Stmt:=top 21
abbrev Ru:Stmt:=top 27
abbrev Rv:Stmt:=top 29
abbrev Rw:Stmt:=top 9
abbrev Rx:Stmt:=top 30
abbrev Ry:Stmt:=top 31
abbrev M6:Stmt:=top 28
abbrev Rz:Stmt:=top 17
abbrev RA:Stmt:=top 26
abbrev RB:Stmt:=top 37
abbrev RC:Stmt:=top 36
abbrev RD:Stmt:=top 34
abbrev RE:Stmt:=top 35
abbrev RF:Stmt:=top 33
abbrev RG:Stmt:=top 41
abbrev Pr:Stmt:=top 42
abbrev RH:Stmt:=top 43
abbrev M7:Stmt:=top 40
abbrev RI:Stmt:=top 39
abbrev RJ:Stmt:=top 59
abbrev NJ:Stmt:=top 58
abbrev RK:Stmt:=top 45
abbrev Ps:Stmt:=top 60
abbrev Kv:Stmt:=top 61
noncomputable def own:Stmt->Bool
 |.Assign [.Name x _] _ _=>x != "__name__"
 |_=>true
noncomputable def view:Program:={PySem.Challenge.pw_namepaths_k42_found_in_their_turns with main:={PySem.Challenge.pw_namepaths_k42_found_in_their_turns.main with body:=PySem.Challenge.pw_namepaths_k42_found_in_their_turns.main.body.filter own}}
noncomputable abbrev Fx (K:Frag) (x:Str) (st:Stmt):Prop:=∃(f:Addr)(oc:Value)(od an:Option Addr)(osl:Array (Option Value))(kV doc pm cdv ct:Value),nsIn K mainGlobals x=some (some (.ref f))/\K.lookup f=some ⟨oc,od,.func (fnOf x x (Ku st) (IC st) (A6 st) .none kV doc pm an cdv ct),osl⟩/\codeIn K cdv x=true/\keepIn K (.ref f)=true
def Au{K:Frag}{x:Str}{st:Stmt}{f:Addr}{d:Value}{e g:Option Addr}{i:Array (Option Value)}{kV j h b ct:Value}(a:nsIn K mainGlobals x=some (some (.ref f)))(l:K.lookup f=some ⟨d,e,.func (fnOf x x (Ku st) (IC st) (A6 st) .none kV j h g b ct),i⟩)(c:codeIn K b x=true)(k:keepIn K (.ref f)=true):Fx K x st:=⟨f,d,e,g,i,kV,j,h,b,ct,a,l,c,k⟩
def RL{K:Frag}{x:Str}{v:Int}{t:Tok}(h:nsIn K mainGlobals x=some (some (.int v t))):∃t,nsIn K mainGlobals x=some (some (.int v t)):=⟨t,h⟩
structure Kw (K:Frag):Prop where
 q0:Fx K "_law_names" Q9
 q1:Fx K "_law_cell_at" Ra
 q2:Fx K "_law_ranks" Rb
 q3:Fx K "_law_order" Rc
 q4:Fx K "_law_table" Re
 q5:Fx K "_law_question" Rf
 q6:Fx K "_law_thing" Rg
 q7:Fx K "_law_step" Rh
 q8:Fx K "_law_telling" Ri
 q9:Fx K "_law_scopes" Pl
 q10:Fx K "_law_made" NI
 q11:Fx K "next_state" Rj
 q12:Fx K "inside_of_sort" Rk
 q13:Fx K "inside" Rl
 q14:Fx K "goal" Rm
 q15:Fx K "steps_gone" Rn
 q16:Fx K "longer_by_a_step" Po
 q17:Fx K "beginnings" Ro
 q18:Fx K "has_end" Rp
 q19:Fx K "found_behind" Rq
 q20:Fx K "better_pairs" Pp
 q21:Fx K "tree_of" Rr
 q22:Fx K "label_at" Rs
 q23:Fx K "first_hider" Rt
 q24:Fx K "seen_ways" Pq
 q25:Fx K "look_for" Ru
 q26:Fx K "first_owed" Rv
 q27:Fx K "telling_at" Rw
 q28:Fx K "first_open" Rx
 q29:Fx K "meaning" Ry
 q30:Fx K "met" M6
 q31:Fx K "owed_behind" Rz
 q32:Fx K "look_up" RA
 q33:Fx K "of_sort" RB
 q34:Fx K "of_answer" RC
 q35:Fx K "of_steps" RD
 q36:Fx K "of_tellings" RE
 q37:Fx K "questions_of" RF
 q38:Fx K "found_in_turn" RG
 q39:Fx K "uses_one" Pr
 q40:Fx K "refuse_tangled" RH
 q41:Fx K "settled" M7
 q42:Fx K "still" RI
 q43:Fx K "_law_shaped" RJ
 q44:Fx K "_law_same" NJ
 q45:Fx K "find" RK
 q46:Fx K "_law_masked" Ps
 q47:Fx K "law" Kv
 z_all:nsIn K mainGlobals "all" = some none
 z_any:nsIn K mainGlobals "any" = some none
 z_bool:nsIn K mainGlobals "bool" = some none
 z_dict:nsIn K mainGlobals "dict" = some none
 z_enumerate:nsIn K mainGlobals "enumerate" = some none
 z_int:nsIn K mainGlobals "int" = some none
 z_isinstance:nsIn K mainGlobals "isinstance" = some none
 z_len:nsIn K mainGlobals "len" = some none
 z_list:nsIn K mainGlobals "list" = some none
 z_min:nsIn K mainGlobals "min" = some none
 z_range:nsIn K mainGlobals "range" = some none
 z_set:nsIn K mainGlobals "set" = some none
 z_sorted:nsIn K mainGlobals "sorted" = some none
 z_str:nsIn K mainGlobals "str" = some none
 z_tuple:nsIn K mainGlobals "tuple" = some none
 z_zip:nsIn K mainGlobals "zip" = some none
 y_MOST_BEGINNINGS:∃t,nsIn K mainGlobals "MOST_BEGINNINGS" = some (some (.int 200 t))
theorem Hj(w:World):Option.map (λs=>Fast.tw4187177175401517315 view [] (Fast.tw5923862056798008813 PySem.Challenge.pw_namepaths_k42_found_in_their_turns.main.body) (λs=>xlAt view [] s && recOk [] s) true s) (GQ PySem.Challenge.pw_namepaths_k42_found_in_their_turns w 40000)=some (openGood view []):=by kernel_rfl
end K42
abbrev A' := List (PySem.Str × PySem.Str)
abbrev B' := List (PySem.Addr × PySem.Obj)
abbrev C' := Option (PySem.Str × Int)
abbrev D' := PySem.Value → PySem.Shared → Prop
local macro_rules | `(tactic| lia) => `(tactic| omega)
local macro_rules | `(tactic| cbv) => `(tactic| try dsimp only)
set_option tactic.hygienic false
section
open PySem PySem.W PyProof.Rows
local macro_rules | `(tactic| o_head $H:term) => `(tactic| refine holds_open (q := K42.view) (loose := []) (Xt := fun s => xlAt K42.view [] s && recOk [] s) (XP := XL K42.view []) (Yf := Hook.obs $H) (Ya := Hook.val $H) (YP := Hook.says $H) (N := 40000) ?hl (Hook.of $H) (Hook.keeps $H) (fun s e => xl_of s (Bool.and_eq_true_iff.mp e).1) XL.keeps (by rfl) (by rfl) (by rfl) (fun s e => recFacts_of (Bool.and_eq_true_iff.mp e).2) (by rfl) (by first | assumption | decide +kernel) (by decide +kernel) ⟨rfl, rfl, rfl, rfl, rfl, by decide +kernel⟩ ?hw ?hc)
set_option maxHeartbeats 0 in
theorem K42.hd(a:∀K:Params->Frag,(∀w:World,K42.Kw (K w.params))->∀(YP:World->Heap->Prop)(d:DefRec),d.params.defaults=[]->d.name = "law" -> (∀(w:World)(h:Heap),YP w h->(K w.params).In h)->WalkO K42.view [] (XL K42.view []) YP PySem.Challenge.rw_namepaths_k42_found_in_their_turns.row.toRowW d [] (λf vs=>PySem.call f vs)):PySem.Challenge.rw_namepaths_k42_found_in_their_turns.Holds:=by
 w_on;o_law;k_head
 case hl =>
  refine L2.IU K42.Hj λw=>?_
  kernel_rfl
 case hw=>w_witness2
 k_fill
 refine a _ (λw=>?fx) _ _ rfl rfl (λw h Y=>PySem.W.kIn_of Y)
 case fx =>
  refine' ⟨K42.Au ?a0 ?l0 ?c0 ?k0,K42.Au ?a1 ?l1 ?c1 ?k1,K42.Au ?a2 ?l2 ?c2 ?k2,K42.Au ?a3 ?l3 ?c3 ?k3,K42.Au ?a4 ?l4 ?c4 ?k4,K42.Au ?a5 ?l5 ?c5 ?k5,K42.Au ?a6 ?l6 ?c6 ?k6,K42.Au ?a7 ?l7 ?c7 ?k7,K42.Au ?a8 ?l8 ?c8 ?k8,K42.Au ?a9 ?l9 ?c9 ?k9,K42.Au ?a10 ?l10 ?c10 ?k10,K42.Au ?a11 ?l11 ?c11 ?k11,K42.Au ?a12 ?l12 ?c12 ?k12,K42.Au ?a13 ?l13 ?c13 ?k13,K42.Au ?a14 ?l14 ?c14 ?k14,K42.Au ?a15 ?l15 ?c15 ?k15,K42.Au ?a16 ?l16 ?c16 ?k16,K42.Au ?a17 ?l17 ?c17 ?k17,K42.Au ?a18 ?l18 ?c18 ?k18,K42.Au ?a19 ?l19 ?c19 ?k19,K42.Au ?a20 ?l20 ?c20 ?k20,K42.Au ?a21 ?l21 ?c21 ?k21,K42.Au ?a22 ?l22 ?c22 ?k22,K42.Au ?a23 ?l23 ?c23 ?k23,K42.Au ?a24 ?l24 ?c24 ?k24,K42.Au ?a25 ?l25 ?c25 ?k25,K42.Au ?a26 ?l26 ?c26 ?k26,K42.Au ?a27 ?l27 ?c27 ?k27,K42.Au ?a28 ?l28 ?c28 ?k28,K42.Au ?a29 ?l29 ?c29 ?k29,K42.Au ?a30 ?l30 ?c30 ?k30,K42.Au ?a31 ?l31 ?c31 ?k31,K42.Au ?a32 ?l32 ?c32 ?k32,K42.Au ?a33 ?l33 ?c33 ?k33,K42.Au ?a34 ?l34 ?c34 ?k34,K42.Au ?a35 ?l35 ?c35 ?k35,K42.Au ?a36 ?l36 ?c36 ?k36,K42.Au ?a37 ?l37 ?c37 ?k37,K42.Au ?a38 ?l38 ?c38 ?k38,K42.Au ?a39 ?l39 ?c39 ?k39,K42.Au ?a40 ?l40 ?c40 ?k40,K42.Au ?a41 ?l41 ?c41 ?k41,K42.Au ?a42 ?l42 ?c42 ?k42,K42.Au ?a43 ?l43 ?c43 ?k43,K42.Au ?a44 ?l44 ?c44 ?k44,K42.Au ?a45 ?l45 ?c45 ?k45,K42.Au ?a46 ?l46 ?c46 ?k46,K42.Au ?a47 ?l47 ?c47 ?k47,?z_all,?z_any,?z_bool,?z_dict,?z_enumerate,?z_int,?z_isinstance,?z_len,?z_list,?z_min,?z_range,?z_set,?z_sorted,?z_str,?z_tuple,?z_zip,K42.RL ?y_MOST_BEGINNINGS⟩
  case a0|l0|c0|k0|a1|l1|c1|k1|a2|l2|c2|k2|a3|l3|c3|k3|a4|l4|c4|k4|a5|l5|c5|k5|a6|l6|c6|k6|a7|l7|c7|k7|a8|l8|c8|k8|a9|l9|c9|k9|a10|l10|c10|k10|a11|l11|c11|k11|a12|l12|c12|k12|a13|l13|c13|k13|a14|l14|c14|k14|a15|l15|c15|k15|a16|l16|c16|k16|a17|l17|c17|k17|a18|l18|c18|k18|a19|l19|c19|k19|a20|l20|c20|k20|a21|l21|c21|k21|a22|l22|c22|k22|a23|l23|c23|k23|a24|l24|c24|k24|a25|l25|c25|k25|a26|l26|c26|k26|a27|l27|c27|k27|a28|l28|c28|k28|a29|l29|c29|k29|a30|l30|c30|k30|a31|l31|c31|k31|a32|l32|c32|k32|a33|l33|c33|k33|a34|l34|c34|k34|a35|l35|c35|k35|a36|l36|c36|k36|a37|l37|c37|k37|a38|l38|c38|k38|a39|l39|c39|k39|a40|l40|c40|k40|a41|l41|c41|k41|a42|l42|c42|k42|a43|l43|c43|k43|a44|l44|c44|k44|a45|l45|c45|k45|a46|l46|c46|k46|a47|l47|c47|k47|z_all|z_any|z_bool|z_dict|z_enumerate|z_int|z_isinstance|z_len|z_list|z_min|z_range|z_set|z_sorted|z_str|z_tuple|z_zip|y_MOST_BEGINNINGS=>k_is
end
set_option Elab.async false
set_option linter.all false
set_option maxRecDepth 100000
namespace L2
open PySem PySem.Spec PyProof.Rows
abbrev AN:=Sum Int Str
def M8:AN->Value->Bool
 |.inl k,v=>Value.isInt k v
 |.inr x,v=>Value.isStrOf x v
def RM (w:World):AN->Int
 |.inl k=>hashInt k
 |.inr x=>hashStr w x
theorem IV:∀{k:AN}{v:Value},M8 k v=true->(∃i t,k=Sum.inl i/\v=Value.int i t)\/(∃x t,k=Sum.inr x/\v=Value.str x t)
 |.inl i,v,h=>by
   obtain⟨t,e⟩:=Value.isInt_shape (k:=i) (v:=v) h;exact .inl ⟨i,t,rfl,e⟩
 |.inr x,v,h=>by
   obtain⟨t,e⟩:=Value.isStrOf_shape (x:=x) (v:=v) h;exact .inr ⟨x,t,rfl,e⟩
def X1(i:Int)(t:Tok):M8 (.inl i) (.int i t)=true:=by simp[M8,Value.isInt]
def X2(x:Str)(t:Tok):M8 (.inr x) (.str x t)=true:=by simp[M8,Value.isStrOf]
def Lc(a b:Int):decide ((Sum.inl a:AN)=Sum.inl b)=(a==b):=by
 by_cases e:a=b;subst e;simp;have h:¬(Sum.inl a:AN)=Sum.inl b:=λq=>e (Sum.inl.inj q);rw[Do h];exact(beq_eq_false_iff_ne.mpr e).symm
def Ld(a b:Str):decide ((Sum.inr a:AN)=Sum.inr b)=decide (a=b):=by
 by_cases e:a=b;subst e;simp;have h:¬(Sum.inr a:AN)=Sum.inr b:=λq=>e (Sum.inr.inj q);rw[Do h,Do e]
def Le(a:Int)(b:Str):decide ((Sum.inl a:AN)=Sum.inr b)=false:=Do (λq=>nomatch q)
def Lf(a:Str)(b:Int):decide ((Sum.inr a:AN)=Sum.inl b)=false:=Do (λq=>nomatch q)
def EK (prog:Program) (w:World):PySem.KeyKind prog w AN where
 is:=M8
 hash:=RM w
 inj:=λv a b ha hb=>by
  rcases IV ha with⟨i,t,rfl,rfl⟩|⟨x,t,rfl,rfl⟩;rcases IV hb with⟨j,u,rfl,e⟩|⟨y,u,rfl,e⟩;injection e with e1 _;rw[e1];exact nomatch e;rcases IV hb with⟨j,u,rfl,e⟩|⟨y,u,rfl,e⟩;exact nomatch e;injection e with e1 _;rw[e1]
 byValue:=λk v h=>by
  rcases IV h with⟨i,t,rfl,rfl⟩|⟨x,t,rfl,rfl⟩<;>rfl
 pyHash:=λhv h=>by
  rcases IV hv with⟨i,t,rfl,rfl⟩|⟨x,t,rfl,rfl⟩;exact wpAny_pyHash_int h;exact wpAny_pyHash_str h
 eqBool:=λhu hv h=>by
  rcases IV hu with⟨i,t,rfl,rfl⟩|⟨x,t,rfl,rfl⟩;rcases IV hv with⟨j,u,rfl,rfl⟩|⟨y,u,rfl,rfl⟩;rw[Lc] at h;exact wpAny_eqBool_int h;rw[Le] at h;exact SeqAt.EqAt.int_str i t y u _ _ _ _ h;rcases IV hv with⟨j,u,rfl,rfl⟩|⟨y,u,rfl,rfl⟩;rw[Lf] at h;exact SeqAt.EqAt.str_int x t j u _ _ _ _ h;rw[Ld] at h;exact wpAny_eqBool_str h
 «strs»:=λk x t v h=>by
  rcases IV h with⟨i,u,rfl,e⟩|⟨y,u,rfl,e⟩;exact nomatch e;injection e with e1 _;subst e1;cases v<;>rfl
def X3(prog:Program)(w:World)(i:Int)(t:Tok):(EK prog w).is (.inl i) (.int i t)=true:=X1 i t
def X4(prog:Program)(w:World)(x:Str)(t:Tok):(EK prog w).is (.inr x) (.str x t)=true:=X2 x t
inductive V where
 |non|bl (b:Bool)|int (i:Int)|str (x:Str)|byt (b:Array UInt8)|flt (b:UInt64)|ref (a:Addr)|ty (n:String)
 deriving DecidableEq
def RelV:V->Value->Prop
 |.non,u=>u=Value.none
 |.bl b,u=>u=Value.bool b
 |.int i,u=>∃t,u=Value.int i t
 |.str x,u=>∃t,u=Value.str x t
 |.byt b,u=>∃t,u=Value.bytes b t
 |.flt b,u=>∃t,u=Value.float b t
 |.ref a,u=>u=Value.ref a
 |.ty n,u=>u=Value.type n
abbrev As:List V->List Value->Prop:=Paired RelV
def As.length{xs:List V}{us:List Value}(r:As xs us):xs.length=us.length:=Paired.length r
theorem As.get:∀{xs:List V}{us:List Value}{i:Nat}{x:V},As xs us->xs[i]?=some x->∃u,us[i]?=some u/\RelV x u
 |_,_,_,_,.nil,e=>by simp at e
 |_,_,0,_,.cons r _,e=>by simp at e;subst e;exact⟨_,rfl,r⟩
 |_,_,i+1,x,.cons _ t,e=>by
   obtain⟨u,a,b⟩:=As.get (i:=i) (x:=x) t (by simpa using e);exact⟨u,by simpa using a,b⟩
theorem As.set{x:V}{u:Value}(r:RelV x u):∀{xs:List V}{us:List Value}(i:Nat),As xs us->As (xs.set i x) (us.set i u)
 |_,_,_,.nil=>.nil
 |_,_,0,.cons _ t=>.cons r t
 |_,_,i+1,.cons q t=>.cons q (As.set r i t)
theorem As.append:∀{xs ys:List V}{us ws:List Value},As xs us->As ys ws->As (xs++ys) (us++ws)
 |_,_,_,_,.nil,s=>s
 |_,_,_,_,.cons r t,s=>.cons r (As.append t s)
theorem As.take:∀{xs:List V}{us:List Value}(n:Nat),As xs us->As (xs.take n) (us.take n)
 |_,_,0,_=>.nil
 |_,_,_+1,.nil=>.nil
 |_,_,n+1,.cons r t=>.cons r (As.take n t)
theorem As.drop:∀{xs:List V}{us:List Value}(n:Nat),As xs us->As (xs.drop n) (us.drop n)
 |_,_,0,r=>r
 |_,_,_+1,.nil=>.nil
 |_,_,n+1,.cons _ t=>As.drop n t
def Ea:Option V->Option Value->Prop
 |some v,some u=>RelV v u
 |none,none=>True
 |_,_=>False
def KV {κ:Type}:List (κ×V)->List (κ×Value)->Prop:=Paired λ(p:κ×V)(q:κ×Value)=>p.1=q.1/\RelV p.2 q.2
def kV:AN->V
 |.inl i=>.int i
 |.inr x=>.str x
inductive HO where
 |lst (xs:List V)
 |tup (xs:List V)
 |dK (kvs:List (AN×V))|dT (kvs:List (List AN×V))
 |set (S:Int->Bool) (n:Nat)
 |ins (C dx:Addr) (fs:List (Str×V))
 |own (x:Addr)
 |xd (fs:List (Str×V))
 |met (f x:Addr)
 |rng (lo hi:Int)
 |frz (o:Obj) (u:HO)
 |tbl (ps:Array Value)
 |ext (φ:Heap->Prop)
abbrev Hp:=Addr->Option HO
def upd (H:Hp) (a:Addr) (o:HO):Hp:=λb=>if b=a then some o else H b
variable {H:Hp}{a:Addr}{o:HO}
def Aa:upd H a o a=some o:=by unfold upd;rw[Al rfl]
variable {b:Addr}
def AE(h:b≠a):upd H a o b=H b:=by unfold upd;rw[Ak h]
variable {u:HO}
def UR:upd (upd H a o) a u=upd H a u:=by
 funext b;unfold upd;split<;>rfl
def M9(h:H a=some o)(h':H b=some u)(d:o≠u):a≠b:=by
 intro e;subst e;rw[h] at h';exact d (AO h')
def AK(h:H a=some o)(h':H b=none):a≠b:=by
 intro e;subst e;rw[h] at h';cases h'
section
variable (P:Program) (w:World)
def AB (H:Hp) (h:Heap) (a:Addr):HO->Prop
 |.lst xs=>xs.length<=sizeLine/\∃(its:List Value)(n:Nat),As xs its/\h.get? a=some {cls:=.type "list",data:=.seq its.toArray n}
 |.tup xs=>xs.length<=sizeLine/\∃its:List Value,As xs its/\IsTup h a its.toArray
 |.dK kvs=>kvs.length<=sizeLine/\(a==sysModules)=false/\∃vs,KV kvs vs/\h.DictOf (EK P w) a vs
 |.dT kvs=>kvs.length<=sizeLine/\(a==sysModules)=false/\∃xs:List (List AN×Addr×Value),
  Paired (λ(p:List AN×V)(q:List AN×Addr×Value)=>p.1=q.1/\H q.2.1=some (.tup (p.1.map kV))/\RelV p.2 q.2.2) kvs xs /\
  ∃o es ep,h.get? a=some o/\o.ExactDict/\o.data=.dict es ep/\es.toList=xs.map (entryOfKey (tupleKind (EK P w)))/\(xs.map (·.1)).Nodup
 |.set S n=>h.SetOf (intKind P w) a S n
 |.ins C dx fs=>H dx=some (.own a)/\fs.length<=1000/\dx≠a/\h.get? a=some (PySem.W.instObj C dx) /\
  ∃mA,h.Ns1 dx mA/\(∀f,Ea (fs.lookup f) (mA f))/\PySem.Within mA (fs.map (·.1))
 |.own _=>∃o,h.get? a=some o
 |.xd fs=>∃mA,h.Ns1 a mA/\∀f,Ea (fs.lookup f) (mA f)
 |.rng lo hi=>∃t u v,h.get? a=some {cls:=.type "range",data:=.fields #[.int lo t,.int hi u,.int 1 v]}
 |.frz o u=>h.get? a=some o/\AB H h a u
 |.tbl ps=>h.get? a=some {cls:=.none,data:=.fields ps}
 |.met f x=>h.get? a=some (PySem.W.methodObj (.ref f) (.ref x))
 |.ext φ=>φ h/\(∃o,h.get? a=some o)/\∀h1 h2:Heap,φ h1->(∀o,h1.get? a=some o->h2.get? a=some o)->φ h2
def CZ (H:Hp) (h:Heap):Prop:=∀a o,H a=some o->AB P w H h a o
end
section
variable {P:Program} {w:World} {H H':Hp} {h h':Heap} {a:Addr} {o:HO}
def AB.lt(x:AB P w H h a o):a<h.objs.size:=by
 cases o with
 |lst b=>obtain⟨_,_,_,_,e⟩:=x;exact A5 e
 |tup b=>obtain⟨_,_,_,p⟩:=x;exact p.lt
 |dK c=>obtain⟨_,_,_,_,o,_,_,e,_⟩:=x;exact A5 e
 |dT c=>obtain⟨_,_,_,_,o,_,_,e,_⟩:=x;exact A5 e
 |set S n=>obtain⟨o,_,_,_,e,_⟩:=x;exact A5 e
 |ins C d fs=>obtain⟨_,_,_,e,_⟩:=x;exact A5 e
 |own y=>obtain⟨_,e⟩:=x;exact A5 e
 |xd fs=>obtain⟨_,⟨_,_,_,e,_⟩,_⟩:=x;exact A5 e
 |rng lo g=>obtain⟨_,_,_,e⟩:=x;exact A5 e
 |frz i u=>obtain⟨e,_⟩:=x;exact A5 e
 |tbl j=>exact A5 (show h.get? a=some _ from x)
 |met f y=>exact A5 (show h.get? a=some _ from x)
 |ext φ=>obtain⟨_,⟨_,e⟩,_⟩:=x;exact A5 e
theorem Paired.mapP{α β:Type}{F G:α->β->Prop}:∀{c:List α}{d:List β},Paired F c d->(∀a b,F a b->G a b)->Paired G c d
 |_,_,.nil,_=>.nil
 |_,_,.cons r t,f=>.cons (f _ _ r) (Paired.mapP t f)
def AB.stay(x:AB P w H h a o)(k:∀b u,(b=a\/H b=some (.own a))->h.get? b=some u->h'.get? b=some u)
 (B:∀b,H b=some (.own a)->H' b=some (.own a)) (D:∀b xs,H b=some (.tup xs)->H' b=some (.tup xs)):AB P w H' h' a o:=by
 induction o with
 |lst xs=>obtain⟨z,m,n,r,e⟩:=x;exact⟨z,m,n,r,k _ _ (.inl rfl) e⟩
 |tup xs=>obtain⟨z,m,r,g,e,c⟩:=x;exact⟨z,m,r,g,k _ _ (.inl rfl) e,c⟩
 |dK I=>obtain⟨z,y,E,r,g,i,j,e,c⟩:=x;exact⟨z,y,E,r,g,i,j,k _ _ (.inl rfl) e,c⟩
 |dT I =>
   obtain⟨z,y,xs,r,g,i,j,e,c⟩:=x;exact⟨z,y,xs,Paired.mapP r λp q z=>⟨z.1,D _ _ z.2.1,z.2.2⟩,g,i,j,k _ _ (.inl rfl) e,c⟩
 |set S n=>obtain⟨g,i,j,t,e,c⟩:=x;exact⟨g,i,j,t,k _ _ (.inl rfl) e,c⟩
 |ins C J fs =>
   obtain⟨d,z,ne,e,mA,⟨l,i,j,F,c⟩,r⟩:=x;exact⟨B _ d,z,ne,k _ _ (.inl rfl) e,mA,⟨l,i,j,k _ _ (.inr d) F,c⟩,r⟩
 |own y=>obtain⟨g,e⟩:=x;exact⟨g,k _ _ (.inl rfl) e⟩
 |xd fs=>obtain⟨mA,⟨l,i,j,e,c⟩,r⟩:=x;exact⟨mA,⟨l,i,j,k _ _ (.inl rfl) e,c⟩,r⟩
 |rng lo K=>obtain⟨t,u,v,e⟩:=x;exact⟨t,u,v,k _ _ (.inl rfl) e⟩
 |frz g u G=>obtain⟨e,q⟩:=x;exact⟨k _ _ (.inl rfl) e,G q⟩
 |tbl s =>
   have e:h.get? a=some {cls:=.none,data:=.fields s}:=x;show h'.get? a=some {cls:=.none,data:=.fields s};exact k a _ (.inl rfl) e
 |met f y =>
   have e:h.get? a=some (PySem.W.methodObj (.ref f) (.ref y)):=x;show h'.get? a=some (PySem.W.methodObj (.ref f) (.ref y));exact k a _ (.inl rfl) e
 |ext φ=>obtain⟨p,⟨o,e⟩,A⟩:=x;exact⟨A _ _ p λo q=>k _ _ (.inl rfl) q,⟨o,k _ _ (.inl rfl) e⟩,A⟩
def CZ.lt(x:CZ P w H h)(e:H a=some o):a<h.objs.size:=(x a o e).lt
def CZ.fresh(x:CZ P w H h)(e:h.objs.size<=a):H a=none:=by
 cases q:H a with
 |none=>rfl
 |some u=>exact absurd (FO (x.lt q) e) (Gi _)
def CZ.kept(x:CZ P w H h)(k:∀b u,h.get? b=some u->h'.get? b=some u):CZ P w H h':=λa o e =>
 (x a o e).stay (λb u ζ q=>k b u q) (λζ q=>q) λζ ζ q=>q
def CZ.laid(x:CZ P w H h)(k:∀b u,h.get? b=some u->h'.get? b=some u)(g:h.objs.size<=a)(i:AB P w (upd H a o) h' a o):CZ P w (upd H a o) h':=λb u e=>by
 have d:=x.fresh g;by_cases f:b=a;subst f;rw[Aa] at e;cases e;exact i;rw[AE f] at e;exact(x b u e).stay (λc v ζ q=>k c v q) (λc q=>by rw[AE (AK q d)];exact q) λc j q=>by rw[AE (AK q d)];exact q
end
def Rd (H:Hp) (a:Addr) (u:HO):Prop:=H a=some u\/∃o,H a=some (.frz o u)
variable {P:Program}{w:World}{h:Heap}
def Rd.ok(r:Rd H a u)(x:CZ P w H h):AB P w H h a u:=by
 rcases r with r|⟨o,r⟩;exact x a u r;obtain⟨_,q⟩:=x a _ r;exact q
def NK:Option HO->Prop
 |some (.lst _)=>True
 |some (.dK _)=>True
 |some (.dT _)=>True
 |some (.set _ _)=>True
 |some (.ins _ _ _)=>True
 |some (.ext _)=>True
 |_=>False
section
variable {P:Program} {w:World} {H:Hp} {h h':Heap} {x e:Addr} {o':HO}
def CZ.write(ok:CZ P w H h)(a:NK (H x))(j:e=x\/H e=some (.own x))(k:∀b u,b≠e->h.get? b=some u->h'.get? b=some u)(o:∃u,h'.get? e=some u)
 (p:AB P w (upd H x o') h' x o'):CZ P w (upd H x o') h':=λb u q=>by
 have m:∀c y,H c=some (.own y)->c≠x:=λc y r z=>by subst z;rw[r] at a;exact a
 have s:∀c d,H c=some (.tup d)->c≠x:=λc d r z=>by subst z;rw[r] at a;exact a
 by_cases f:b=x;subst f;rw[Aa] at q;cases q;exact p;rw[AE f] at q;by_cases i:b=e
 have l:H b=some (.own x):=by
  rcases j with z|z;exact absurd (i.trans z) f;rw[i];exact z
 rw[q] at l;cases l;obtain⟨v,n⟩:=o;exact⟨v,by rw[i];exact n⟩;refine(ok b u q).stay (λc v g r=>k c v ?_ r) (λc r=>by rw[AE (m c b r)];exact r) λc d r=>by rw[AE (s c d r)];exact r
 rcases g with rfl|g;exact i;rintro rfl;rcases j with z|z;exact m c b g z;rw[g] at z;cases z;exact f rfl
end
structure Un (fs ex:List Addr) (H H':Hp) (h h':Heap):Prop where
 keep:∀b o,h.get? b=some o->H b=none->b∉fs->b∉ex->h'.get? b=some o
 slot:∀b o,h.get? b=some o->H b=none->b∈fs->b∉ex->∃sl,h'.get? b=some {o with slots:=sl}
 free:∀b o,h.get? b=some o->H b=none->b∉ex->H' b=none
 there:∀b o,h.get? b=some o->b∉ex->∃o',h'.get? b=some o'
 tups:∀b xs,H b=some (.tup xs)->H' b=some (.tup xs)
 frzs:∀b o u,H b=some (.frz o u)->H' b=some (.frz o u)
 tbls:∀b ps,H b=some (.tbl ps)->∃more,H' b=some (.tbl (ps++more))
section
variable {fs fs' ex ex':List Addr} {H Y H2:Hp} {h h1 h2 h':Heap} {a x e:Addr} {o:HO}
def Un.any(u:Un fs ex H Y h h1){ob:Obj}(q:h.get? b=some ob)(n:H b=none)(a:b∉ex):∃d,h1.get? b=some {ob with slots:=d}:=by
 by_cases c:b∈fs;exact u.slot b ob q n c a;exact⟨ob.slots,u.keep b ob q n c a⟩
def Un.kept(k:∀b u,h.get? b=some u->h'.get? b=some u):Un fs ex H H h h':=
 ⟨λb a q ζ ζ ζ=>k b a q,λb a q ζ ζ ζ=>⟨a.slots,k b a q⟩,λζ ζ ζ n ζ=>n,λb a q ζ=>⟨a,k b a q⟩,λζ ζ q=>q,λζ ζ ζ q=>q,λζ c q=>⟨#[],by rw[q];simp⟩⟩
def Un.refl:Un fs ex H H h h:=Un.kept λζ ζ q=>q
def Un.laid(k:∀b u,h.get? b=some u->h'.get? b=some u)(d:h.objs.size<=a)(c:H a=none):Un fs ex H (upd H a o) h h' where
 keep:=λb u q ζ ζ ζ=>k b u q
 slot:=λb u q ζ ζ ζ=>⟨u.slots,k b u q⟩
 free:=λb u q n ζ=>by rw[AE (CU (FO (A5 q) d))];exact n
 there:=λb u q ζ=>⟨u,k b u q⟩
 tups:=λb e q=>by rw[AE (AK q c)];exact q
 frzs:=λb u e q=>by rw[AE (AK q c)];exact q
 tbls:=λb f q=>⟨#[],by rw[AE (AK q c),q];simp⟩
def Un.write(a:NK (H x))(i:e=x\/H e=some (.own x))(k:∀b u,b≠e->h.get? b=some u->h'.get? b=some u)(m:∃u,h'.get? e=some u):Un fs ex H (upd H x o) h h':=by
 have d:∀b,H b=none->b≠x:=λb n z=>by subst z;rw[n] at a;exact a
 have f:∀b,H b=none->b≠e:=λb n z=>by
  subst z;rcases i with r|r;exact d b n r;rw[n] at r;cases r
 have c:∀b u,H b=some u->¬NK (some u)->b≠x:=λb u q j z=>by subst z;rw[q] at a;exact j a
 refine⟨λb u q n ζ ζ=>k b u (f b n) q,λb u q n ζ ζ=>⟨u.slots,k b u (f b n) q⟩,λb u q n ζ=>by rw[AE (d b n)];exact n,λb u q ζ=>?_,
  λb l q=>by rw[AE (c b _ q λz=>z)];exact q,λb u l q=>by rw[AE (c b _ q λz=>z)];exact q,λb p q=>⟨#[],by rw[AE (c b _ q λz=>z),q];simp⟩⟩
 by_cases g:b=e;subst g;exact m;exact⟨u,k b u g q⟩
end
def G6 (h:Heap) (H:Hp):List Addr:=(List.range h.objs.size).filter λa=>(H a).isSome
def Fm (h:Heap) (H:Hp):Heap:=PySem.W.hideAll h (G6 h H)
def X5(h:Heap)(H:Hp):(Fm h H).objs.size=h.objs.size:=PySem.W.hideAll_size _ _
def X6{o:Obj}(e:h.get? b=some o)(n:H b=none):(Fm h H).get? b=some o:=
 PySem.W.hideAll_get _ e λa=>by
  have q:(H b).isSome=true:=(M0.mp a).2;rw[n] at q;simp at q
def IW{o:Obj}(e:(Fm h H).get? b=some o):h.get? b=some o/\H b=none:=by
 have a:h.get? b=some o:=PySem.W.of_hideAll (G6 h H) e;refine⟨a,?_⟩
 cases q:H b with
 |none=>rfl
 |some x =>
   have c:b∈G6 h H:=M0.mpr ⟨List.mem_range.mpr (A5 a),by simp[q]⟩;have z:(Fm h H).get? b=none:=PySem.W.hideAll_none (G6 h H) c;rw[z] at e;cases e
structure Mod (K:Ah) (mg:Str->Option Value) (base:Heap):Prop where
 kin:K.In base
 glob:base.Ns mainGlobals mg
 blt:∃mb,base.Ns builtinsNs mb/\∀x:Str,x ≠ "__name__" -> mb x=bootBuiltins x
 nolimit:base.NoLimit
structure Cx where
 prog:Program
 w:World
 K:Ah
 mg:Str->Option Value
 base:Heap
 A:Around
 N:List Str
 s₀:Shared
 H₀:Hp
 env:Env
 outer:List Env
 stack:List Env
 ex:List Addr
 fn:Str->Bool
 calm:Bool
 pn:B'
 xe:Value->Shared->Prop
def EY (l:List Env):List Addr:=l.filterMap (·.frame)
abbrev Cx.fs (X:Cx):List Addr:=EY X.outer
def Pt (sc:Scope) (x:Str):Prop:=sc.names.lookup x=some .local\/sc.names.lookup x=some .cell\/sc.names.lookup x=some .free
def Loc (sc:Scope) (x:Str):Prop:=sc.names.lookup x=some .local\/sc.names.lookup x=some .cell
def Look (env:Env) (h:Heap) (m:Str->Option Value) (x:Str) (u:Value):Prop:=
 (env.kindOf x=some .local/\m x=some u)\/((env.kindOf x=some .cell\/env.kindOf x=some .free)/\∃c,env.cells.lookup x=some c/\h.IsCell c (some u))
structure Cx.Ok (X:Cx):Prop where
 mod:Mod X.K X.mg X.base
 kind:X.env.scope.kind=.function
 glob:X.env.globals=mainGlobals
 blt:X.env.builtins=builtinsNs
 above:X.s₀.heap.objs.size<=X.env.locals
 inj:∀x y c,X.env.cells.lookup x=some c->X.env.cells.lookup y=some c->x=y
 has:∀x,(X.env.kindOf x=some .cell\/X.env.kindOf x=some .free)->∃c,X.env.cells.lookup x=some c
 cab:∀x c,X.fn x=true->X.env.cells.lookup x=some c->X.s₀.heap.objs.size<=c
 hd:X.calm=true->X.A.handled=none
 frames:X.A.frames=some X.stack
 stk:X.stack=X.outer\/(X.stack=X.env::X.outer/\X.env.frame=some X.env.locals)
 exf:∀b∈X.ex,b≠X.env.locals/\∀x c,X.env.cells.lookup x=some c->c≠b
 bs:∀b o,X.base.get? b=some o->X.s₀.heap.get? b=some o/\X.H₀ b=none
 bsz:X.base.objs.size<=X.s₀.heap.objs.size
 noex:∀b o,X.base.get? b=some o->b∉X.ex
 exfs:∀b∈X.ex,b∉X.fs
 funs:X.s₀.heap.FunFrames X.base X.outer
 frf:∀b∈X.fs,X.H₀ b=none
structure Inv (X:Cx) (pins:B') (σ:List (Option V)) (H:Hp) (s:Shared):Prop where
 ok:X.Ok
 os:s.os=X.s₀.os
 bare:AllBare s.gens
 base:Un X.fs X.ex X.H₀ H X.s₀.heap s.heap
 loc:∃m,s.heap.Ns X.env.locals m/\∀(i:Nat)(x:Str)(v:V),X.N[i]?=some x->σ[i]?=some (some v)->Pt X.env.scope x->∃u,RelV v u/\Look X.env s.heap m x u
 cell:∀x c,X.env.cells.lookup x=some c->∃v,s.heap.IsCell c v
 free:H X.env.locals=none
 freeC:∀x c,X.env.cells.lookup x=some c->H c=none
 pin:∀p∈X.pn++pins,s.heap.get? p.1=some p.2/\H p.1=none/\p.1≠X.env.locals/\p.1∉X.fs/\∀v,p.2.data≠.cell v
 hok:CZ X.prog X.w H s.heap
 len:σ.length=X.N.length
section
variable {X:Cx} {pins:B'} {σ:List (Option V)} {H H':Hp} {s:Shared} {h':Heap}
def Cx.Ok.nofr(ok:X.Ok){o:Obj}(e:X.base.get? b=some o):b∉X.fs:=λa=>by
 have:=(ok.funs.mem a).1;rw[e] at this;cases this
def Inv.bs(I:Inv X pins σ H s):∀b o,X.base.get? b=some o->s.heap.get? b=some o/\H b=none:=λb o e =>
 ⟨I.base.keep b o (I.ok.bs b o e).1 (I.ok.bs b o e).2 (I.ok.nofr e) (I.ok.noex b o e),I.base.free b o (I.ok.bs b o e).1 (I.ok.bs b o e).2 (I.ok.noex b o e)⟩
def Inv.bk(I:Inv X pins σ H s):∀b o,X.base.get? b=some o->s.heap.get? b=some o:=λb o e=>(I.bs b o e).1
def Inv.mod(I:Inv X pins σ H s):Mod X.K X.mg X.base:=I.ok.mod
def Inv.kIn(I:Inv X pins σ H s):X.K.In s.heap:=I.ok.mod.kin.keeps I.bk
def Inv.lt(I:Inv X pins σ H s):X.env.locals<s.heap.objs.size:=let ⟨_,a,_⟩:=I.loc;a.lt
def Inv.sz(I:Inv X pins σ H s):X.s₀.heap.objs.size<=s.heap.objs.size:=Em I.ok.above (Dm I.lt)
def Inv.nofs(I:Inv X pins σ H s)(h:s.heap.objs.size<=a):a∉X.fs:=λb=>by
 obtain⟨_,o,c,_⟩:=I.ok.funs.mem b;exact absurd (FO (A5 c) (Em I.sz h)) (Gi _)
def Inv.cne(I:Inv X pins σ H s):∀x c,X.env.cells.lookup x=some c->c≠X.env.locals:=λx c e z=>by
 obtain⟨v,o,a,hd⟩:=I.cell x c e;obtain⟨m,⟨f,g,h,b,d,_⟩,_⟩:=I.loc;rw[z,b] at a;cases a;rw[d] at hd;cases hd
def Inv.funs(I:Inv X pins σ H s):s.heap.FunFrames X.base X.outer:=by
 have all:∀(l:List Env),(∀b∈EY l,b∈X.fs)->X.s₀.heap.FunFrames X.base l->s.heap.FunFrames X.base l:=by
  intro l
  induction l with
  |nil=>intro _ _;trivial
  |cons p r g =>
    intro f h;obtain⟨i,⟨L,o,a,j,k,hd⟩,m⟩:=h;have c:L∈X.fs:=f L (by unfold EY;rw[Q8,a];exact BB);obtain⟨n,e⟩:=I.base.slot L o k (I.ok.frf L c) c λz=>I.ok.exfs L z c;exact⟨i,⟨L,_,a,j,e,hd⟩,g (λb d=>f b (by unfold EY;rw[Q8,a];exact Co _ d)) m⟩
 exact all X.outer (λζ d=>d) I.ok.funs
def Inv.stack(I:Inv X pins σ H s):s.heap.FunFrames X.base X.stack:=by
 rcases I.ok.stk with e|⟨e,a⟩;rw[e];exact I.funs;rw[e];obtain⟨m,b,_⟩:=I.loc;refine .cons (by rw[I.ok.kind];decide) a b ?_ I.funs;exact Heap.get?_none_of_le (Em I.ok.bsz I.ok.above)
def Inv.stkSub(I:Inv X pins σ H s):∀b∈EY X.stack,b∈X.env.locals::X.fs:=λb a=>by
 rcases I.ok.stk with e|⟨e,c⟩;rw[e] at a;exact Co _ a;rw[e] at a;unfold EY at a;rw[Q8,c] at a;exact a
def Inv.stkFree(I:Inv X pins σ H s):∀b∈EY X.stack,H b=none:=λb a=>by
 rcases Cj.mp (I.stkSub b a) with e|a;rw[e];exact I.free;obtain⟨_,o,c,_⟩:=I.ok.funs.mem a;exact I.base.free b o c (I.ok.frf b a) λz=>I.ok.exfs b z a
variable {t':Nat}{ch:List Addr}
def Inv.step{g':Array GenState}{d':Drawn}(I:Inv X pins σ H s)
 (w:∀b∈ch,(b∈X.ex\/X.s₀.heap.objs.size<=b)/\b≠X.env.locals/\(∀x c,X.env.cells.lookup x=some c->c≠b)/\∀p∈X.pn++pins,p.1≠b)
 (keep:∀b o,b≠X.env.locals->b∉X.fs->b∉ch->s.heap.get? b=some o->H b=none->h'.get? b=some o)
 (G:∀b o,b≠X.env.locals->b∈X.fs->b∉ch->s.heap.get? b=some o->H b=none->∃B,h'.get? b=some {o with slots:=B}) (free:∀b o,b∉ch->s.heap.get? b=some o->H b=none->H' b=none)
 (there:∀b o,b∉ch->s.heap.get? b=some o->∃j,h'.get? b=some j)
 (tups:∀b xs,H b=some (.tup xs)->H' b=some (.tup xs)) (S:∀b o u,H b=some (.frz o u)->H' b=some (.frz o u)) (T:∀b ps,H b=some (.tbl ps)->∃more,H' b=some (.tbl (ps++more)))
 (ns:∀m,s.heap.Ns X.env.locals m->h'.Ns X.env.locals m) (Q:CZ X.prog X.w H' h') (K:AllBare g') :
 Inv X pins σ H' {s with heap:=h',gens:=g',drawn:=d',toks:=t'}:=by
 have F:∀b o,X.s₀.heap.get? b=some o->b≠X.env.locals:=λb o e=>CU (FO (A5 e) I.ok.above)
 have A:∀b o,X.s₀.heap.get? b=some o->b∉X.ex->b∉ch:=λb o e a g=>by
  rcases(w b g).1 with z|z;exact a z;exact absurd (FO (A5 e) z) (Gi _)
 have J:∀x c,X.env.cells.lookup x=some c->∀v,s.heap.IsCell c v->h'.IsCell c v:=λx c e v⟨o,h,hd⟩=>by
  have y:c∉ch:=λz=>(w c z).2.2.1 x c e rfl;by_cases C:c∈X.fs;obtain⟨B,q⟩:=G c o (I.cne x c e) C y h (I.freeC x c e);exact⟨_,q,hd⟩;exact⟨o,keep c o (I.cne x c e) C y h (I.freeC x c e),hd⟩
 refine⟨I.ok,I.os,K,⟨λb o e n g a=>?_,λb o e n g a=>?_,λb o e n a=>?_,λb o e a=>?_,λb xs e=>tups b xs (I.base.tups b xs e),λb o xs e=>S b o xs (I.base.frzs b o xs e),λb ps e=>?_⟩,?_,λx c e=>?_,?_,λx c e=>?_,λp D=>?_,Q,I.len⟩;exact keep b o (F b o e) g (A b o e a) (I.base.keep b o e n g a) (I.base.free b o e n a);obtain⟨B,f⟩:=I.base.slot b o e n g a;obtain⟨R,t⟩:=G b _ (F b o e) g (A b o e a) f (I.base.free b o e n a);exact⟨R,t⟩;obtain⟨j,f⟩:=I.base.there b o e a;exact free b j (A b o e a) f (I.base.free b o e n a);obtain⟨j,f⟩:=I.base.there b o e a;exact there b j (A b o e a) f;obtain⟨L,f⟩:=I.base.tbls b ps e;obtain⟨M,t⟩:=T b _ f;exact⟨L++M,by rw[t,Array.append_assoc]⟩;obtain⟨m,N,O⟩:=I.loc;refine⟨m,ns m N,λi x v f t P=>?_⟩;obtain⟨u,r,l⟩:=O i x v f t P;refine⟨u,r,?_⟩;rcases l with l|⟨k,c,e,z⟩;exact .inl l;exact .inr ⟨k,c,e,J x c e _ z⟩;obtain⟨v,z⟩:=I.cell x c e;exact⟨v,J x c e v z⟩;obtain⟨m,⟨o,_,_,h,_⟩,_⟩:=I.loc;exact free _ o (λz=>(w _ z).2.1 rfl) h I.free;obtain⟨v,o,h,hd⟩:=I.cell x c e;exact free c o (λz=>(w c z).2.2.1 x c e rfl) h (I.freeC x c e);obtain⟨e,n,ne,E,d⟩:=I.pin p D;have y:p.1∉ch:=λz=>(w p.1 z).2.2.2 p D rfl;exact⟨keep p.1 p.2 ne E y e n,free p.1 p.2 y e n,ne,E,d⟩
def Inv.un(I:Inv X pins σ H s)(u:Un X.fs [] H H' s.heap h')(i:CZ X.prog X.w H' h'):Inv X pins σ H' {s with heap:=h',toks:=t'}:=by
 obtain⟨m,⟨o,l,p,c,r⟩,_⟩:=id I.loc;obtain⟨q,f⟩:=u.any c I.free (by simp)
 exact I.step (g':=s.gens) (d':=s.drawn) (ch:=[]) (λζ z=>nomatch z) (λb o ζ a ζ e n=>u.keep b o e n a (by simp)) (λb o ζ a ζ e n=>u.slot b o e n a (by simp)) (λb o ζ e n=>u.free b o e n (by simp)) (λb o ζ e=>u.there b o e (by simp)) u.tups u.frzs u.tbls (λt g=>by
  obtain⟨v,j,k,d,h⟩:=g;rw[c] at d;cases d
  exact⟨_,j,k,f,h⟩) i I.bare
def Inv.call{g':Array GenState}{d':Drawn}(I:Inv X pins σ H s)(u:Un (EY X.stack) ch H H' s.heap h')(q:CZ X.prog X.w H' h')(i:AllBare g')
 (g:∀b∈ch,(b∈X.ex\/X.s₀.heap.objs.size<=b)/\b≠X.env.locals/\(∀x c,X.env.cells.lookup x=some c->c≠b)/\∀p∈X.pn++pins,p.1≠b) :
 Inv X pins σ H' {s with heap:=h',gens:=g',drawn:=d',toks:=t'}:=by
 obtain⟨m,⟨o,w,y,f,r⟩,_⟩:=id I.loc;obtain⟨A,d⟩:=u.any f I.free λz=>(g _ z).2.1 rfl
 exact I.step (ch:=ch) g (λb o d j a e n=>u.keep b o e n (λz=>(Cj.mp (I.stkSub b z)).elim d j) a) (λb o ζ ζ a e n=>u.any e n a) (λb o a e n=>u.free b o e n a) (λb o a e=>u.there b o e a) u.tups u.frzs u.tbls (λB k=>by
  obtain⟨C,t,v,h,l⟩:=k;rw[f] at h;cases h
  exact⟨_,t,v,d,l⟩) q i
def Inv.turned{a:Addr}(I:Inv X pins σ H s)(k:∀b o,b≠a->s.heap.get? b=some o->h'.get? b=some o)(h:H a=none)(f:a≠X.env.locals)
 (i:a∈X.ex\/X.s₀.heap.objs.size<=a) (j:∀x c,X.env.cells.lookup x=some c->c≠a) (l:∀p∈X.pn++pins,p.1≠a):Inv X pins σ H {s with heap:=h',toks:=t'}:=by
 have g:∀b u,H b=some u->b≠a:=λb u e z=>by rw[z,h] at e;cases e
 refine I.step (g':=s.gens) (d':=s.drawn) (ch:=[a]) (λb t=>?_) (λb o ζ ζ d e ζ=>k b o (λz=>d (by simp[z])) e) (λb o ζ ζ d e ζ=>⟨o.slots,k b o (λz=>d (by simp[z])) e⟩) (λζ ζ ζ ζ n=>n)
  (λb o d e=>⟨o,k b o (λz=>d (by simp[z])) e⟩) (λζ ζ e=>e) (λζ ζ ζ e=>e) (λb C e=>⟨#[],by rw[e];simp⟩) (λm w=>?_) (λb u e=>?_) I.bare
 have e:b=a:=(by simpa using t);subst e;exact⟨i,f,j,l⟩;obtain⟨o,y,A,B,r⟩:=w;exact⟨o,y,A,k _ o (Ne.symm f) B,r⟩;refine(I.hok b u e).stay (λc v d q=>k c v ?_ q) (λζ q=>q) λζ ζ q=>q;rcases d with z|z;rw[z];exact g b u e;exact g c _ z
def Inv.tok(I:Inv X pins σ H s)(t:Nat):Inv X pins σ H {s with toks:=t}:=I.un (h':=s.heap) (t':=t) Un.refl I.hok
def Inv.kept{t':Nat}(I:Inv X pins σ H s)(k:∀b u,s.heap.get? b=some u->h'.get? b=some u):Inv X pins σ H {s with heap:=h',toks:=t'}:=I.un (Un.kept k) (I.hok.kept k)
def Inv.laid{a:Addr}{o:HO}{t':Nat}(I:Inv X pins σ H s)(k:∀b u,s.heap.get? b=some u->h'.get? b=some u)(c:s.heap.objs.size<=a)(d:AB X.prog X.w (upd H a o) h' a o) :
 Inv X pins σ (upd H a o) {s with heap:=h',toks:=t'}:=I.un (Un.laid k c (I.hok.fresh c)) (I.hok.laid k c d)
def Inv.write{x e:Addr}{o:HO}{t':Nat}(I:Inv X pins σ H s)(a:NK (H x))(c:e=x\/H e=some (.own x))(k:∀b u,b≠e->s.heap.get? b=some u->h'.get? b=some u)(d:∃u,h'.get? e=some u)
 (f:AB X.prog X.w (upd H x o) h' x o):Inv X pins σ (upd H x o) {s with heap:=h',toks:=t'}:=I.un (Un.write a c k d) (I.hok.write a c k d f)
def Inv.pins_of{a:B'}(I:Inv X pins σ H s)(h:∀p∈a,s.heap.get? p.1=some p.2/\H p.1=none/\p.1≠X.env.locals/\p.1∉X.fs/\∀v,p.2.data≠.cell v):Inv X a σ H s:=
 ⟨I.ok,I.os,I.bare,I.base,I.loc,I.cell,I.free,I.freeC,λp b=>(BI.mp b).elim (λz=>I.pin p (Ek _ z)) (h p),I.hok,I.len⟩
variable {i:Nat}{x:Str}
def US{N:List Str}(c:N.Nodup){j:Nat}(a:N[i]?=some x)(b:N[j]?=some x):i=j:=by
 obtain⟨f,d⟩:=A8.mp a;obtain⟨g,e⟩:=A8.mp b;exact(List.getElem_inj c).mp (d.trans e.symm)
def UT{ai:Model}{A:Around}{E:D'}{v:V}{u:Value}{Q:Unit->Shared->Prop}(I:Inv X pins σ H s)(U:X.N.Nodup)(D:X.N[i]?=some x)(m:Loc X.env.scope x)(r:RelV v u)
 (h:∀Z,Inv X pins (σ.set i (some v)) H Z->(∃a,Heap.SameBut a s.heap Z.heap/\(a=X.env.locals\/X.env.cells.lookup x=some a))->Q () Z) (hf:X.fn x=true\/X.env.scope.names.lookup x=some .local:=by first|exact .inl rfl|exact .inr rfl|assumption):wpAny ai A (storeName X.env x u) Q E s:=by
 obtain⟨aj,J,W⟩:=id I.loc;have an:(X.env.scope.kind==.class || (X.env.scope.kind==.module && X.env.locals != X.env.globals))=false:=by rw[I.ok.kind];rfl
 have aa:i<σ.length:=by rw[I.len];exact(A8.mp D).1
 have cne:=I.cne
 have ah:∀{a:Addr}{h':Heap},(∃o,s.heap.get? a=some o/\H a=none)->Heap.SameBut a s.heap h'->CZ X.prog X.w H h':=λ{a h'}ha f b ob e=>by
  obtain⟨_,_,ag⟩:=ha;refine(I.hok b ob e).stay (λc F l q=>(f.2 c ?_).trans q) (λζ q=>q) λζ ζ q=>q;rintro rfl;rcases l with rfl|l;rw[ag] at e;cases e;rw[ag] at l;cases l
 rcases m with w|w;refine wpAny_storeName_local w J (λh' ak f=>?_) an;obtain⟨oL,_,_,al,_⟩:=id J;refine h _ ⟨I.ok,I.os,I.bare,⟨λb o e n B m=>?_,λb o e n B m=>?_,I.base.free,λb o e m=>?_,I.base.tups,I.base.frzs,I.base.tbls⟩,⟨_,ak,λj y K g t L=>?_⟩,λy c e=>?_,I.free,I.freeC,λp M=>?_,ah ⟨oL,al,I.free⟩ f,by simpa using I.len⟩ ⟨_,f,.inl rfl⟩;exact(f.2 b (CU (FO (A5 e) I.ok.above))).trans (I.base.keep b o e n B m);obtain⟨N,g⟩:=I.base.slot b o e n B m;exact⟨N,(f.2 b (CU (FO (A5 e) I.ok.above))).trans g⟩;obtain⟨O,g⟩:=I.base.there b o e m;exact⟨O,(f.2 b (CU (FO (A5 e) I.ok.above))).trans g⟩;by_cases C:j=i;subst C;rw[D] at g;cases g;rw[List.getElem?_set_self aa] at t;cases t;exact⟨u,r,.inl ⟨w,by simp⟩⟩;rw[List.getElem?_set_ne (Ne.symm C)] at t;obtain⟨P,R,q⟩:=W j y K g t L;refine⟨P,R,?_⟩;rcases q with⟨k,e⟩|⟨k,c,e,z⟩;refine .inl ⟨k,?_⟩;have:y≠x:=λe=>C (US U g (e▸D));simp[this,e];exact .inr ⟨k,c,e,z.sameBut f (cne y c e)⟩;obtain⟨F,z⟩:=I.cell y c e;exact⟨F,z.sameBut f (cne y c e)⟩;obtain⟨e,n,ne,S,d⟩:=I.pin p M;exact⟨(f.2 p.1 ne).trans e,n,ne,S,d⟩
 have T:X.fn x=true:=by
  rcases hf with z|z;exact z;rw[z] at w;cases w
 obtain⟨c,l⟩:=I.ok.has x (.inl w);obtain⟨F,z⟩:=I.cell x c l;refine wpAny_storeName_cell I.ok.kind w l z (λh' ab f=>?_);obtain⟨Y,ae,ao⟩:=id z;refine h {s with heap:=h'} ⟨I.ok,I.os,I.bare,⟨λb o e n B m=>?_,λb o e n B m=>?_,I.base.free,λb o e m=>?_,I.base.tups,I.base.frzs,I.base.tbls⟩,⟨aj,J.sameBut f (Ne.symm (cne x c l)),λj y K g t L=>?_⟩,λy G e=>?_,I.free,I.freeC,λp M=>?_,ah ⟨Y,ae,I.freeC x c l⟩ f,by simpa using I.len⟩ ⟨c,f,.inr l⟩;exact(f.2 b (CU (FO (A5 e) (I.ok.cab x c T l)))).trans (I.base.keep b o e n B m);obtain⟨N,g⟩:=I.base.slot b o e n B m;exact⟨N,(f.2 b (CU (FO (A5 e) (I.ok.cab x c T l)))).trans g⟩;obtain⟨O,g⟩:=I.base.there b o e m;exact⟨O,(f.2 b (CU (FO (A5 e) (I.ok.cab x c T l)))).trans g⟩;by_cases C:j=i;subst C;rw[D] at g;cases g;rw[List.getElem?_set_self aa] at t;cases t;exact⟨u,r,.inr ⟨.inl w,c,l,ab⟩⟩;rw[List.getElem?_set_ne (Ne.symm C)] at t;obtain⟨P,R,q⟩:=W j y K g t L;refine⟨P,R,?_⟩;rcases q with q|⟨k,G,e,z'⟩;exact .inl q;refine .inr ⟨k,G,e,z'.sameBut f ?_⟩;rintro rfl;exact C (US U g (I.ok.inj _ _ _ e l▸D));by_cases af:G=c;subst af;exact⟨_,ab⟩;obtain⟨w2,z2⟩:=I.cell y G e;exact⟨w2,z2.sameBut f af⟩;obtain⟨e,n,ne,S,d⟩:=I.pin p M;refine⟨(f.2 p.1 ?_).trans e,n,ne,S,d⟩;intro q;rw[q,ae] at e;have q':Y=p.2:=AO e;exact d F (by rw[<-q'];exact ao)
def RN{M:Model}{A:Around}{E:D'}{v:V}{u:Value}{Q:Unit->Shared->Prop}(I:Inv X pins σ H s)(a:X.N.Nodup)(b:X.N[i]?=some x)(c:Loc X.env.scope x)(r:RelV v u)
 (h:∀Z,Inv X pins (σ.set i (some v)) H Z->Q () Z) (d:X.fn x=true\/X.env.scope.names.lookup x=some .local:=by first|exact .inl rfl|exact .inr rfl|assumption):wpAny M A (storeName X.env x u) Q E s:=
 UT I a b c r (λZ e ζ=>h Z e) d
def Inv.call'{Z:Shared}(I:Inv X pins σ H s)(a:Z.os=s.os)(u:Un (EY X.stack) ch H H' s.heap Z.heap)(g:CZ X.prog X.w H' Z.heap)(d:AllBare Z.gens)
 (h:∀b∈ch,(b∈X.ex\/X.s₀.heap.objs.size<=b)/\b≠X.env.locals/\(∀x c,X.env.cells.lookup x=some c->c≠b)/\∀p∈X.pn++pins,p.1≠b):Inv X pins σ H' Z:=by
 obtain⟨h',g',d',t',f⟩:=Z;have e:f=s.os:=a;subst e;exact I.call (g':=g') (t':=t') (d':=d') u g d h
end
abbrev XK:=Value->Option Addr->Hp->Prop
abbrev St:=List (Option V)
abbrev VK:=V->Hp->Prop
abbrev TE:=St->Hp->VK->Prop
abbrev TT:=St->Hp->(Bool->Hp->Prop)->Prop
abbrev TA:=St->Hp->(List V->Hp->Prop)->Prop
structure Ends where
 nx:St->Hp->Prop
 rt:VK
 bk:St->Hp->Prop:=λζ ζ=>False
 ct:St->Hp->Prop:=λζ ζ=>False
abbrev TS:=Ends->St->Hp->Prop
def EP (X:Cx) (pins:B') (σ:St) (Q:VK) (u:Value) (Z:Shared):Prop:=∃v H',Inv X pins σ H' Z/\RelV v u/\Q v H'
def TP (X:Cx) (pins:B') (σ:St) (Q:Bool->Hp->Prop) (b:Bool) (Z:Shared):Prop:=∃H',Inv X pins σ H' Z/\Q b H'
def AP (X:Cx) (pins:B') (σ:St) (Q:List V->Hp->Prop) (us:List Value) (Z:Shared):Prop:=∃vs H',Inv X pins σ H' Z/\As vs us/\Q vs H'
def SP (X:Cx) (pins:B') (D:Ends) (f:Flow) (Z:Shared):Prop:=
 match f with
 |.next=>∃σ' H',Inv X pins σ' H' Z/\D.nx σ' H'
 |.brk=>∃σ' H',Inv X pins σ' H' Z/\D.bk σ' H'
 |.cont=>∃σ' H',Inv X pins σ' H' Z/\D.ct σ' H'
 |.ret u=>∃v σ' H',Inv X pins σ' H' Z/\RelV v u/\D.rt v H'
def PE (X:Cx) (e:Expr) (t:TE):Prop:=
 ∀(pins:B')(s:Shared)(σ:St)(H:Hp)(Q:VK),Inv X pins σ H s->t σ H Q->wpAny (model X.prog X.w) X.A (eval e X.env) (EP X pins σ Q) X.xe s
def PT (X:Cx) (e:Expr) (t:TT):Prop:=
 ∀(pins:B')(s:Shared)(σ:St)(H:Hp)(Q:Bool->Hp->Prop),Inv X pins σ H s->t σ H Q->wpAny (model X.prog X.w) X.A (isTrue e X.env (eval e X.env)) (TP X pins σ Q) X.xe s
def PW (X:Cx) (e:Expr) (t:TT):Prop:=
 ∀(whole:Sem Value)(pins:B')(s:Shared)(σ:St)(H:Hp)(Q:Bool->Hp->Prop),Inv X pins σ H s->t σ H Q->wpAny (model X.prog X.w) X.A (isTrue e X.env whole) (TP X pins σ Q) X.xe s
variable {X:Cx}{e:Expr}
def PW.pt{t:TT}(h:PW X e t):PT X e t:=h _
def PA (X:Cx) (es:List Expr) (t:TA):Prop:=
 ∀(L:Pos)(pins:B')(s:Shared)(σ:St)(H:Hp)(Q:List V->Hp->Prop),Inv X pins σ H s->t σ H Q->wpAny (model X.prog X.w) X.A (spliced (backTo L (starEach es X.env))) (AP X pins σ Q) X.xe s
def PS (X:Cx) (st:Stmt) (t:TS):Prop:=
 ∀(pins:B')(s:Shared)(σ:St)(H:Hp)(D:Ends),Inv X pins σ H s->t D σ H->wpAny (model X.prog X.w) X.A (exec st X.env) (SP X pins D) X.xe s
def Gm (X:Cx) (st:List Stmt) (t:TS):Prop:=
 ∀(pins:B')(s:Shared)(σ:St)(H:Hp)(D:Ends),Inv X pins σ H s->t D σ H->wpAny (model X.prog X.w) X.A (execs st X.env) (SP X pins D) X.xe s
variable {A:Around}{E:D'}{s:Shared}
def AS{α:Type}{t:Sem α}{Q b:α->Shared->Prop}{M:Model}(h:wpAny M A t Q E s)(c:∀a s,Q a s->b a s):wpAny M A t b E s:=FP h c λζ ζ x=>x
section
variable {X:Cx}
def mV:Option (Option V)->(V->Prop)->Prop|some (some v),q=>q v|_,_=>(λζ=>False) Nat.repr
def mB:V->(Bool->Prop)->Prop|.bl c,q=>0=0/\q c|_,_=>(λζ=>False) Nat.repr
def mI:V->(Int->Prop)->Prop|.int i,q=>q i|_,_=>(λζ=>False) Nat.repr
def ID:V->V->(Int->Int->Prop)->Prop|.int i,.int j,q=>q i j|_,_,_=>(λζ=>False) Nat.repr
def mR:V->(Addr->Prop)->Prop|.ref a,q=>q a|_,_=>(λζ=>False) Nat.repr
def mT:V->(Addr->List V->Prop)->Prop|.ref a,q=>∃xs,q a xs|_,_=>(λζ=>False) Nat.repr
def mX:V->V->(Addr->List V->Int->V->Prop)->Prop|.ref p,.int i,q=>∃xs v,q p xs i v|_,_,_=>(λζ=>False) Nat.repr
def mC:List V->(V->List V->Prop)->Prop|v::r,q=>q v r|_,_=>(λζ=>False) Nat.repr
def mN:List V->Prop->Prop|[],q=>q|_,_=>(λζ=>False) Nat.repr
def mL:List V->(V->Nat->Prop)->Prop|[x],q=>∃n,q x n|_,_=>(λζ=>False) Nat.repr
def mA:V->List V->(Addr->List V->V->Prop)->Prop|.ref l,[y],q=>∃xs,q l xs y|_,_,_=>(λζ=>False) Nat.repr
def mJ:List V->(Int->Prop)->Prop|[.int j],q=>q j|_,_=>(λζ=>False) Nat.repr
def mV.ex{o:Option (Option V)}{q:V->Prop}(h:mV o q):∃v,o=some (some v)/\q v:=by
 unfold mV at h;split at h;exact⟨_,rfl,h⟩;exact False.elim h
variable {x:V}
def mB.ex{q:Bool->Prop}(h:mB x q):∃c,x=.bl c/\q c:=by
 unfold mB at h;split at h;exact⟨_,rfl,h.2⟩;exact False.elim h
def mI.ex{q:Int->Prop}(h:mI x q):∃i,x=.int i/\q i:=by
 unfold mI at h;split at h;exact⟨_,rfl,h⟩;exact False.elim h
def ID.ex{y:V}{q:Int->Int->Prop}(h:ID x y q):∃i j,x=.int i/\y=.int j/\q i j:=by
 unfold ID at h;split at h;exact⟨_,_,rfl,rfl,h⟩;exact False.elim h
def mR.ex{q:Addr->Prop}(h:mR x q):∃a,x=.ref a/\q a:=by
 unfold mR at h;split at h;exact⟨_,rfl,h⟩;exact False.elim h
def mT.ex{q:Addr->List V->Prop}(h:mT x q):∃a xs,x=.ref a/\q a xs:=by
 unfold mT at h;split at h;exact⟨_,h.choose,rfl,h.choose_spec⟩;exact False.elim h
def mX.ex{y:V}{q:Addr->List V->Int->V->Prop}(h:mX x y q):∃p xs i v,x=.ref p/\y=.int i/\q p xs i v:=by
 unfold mX at h;split at h;obtain⟨xs,v,h⟩:=h;exact⟨_,xs,_,v,rfl,rfl,h⟩;exact False.elim h
variable {vs:List V}
def mC.ex{q:V->List V->Prop}(h:mC vs q):∃v r,vs=v::r/\q v r:=by
 unfold mC at h;split at h;exact⟨_,_,rfl,h⟩;exact False.elim h
def mN.ex{q:Prop}(h:mN vs q):vs=[]/\q:=by
 unfold mN at h;split at h;exact⟨rfl,h⟩;exact False.elim h
def mL.ex{q:V->Nat->Prop}(h:mL vs q):∃x n,vs=[x]/\q x n:=by
 unfold mL at h;split at h;exact⟨_,h.choose,rfl,h.choose_spec⟩;exact False.elim h
def mA.ex{q:Addr->List V->V->Prop}(h:mA x vs q):∃l xs y,x=.ref l/\vs=[y]/\q l xs y:=by
 unfold mA at h;split at h;exact⟨_,h.choose,_,rfl,rfl,h.choose_spec⟩;exact False.elim h
def mJ.ex{q:Int->Prop}(h:mJ vs q):∃j,vs=[.int j]/\q j:=by
 unfold mJ at h;split at h;exact⟨_,rfl,h⟩;exact False.elim h
def B5 (i:Nat):TE:=λσ H Q=>mV σ[i]? λv=>Q v H
def tC (v:V):TE:=λζ H Q=>Q v H
variable {L:Pos}
def Lg{i:Nat}{x:Str}(g:X.N[i]?=some x)(hv:Pt X.env.scope x)(hd:(x==("__debug__" : Str))=false:=by decide)(o:(x==("__classdict__" : Str))=false:=by decide):PE X (.Name x L) (B5 i):=by
 intro p s σ H Q I h
 replace h:=mV.ex h
 obtain⟨v,e,h⟩:=h;obtain⟨m,j,k⟩:=I.loc;obtain⟨u,r,l⟩:=k i x v g e hv;have b:EP X p σ Q u s:=⟨v,H,I,r,h⟩;rcases l with⟨a,n⟩|⟨a,c,d,f⟩;exact wpAny_Name (wpAny_loadName_local I.ok.kind a j n b) hd;rcases a with a|a;exact wpAny_Name (wpAny_loadName_cell I.ok.kind a d f b) hd;exact wpAny_Name (wpAny_loadName_free I.ok.kind a d f b o) hd
def Ai{i j L}:PE X (.Constant (.int i) j L) (tC (.int i)):=λζ ζ ζ H ζ I h=>wpAny_Constant_int ⟨.int i,H,I.tok _,⟨_,rfl⟩,h⟩
def F7{b j L}:PE X (.Constant (.bool b) j L) (tC (.bl b)):=λζ ζ ζ H ζ I h=>Constant_bool ⟨.bl b,H,I,rfl,h⟩
def GR{j L}:PE X (.Constant .none j L) (tC .non):=λζ ζ ζ H ζ I h=>Constant_none ⟨.non,H,I,rfl,h⟩
def B6{x j L}:PE X (.Constant (.str x) j L) (tC (.str x)):=λζ ζ ζ H ζ I h=>Calls.Constant_str ⟨.str x,H,I.tok _,⟨_,rfl⟩,h⟩
def Gl (X:Cx) (x:Str):Prop:=X.env.kindOf x=some .globalImplicit
def UU{pins:B'}{σ:St}{x:Str}{u:Value}{Q:D'}(I:Inv X pins σ H s)(a:Gl X x)(b:X.mg x=some u)(h:Q u s)
 (hd:(x==("__debug__" : Str))=false:=by decide):wpAny (model X.prog X.w) X.A (eval (.Name x L) X.env) Q E s:=
 Calls.Name_function_global I.ok.kind a (Calls.loadGlobal_global (by rw[I.ok.glob];exact I.mod.glob.keeps I.bk) b h) hd
def IX{pins:B'}{σ:St}{x:Str}{u:Value}{Q:D'}(I:Inv X pins σ H s)(a:Gl X x)(b:X.mg x=none)(hv:bootBuiltins x=some u)(h:Q u s)
 (c:x ≠ "__name__" :=by decide) (hd:(x==("__debug__" : Str))=false:=by decide):wpAny (model X.prog X.w) X.A (eval (.Name x L) X.env) Q E s:=by
 obtain⟨f,d,e⟩:=I.mod.blt;exact Calls.Name_function_global I.ok.kind a (Calls.loadGlobal_builtin (by rw[I.ok.glob];exact I.mod.glob.keeps I.bk) b (by rw[I.ok.blt];exact d.keeps I.bk) ((e x c).trans hv) h) hd
def IY{x:Str}{v:V}{u:Value}(a:Gl X x)(b:X.mg x=some u)(r:RelV v u)(hd:(x==("__debug__" : Str))=false:=by decide):PE X (.Name x L) (tC v):=
 λζ ζ ζ H ζ I h=>UU I a b ⟨v,H,I,r,h⟩ hd
def IZ{x:Str}{v:V}{u:Value}(a:Gl X x)(b:X.mg x=none)(hv:bootBuiltins x=some u)(r:RelV v u)(c:x ≠ "__name__" :=by decide)(hd:(x==("__debug__" : Str))=false:=by decide):PE X (.Name x L) (tC v):=
 λζ ζ ζ H ζ I h=>IX I a b hv ⟨v,H,I,r,h⟩ c hd
variable {a b:Expr} {ta tb:TE} {L:Pos}
def PC (X:Cx) (op:CmpOp) (a b:Expr) (t:TE):Prop:=
 ∀(pins:B')(s:Shared)(σ:St)(H:Hp)(Q:VK),Inv X pins σ H s->t σ H Q ->
  wpAny (model X.prog X.w) X.A (eval a X.env) (λv s₁=>wpAny (model X.prog X.w) X.A (eval b X.env) (λu s₂=>wpAny (model X.prog X.w) X.A (compareOp op v u) (EP X pins σ Q) X.xe s₂) X.xe s₁) X.xe s
variable {op:CmpOp}
def UV(b:Expr)(h:op≠.In)(a:op≠.NotIn):behindInMarks op b=false:=by
 have c:(op==CmpOp.In)=false:=by cases op<;>first|rfl|exact absurd rfl h
 have d:(op==CmpOp.NotIn)=false:=by cases op<;>first|rfl|exact absurd rfl a
 cases b<;>simp[behindInMarks,c,d]
def NL (ta:TE):TE:=λσ H Q=>ta σ H λx Y=>Q (.bl (decide (x=.non))) Y
def Kx (ta:TE):TE:=λσ H Q=>ta σ H λx Y=>Q (.bl (!decide (x=.non))) Y
def RelV.none_iff{v:Value}(r:RelV x v):(v==Value.none)=decide (x=.non):=by
 cases x with
 |non=>cases r;rfl
 |bl _=>cases r;rfl
 |int _=>obtain⟨t,rfl⟩:=r;rfl
 |str _=>obtain⟨t,rfl⟩:=r;rfl
 |byt _=>obtain⟨t,rfl⟩:=r;rfl
 |flt _=>obtain⟨t,rfl⟩:=r;rfl
 |ref _=>cases r;rfl
 |ty _=>cases r;rfl
def Gy{j t}(b:PE X a ta):PC X .Is a (.Constant .none j t) (NL ta):=by
 intro f s σ H Q I h;refine AS (b f s σ H _ I h) λv g⟨x,Y,c,d,e⟩=>?_;exact Constant_none (is_none_gen ⟨.bl _,Y,c,by rw[d.none_iff];rfl,e⟩)
def NM{j t}(b:PE X a ta):PC X .IsNot a (.Constant .none j t) (Kx ta):=by
 intro f s σ H Q I h;refine AS (b f s σ H _ I h) λv g⟨x,Y,c,d,e⟩=>?_;exact Constant_none (isnot_none_gen ⟨.bl _,Y,c,by rw[d.none_iff];rfl,e⟩)
def tB (t:TE):TT:=λσ H Q=>t σ H λx Y=>mB x λc=>Q c Y
def RO{t:TE}(h:PC X op a b t)(c:behindInMarks op b=false:=by first|exact UV _ (by decide) (by decide)|rfl):PE X (.Compare a [op] [b] L) t:=λe s σ H Q I d=>wpAny_Compare1 (h e s σ H Q I d) c
def F8{t:TE}(h:PC X op a b t)(e:behindInMarks op b=false:=by first|exact UV _ (by decide) (by decide)|rfl):PT X (.Compare a [op] [b] L) (tB t):=by
 intro l s σ H Q I g;refine wpAny_isTrue_Compare1 (AS (h l s σ H _ I g) λv m e=>AS e λu n i=>AS i λc o⟨x,Y,j,k,f⟩=>?_) e
 replace f:=mB.ex f
 obtain⟨d,rfl,q⟩:=f;cases k;exact FI ⟨Y,j,q⟩
def Fn{t:TE}(h:PE X e t)(b:∀whole,isTrue e X.env whole=(do let v <-whole;standAt e.pos;holding [v] (truthy v)):=by intro _;rfl):PT X e (tB t):=by
 intro i s σ H Q I c;refine isTrue_plain (AS (h i s σ H _ I c) λv j⟨x,Y,f,g,a⟩=>?_) (b _)
 replace a:=mB.ex a
 obtain⟨d,rfl,q⟩:=a;cases g;exact FI ⟨Y,f,q⟩
variable {g tB':TT} {j:List Expr}
def NN (t u:TT):TT:=λσ H Q=>t σ H λc Y=>if c=true then u σ Y Q else Q false Y
def X7 (t u:TT):TT:=λσ H Q=>t σ H λc Y=>if c=true then Q true Y else u σ Y Q
def RP (t:TT):TT:=λσ H Q=>t σ H λc Y=>Q (!c) Y
def GS(b:PT X a g):PW X (.BoolOp .And [a] L) g:=by
 intro f d s σ H Q I h;refine isTrue_and (AS (b d s σ H Q I h) λc i e=>?_)
 cases c with
 |true=>exact isTrue_and_nil e
 |false=>exact e
def Lh(b:PT X a g):PW X (.BoolOp .Or [a] L) g:=by
 intro f d s σ H Q I h;refine isTrue_or (AS (b d s σ H Q I h) λc i e=>?_)
 cases c with
 |false=>exact isTrue_or_nil e
 |true=>exact e
def GU(i:PT X a g)(k:PW X (.BoolOp .And (b::j) L) tB'):PW X (.BoolOp .And (a::b::j) L) (NN g tB'):=by
 intro l f s σ H Q I h;refine isTrue_and (AS (i f s σ H _ I h) λc m⟨Y,d,e⟩=>?_)
 cases c with
 |true=>exact k l f m σ Y Q d e
 |false=>exact⟨Y,d,e⟩
def I0(i:PT X a g)(k:PW X (.BoolOp .Or (b::j) L) tB'):PW X (.BoolOp .Or (a::b::j) L) (X7 g tB'):=by
 intro l f s σ H Q I h;refine isTrue_or (AS (i f s σ H _ I h) λc m⟨Y,d,e⟩=>?_)
 cases c with
 |true=>exact⟨Y,d,e⟩
 |false=>exact k l f m σ Y Q d e
def IE(b:PT X a g):PT X (.UnaryOp .Not a L) (RP g):=by
 intro d s σ H Q I h;exact isTrue_not (b d s σ H (λc Y=>Q (!c) Y) I h)
def NO (ta tb:TE):TE:=λσ H Q=>ta σ H λx Y=>∃c,x=.bl c/\if c=true then tb σ Y Q else Q (.bl false) Y
def NP (ta:TE):TE:=λσ H Q=>ta σ H λx Y=>∃c,x=.bl c/\Q (.bl (!c)) Y
def RQ{op}{t:TE}(h:PE X a t):PE X (.BoolOp op [a] L) t:=λc s σ H Q I b=>BoolOp_one (h c s σ H Q I b)
def Pu(g:PE X a ta)(i:PE X (.BoolOp .And (b::j) L) tb):PE X (.BoolOp .And (a::b::j) L) (NO ta tb):=by
 intro f s σ H Q I h;refine BoolOp_and (AS (g f s σ H _ I h) λv k⟨x,Y,e,l,d⟩=>?_);obtain⟨c,rfl,d⟩:=d;cases l;refine FI ?_
 cases c with
 |true=>exact i f k σ Y Q e d
 |false=>exact⟨.bl false,Y,e,rfl,d⟩
def Li(d:PE X a ta):PE X (.UnaryOp .Not a L) (NP ta):=by
 intro g s σ H Q I h;refine UnaryOp_ (AS (d g s σ H _ I h) λv i⟨x,Y,e,f,b⟩=>?_);obtain⟨c,rfl,b⟩:=b;cases f;exact not_of (FI ⟨.bl (!c),Y,e,rfl,b⟩)
def UW (t:TT) (ta tb:TE):TE:=λσ H Q=>t σ H λc Y=>if c=true then ta σ Y Q else tb σ Y Q
def X8{c:Expr}(k:PT X c g)(l:PE X a ta)(m:PE X b tb):PE X (.IfExp c a b L) (UW g ta tb):=by
 intro e s σ H Q I h;refine wpAny_IfExp (AS (k e s σ H _ I h) λd f⟨Y,i,j⟩=>?_)
 cases d with
 |true=>exact l e f σ Y Q i j
 |false=>exact m e f σ Y Q i j
end
def Ae (K:Ah) (H:Hp) (a:Addr) (xs:List V):Prop:=
 Rd H a (.lst xs) \/
  ∃(o:Obj)(its:Array Value)(n:Nat),K.lookup a=some o/\o.cls=.type "list" /\ o.dict=none/\o.data=.seq its n/\its.size<=sizeLine/\As xs its.toList
def Ap (K:Ah) (H:Hp) (a:Addr) (xs:List V):Prop:=
 Rd H a (.tup xs) \/
  ∃(o:Obj)(its:Array Value)(n:Nat),K.lookup a=some o/\o.cls=.type "tuple" /\ o.data=.seq its n/\its.size<=sizeLine/\As xs its.toList
def RS:Value->Option V
 |.none=>some .non
 |.bool b=>some (.bl b)
 |.int i _=>some (.int i)
 |.str x _=>some (.str x)
 |.bytes b _=>some (.byt b)
 |.float b _=>some (.flt b)
 |.ref a=>some (.ref a)
 |.type n=>some (.ty n)
 |_=>none
variable {x:V}
def RelV.abs{u:Value}(r:RelV x u):RS u=some x:=by
 cases x with
 |non=>cases r;rfl
 |bl _=>cases r;rfl
 |int _=>obtain⟨t,rfl⟩:=r;rfl
 |str _=>obtain⟨t,rfl⟩:=r;rfl
 |byt _=>obtain⟨t,rfl⟩:=r;rfl
 |flt _=>obtain⟨t,rfl⟩:=r;rfl
 |ref _=>cases r;rfl
 |ty _=>cases r;rfl
def RelV.inj{y:V}{u:Value}(r:RelV x u)(q:RelV y u):x=y:=AO (r.abs.symm.trans q.abs)
theorem As.inj:∀{xs ys:List V}{us:List Value},As xs us->As ys us->xs=ys
 |_,_,_,.nil,.nil=>rfl
 |_,_,_,.cons r t,.cons a t'=>by rw[r.inj a,As.inj t t']
section
variable {X:Cx} {pins:B'} {σ:St} {H:Hp} {s:Shared} {a:Addr} {xs ys:List V}
def Ae.of{K:Ah}(h:H a=some (.lst xs)):Ae K H a xs:=.inl (.inl h)
def Ap.of{K:Ah}(h:H a=some (.tup xs)):Ap K H a xs:=.inl (.inl h)
def Inv.list(I:Inv X pins σ H s)(h:Ae X.K H a xs):∃b:List Value,As xs b/\PlainL s.heap a b.toArray/\xs.length<=sizeLine:=by
 rcases h with h|⟨o,b,n,c,d,hd,f,g,r⟩;obtain⟨z,b,n,r,e⟩:=h.ok I.hok;exact⟨b,r,⟨_,n,e,rfl,rfl,rfl⟩,z⟩;refine⟨b.toList,r,⟨o,n,I.kIn a o c,d,hd,by simpa using f⟩,?_⟩;have e:=r.length;simp only[Array.length_toList] at e;lia
def Inv.tuple(I:Inv X pins σ H s)(h:Ap X.K H a xs):∃b:List Value,As xs b/\IsTup s.heap a b.toArray/\xs.length<=sizeLine:=by
 rcases h with h|⟨o,b,n,c,d,f,g,r⟩;obtain⟨z,b,r,p⟩:=h.ok I.hok;exact⟨b,r,p,z⟩;refine⟨b.toList,r,⟨o,I.kIn a o c,d,n,by simpa using f⟩,?_⟩;have e:=r.length;simp only[Array.length_toList] at e;lia
def Inv.list_inj(I:Inv X pins σ H s)(h:Ae X.K H a xs)(h':Ae X.K H a ys):xs=ys:=by
 obtain⟨i,r,⟨o,n,e,_,_,d⟩,_⟩:=I.list h;obtain⟨j,f,⟨k,l,b,_,_,c⟩,_⟩:=I.list h';rw[e] at b;cases b;rw[d] at c;injection c with g _;have:i=j:=(by simpa using BJ Array.toList g);subst this;exact r.inj f
def Inv.tuple_inj(I:Inv X pins σ H s)(h:Ap X.K H a xs)(h':Ap X.K H a ys):xs=ys:=by
 obtain⟨i,r,⟨o,e,_,n,d⟩,_⟩:=I.tuple h;obtain⟨j,f,⟨k,b,_,l,c⟩,_⟩:=I.tuple h';rw[e] at b;cases b;rw[d] at c;injection c with g _;have:i=j:=(by simpa using BJ Array.toList g);subst this;exact r.inj f
end
abbrev Cx.wish (X:Cx) (E:D'):Cx:={X with xe:=E}
abbrev Cx.nox (X:Cx):Cx:=X.wish λζ ζ=>False
def Cx.Ok.wish{X:Cx}(ok:X.Ok)(E:D'):(X.wish E).Ok:=
 ⟨ok.mod,ok.kind,ok.glob,ok.blt,ok.above,ok.inj,ok.has,ok.cab,ok.hd,ok.frames,ok.stk,ok.exf,ok.bs,ok.bsz,ok.noex,ok.exfs,ok.funs,ok.frf⟩
def Cx.Ok.unwish(ok:(X.wish E).Ok):X.Ok:=
 ⟨ok.mod,ok.kind,ok.glob,ok.blt,ok.above,ok.inj,ok.has,ok.cab,ok.hd,ok.frames,ok.stk,ok.exf,ok.bs,ok.bsz,ok.noex,ok.exfs,ok.funs,ok.frf⟩
section
variable {X:Cx} {pins:B'} {σ:St} {H:Hp} {s:Shared} {E:D'}
def Inv.wish(I:Inv X pins σ H s)(E:D'):Inv (X.wish E) pins σ H s:=⟨I.ok.wish E,I.os,I.bare,I.base,I.loc,I.cell,I.free,I.freeC,I.pin,I.hok,I.len⟩
def Inv.unwish(I:Inv (X.wish E) pins σ H s):Inv X pins σ H s:=⟨I.ok.unwish,I.os,I.bare,I.base,I.loc,I.cell,I.free,I.freeC,I.pin,I.hok,I.len⟩
def SP.unwish{D:Ends}{f:Flow}{Z:Shared}(h:SP (X.wish E) pins D f Z):SP X pins D f Z:=by
 cases f with
 |next=>obtain⟨σ',a,I,q⟩:=h;exact⟨σ',a,I.unwish,q⟩
 |brk=>obtain⟨σ',a,I,q⟩:=h;exact⟨σ',a,I.unwish,q⟩
 |cont=>obtain⟨σ',a,I,q⟩:=h;exact⟨σ',a,I.unwish,q⟩
 |ret u=>obtain⟨v,σ',a,I,r,q⟩:=h;exact⟨v,σ',a,I.unwish,r,q⟩
def Gm.nox{st:List Stmt}{t:TS}(h:Gm X.nox st t):Gm X st t:=λpins s σ H D I a =>
 FP (h pins s σ H D (I.wish _) a) (λζ ζ q=>q.unwish) λζ ζ z=>False.elim z
end
section
variable {X:Cx} {st:Stmt} {j:List Stmt} {t u:TS} {e:Expr} {te:TE} {L:Pos}
def Ky:TS:=λD σ H=>D.nx σ H
def Lj (t u:TS):TS:=λD σ H=>(λζ=>t {D with nx:=u D} σ H) Nat.repr
def Bm:Gm X [] Ky:=λζ ζ σ H ζ I h=>wpAny_execs_nil ⟨σ,H,I,h⟩
def Ao(b:PS X st t)(c:Gm X j u):Gm X (st::j) (Lj t u):=by
 intro a s σ H D I h;refine wpAny_execs_cons (AS (b a s σ H {D with nx:=u D} I h) λf d q=>?_)
 cases f with
 |next =>
   obtain⟨σ',e,g,q⟩:=q;exact c a d σ' e D g q
 |ret v=>exact q
 |brk=>exact q
 |cont=>exact q
def At(a:PS X st t):Gm X [st] t:=by
 intro b s σ H D I h;refine wpAny_execs_cons (AS (a b s σ H D I h) λf c q=>?_)
 cases f with
 |next=>exact wpAny_execs_nil q
 |ret v=>exact q
 |brk=>exact q
 |cont=>exact q
def Inv.quiet{pins:B'}{σ:St}(I:Inv X pins σ H s):interactive X.env=false:=by simp[interactive,I.ok.kind]
def NQ (te:TE):TS:=λD σ H=>te σ H λζ Y=>D.nx σ Y
def Db(a:PE X e te)(b:swapsWith e none L.line X.env=pure false:=by rfl):PS X (.Expr e L) (NQ te):=by
 intro f s σ H D I h;exact wpAny_Expr_any (AS (a f s σ H _ I h) λv g⟨x,Y,c,i,d⟩=>⟨σ,Y,c,d⟩) I.quiet b
def RU (te:TE):TS:=λD σ H=>te σ H D.rt
def AW(a:PE X e te):PS X (.Return (some e) L) (RU te):=by
 intro f s σ H D I h;exact wpAny_Return_some (AS (a f s σ H _ I h) λv g⟨x,Y,b,c,d⟩=>⟨x,σ,Y,b,c,d⟩)
def RV (c:TT) (t u:TS):TS:=λD σ H=>c σ H λb Y=>if b=true then t D σ Y else u D σ Y
def Bj{c:Expr}{a b:List Stmt}{tc:TT}(j:PT X c tc)(k:Gm X a t)(l:Gm X b u):PS X (.If c a b L) (RV tc t u):=by
 intro e s σ H D I h;refine wpAny_If (AS (j e s σ H _ I h) λd f⟨Y,g,i⟩=>?_)
 cases d with
 |true=>exact k e f σ Y D g i
 |false=>exact l e f σ Y D g i
def Ll:TS:=λζ ζ ζ=>False
def X9:PS X st Ll:=λζ ζ ζ ζ ζ ζ h=>h.elim
end
abbrev TG:=V->St->Hp->(St->Hp->Prop)->Prop
abbrev Lm:=List V->St->Hp->(St->Hp->Prop)->Prop
def PG (X:Cx) (target:Expr) (t:TG):Prop:=
 ∀(pins:B')(s:Shared)(σ:St)(H:Hp)(v:V)(u:Value)(Q:St->Hp->Prop),Inv X pins σ H s->RelV v u->t v σ H Q ->
  wpAny (model X.prog X.w) X.A (assign target X.env u) (λζ Z=>∃σ' H',Inv X pins σ' H' Z/\Q σ' H') X.xe s
def NR (X:Cx) (ts:List Expr) (t:Lm):Prop:=
 ∀(pins:B')(s:Shared)(σ:St)(H:Hp)(vs:List V)(us:List Value)(Q:St->Hp->Prop),Inv X pins σ H s->As vs us->t vs σ H Q ->
  wpAny (model X.prog X.w) X.A (assignInOrder ((assignEach ts X.env).map (·.2)) us) (λζ Z=>∃σ' H',Inv X pins σ' H' Z/\Q σ' H') X.xe s
abbrev Ln:=V->V->V->Hp->(Hp->Prop)->Prop
def I7 (X:Cx) (t:Ln):Prop:=
 ∀(pins:B')(s:Shared)(σ:St)(H:Hp)(o i v:V)(ov iv u:Value)(Q:Hp->Prop),Inv X pins σ H s->RelV o ov->RelV i iv->RelV v u->t o i v H Q ->
  wpAny (model X.prog X.w) X.A (setItem ov iv u) (λζ Z=>∃H',Inv X pins σ H' Z/\Q H') X.xe s
abbrev RW:=V->V->Hp->VK->Prop
def Yb (X:Cx) (op:Operator) (t:RW):Prop:=
 ∀(pins:B')(s:Shared)(σ:St)(H:Hp)(x y:V)(v u:Value)(Q:VK),Inv X pins σ H s->RelV x v->RelV y u->t x y H Q ->
  wpAny (model X.prog X.w) X.A (inplaceOp op v u) (EP X pins σ Q) X.xe s
section
variable {X:Cx} {L:Pos}
def Kz (i:Nat):TG:=λv σ H Q=>Q (σ.set i (some v)) H
variable {i:Nat}
def AA{x:Str}(a:X.N.Nodup)(b:X.N[i]?=some x:=by rfl)(c:Loc X.env.scope x:=by first|exact .inl rfl|exact .inr rfl)(d:X.fn x=true\/X.env.scope.names.lookup x=some .local:=by first|exact .inl rfl|exact .inr rfl|assumption):PG X (.Name x L) (Kz i):=by
 intro f s σ H v u Q I r h;exact wpAny_assign_Name (RN I a b c r (λZ e=>⟨_,H,e,h⟩) d)
def NS:Lm:=λvs σ H Q=>mN vs (Q σ H)
def Hk (t:TG) (u:Lm):Lm:=λvs σ H Q=>mC vs λv r=>t v σ H λσ' H'=>u r σ' H' Q
def Cp:NR X [] NS:=by
 intro c s σ H a b Q I r h
 replace h:=mN.ex h
 obtain⟨e,h⟩:=h;subst e;cases r;exact assignInOrder_nil ⟨σ,H,I,h⟩
def AI{es:List Expr}{t:TG}{u:Lm}(b:PG X e t)(c:NR X es u)
 (d:(assignEach (e::es) X.env).map (·.2)=assign e X.env::(assignEach es X.env).map (·.2):=by rfl):NR X (e::es) (Hk t u):=by
 intro a s σ H l m Q I r h
 replace h:=mC.ex h
 obtain⟨v,n,f,h⟩:=h;subst f
 cases r with
 |cons r g =>
   rw[d];refine assignInOrder_cons (AS (b a s σ H _ _ _ I r h) λ_ i⟨σ1,Y,j,k⟩=>?_);exact c a i σ1 Y _ _ Q j g k
def NT (K:Ah) (n:Nat) (t:Lm):TG:=λv σ H Q=>mT v λa xs=>Ap K H a xs/\xs.length=n/\t xs σ H Q
def Cq{es:List Expr}{k:Nat}{t:Lm}{n:Nat}(g:X.calm=true)(h:NR X es t)
 (i:(assignEach es X.env).length=n:=by rfl) (z:(assignEach es X.env).findIdx? (·.1)=none:=by rfl):PG X (.Tuple es k L) (NT X.K n t):=by
 intro f s σ H v u Q I r c
 replace c:=mT.ex c
 obtain⟨a,j,l,m,p,c⟩:=c;subst l;cases r;obtain⟨B,d,q,A⟩:=I.tuple m;refine assign_Tuple_tuple (I.ok.hd g) q (by simp[i,<-p,d.length]) z λw x=>?_;have y:Inv X f σ H {s with heap:=w}:=I.kept (t':=s.toks) λb o e=>x b o (CU (A5 e)) e;exact h f _ σ H j _ Q y (by simpa using d) c
def RX (c ti:TE) (t:Ln):TG:=λv σ H Q=>c σ H λo Y=>ti σ Y λi H2=>t o i v H2 λH3=>Q σ H3
def Pw{o i:Expr}{c e:TE}{t:Ln}(f:PE X o c)(g:PE X i e)(j:I7 X t)
 (k:∀v,assign (.Subscript o i L) X.env v=(do
  let a <-holding [v] (eval o X.env)
  let b <-holding [v,a] (eval i X.env)
  standAt L
  holding [v,a,b] (setItem a b v)
  release [v,a,b] []):=by intro _;rfl):PG X (.Subscript o i L) (RX c e t):=by
 intro d s σ H v u Q I r h;rw[k];refine Ad (Fl (AS (f d s σ H _ I h) λa l⟨x,Y,m,n,p⟩=>?_));refine Ad (Fl (AS (g d l σ Y _ m p) λb q⟨y,w,z,A,B⟩=>?_));refine Ad (wpAny_standAt (Ad (Fl (AS (j d q σ w x y v a b u _ z n A r B) λ_ F⟨C,D,E⟩=>?_))));exact wpAny_release ⟨σ,C,D,E⟩
def Ja (te:TE) (g:TG):TS:=λD σ H=>(λζ=>te σ H λx Y=>g x σ Y D.nx) Nat.repr
variable {te:TE}
def Eb{a:Expr}{g:TG}(c:PE X e te)(d:PG X a g)(f:swapsWithSole [a] e L.line X.env=pure false:=by rfl)(i:swappedStores [a] e X.env=pure none:=by rfl)
 (j:(assignEach [a] X.env).map (·.2)=[assign a X.env]:=by rfl):PS X (.Assign [a] e L) (Ja te g):=by
 intro b s σ H D I h;refine wpAny_Assign_stores (AS (c b s σ H _ I h) λv k⟨x,Y,l,m,n⟩=>?_) f i;rw[j];exact AS (d b k σ Y x v _ l m n) λζ o q=>q
def AX{x:Str}{t:Pos}(a:X.N.Nodup)(b:PE X e te)(c:X.N[i]?=some x:=by rfl)(d:Loc X.env.scope x:=by first|exact .inl rfl|exact .inr rfl)(f:swapsWith e (some (.Name x t)) L.line X.env=pure false:=by rfl)(g:X.fn x=true\/X.env.scope.names.lookup x=some .local:=by first|exact .inl rfl|exact .inr rfl|assumption) :
 PS X (.Assign [.Name x t] e L) (Ja te (Kz i)):=by
 intro n s σ H D I h;refine wpAny_Assign_Name (AS (b n s σ H _ I h) λv o⟨y,Y,j,k,l⟩=>?_) f;exact RN j a c d k (λp m=>⟨_,Y,m,l⟩) g
def NU (i:Nat) (te:TE) (ti:RW):TS:=λD σ H=>∃x,σ[i]?=some (some x)/\te σ H λy Y=>ti x y Y λz H2=>D.nx (σ.set i (some z)) H2
def Lo{x:Str}{op:Operator}{f:RW}{t:Pos}(j:X.N.Nodup)(g:X.N[i]?=some x)(b:Loc X.env.scope x)(n:PE X e te)(o:Yb X op f)(p:X.fn x=true\/X.env.scope.names.lookup x=some .local:=by first|exact .inl rfl|exact .inr rfl|assumption) :
 PS X (.AugAssign (.Name x t) op e L) (NU i te f):=by
 intro d s σ H D I h;obtain⟨v,q,h⟩:=h;obtain⟨m,A,B⟩:=I.loc;have T:Pt X.env.scope x:=by rcases b with k|k;exact .inl k;exact .inr (.inl k)
 obtain⟨u,r,l⟩:=B i x v g q T;refine wpAny_AugAssign_Name ?_
 have go:wpAny (model X.prog X.w) X.A (eval e X.env) (λw C=>wpAny (model X.prog X.w) X.A (inplaceOp op u w) (λr E=>wpAny (model X.prog X.w) X.A (storeName X.env x r) (λζ=>SP X d D .next) X.xe E) X.xe C) X.xe s:=by
  refine AS (n d s σ H _ I h) λw F⟨y,Y,G,J,K⟩=>?_;refine AS (o d F σ Y v y u w _ G r J K) λz V⟨W,M,N,O,P⟩=>?_;exact RN N j g b O (λZ Q=>⟨_,M,Q,P⟩) p
 rcases l with⟨a,R⟩|⟨a,c,S,U⟩;exact wpAny_loadName_local I.ok.kind a A R go;rcases a with a|a;exact wpAny_loadName_cell I.ok.kind a S U go;rcases b with k|k;have:X.env.scope.names.lookup x=some .free:=a;rw[k] at this;cases this;have:X.env.scope.names.lookup x=some .free:=a;rw[k] at this;cases this
end
section
variable {X:Cx} {L:Pos}
def Lp (c:TT) (tb:TS):TS:=λD σ H=>∃W:Nat->St->Hp->Prop,(∃m,W m σ H)/\∀m σ H,W m σ H ->
 c σ H λb Y=>if b=true then ∃N:St->Hp->Prop,(∀σ' H',N σ' H'->∃m',m'<m/\W m' σ' H')/\tb {D with nx:=N,ct:=N,bk:=D.nx} σ Y else D.nx σ Y
def UX{c:Expr}{body:List Stmt}{tc:TT}{tb:TS}(o:PassesOwn (model X.prog X.w) X.A X.env X.xe)(u:PT X c tc)(w:Gm X body tb):PS X (.While c body [] L) (Lp tc tb):=by
 intro m s σ H D I h;obtain⟨W,⟨x,y⟩,turn⟩:=h;refine wpAny_While (codeAny_whileLoop (λn Z=>∃σ' p,Inv X m σ' p Z/\W n σ' p) ?_ x ⟨σ,H,I,y⟩);rintro n z ⟨σ1,Y,A,B⟩;refine wpAny_passesOwn o (AS (u m z σ1 Y _ A (turn n σ1 Y B)) λb C⟨q,r,d⟩=>?_)
 cases b with
 |true =>
   obtain⟨N,t,d⟩:=d;rw[Al rfl];refine wpAny_passesOwn o (AS (w m C σ1 q _ r d) λf E e=>?_)
   cases f with
   |next =>
     obtain⟨σ3,a,g,i⟩:=e;obtain⟨j,k,l⟩:=t σ3 a i;exact⟨j,k,σ3,a,g,l⟩
   |cont =>
     obtain⟨σ3,a,g,i⟩:=e;obtain⟨j,k,l⟩:=t σ3 a i;exact⟨j,k,σ3,a,g,l⟩
   |brk=>exact e
   |ret v=>exact e
 |false =>
   rw[Ak Cz];exact wpAny_execs_nil ⟨σ1,q,r,d⟩
end
structure It where
 go:Nat->Hp->Prop
 yld:Nat->Hp->V->Hp->Prop
 stop:Nat->Hp->Prop
def Ec (X:Cx) (pins:B') (H:Hp) (b:Addr):Prop:=
 H b=none/\b≠X.env.locals/\b∉X.fs/\(b∈X.ex\/X.s₀.heap.objs.size<=b)/\(∀x c,X.env.cells.lookup x=some c->c≠b)/\∀p∈X.pn++pins,p.1≠b
variable {pins:B'}{σ:St}
def Inv.fpOk{H':Hp}(I:Inv X pins σ H s)(a:s.heap.objs.size<=b)(d:H' b=none):Ec X pins H' b:=by
 refine⟨d,Nat.ne_of_gt (FO I.lt a),I.nofs a,.inr (Em I.sz a),λx c e z=>?_,λp f z=>?_⟩;obtain⟨v,q⟩:=I.cell x c e;exact absurd (FO q.lt (by rw[z];exact a)) (Gi _);exact absurd (FO (A5 (I.pin p f).1) (by rw[z];exact a)) (Gi _)
structure Fo (P:Program) (w:World) (K:Ah) (tg:Expr) (J:It) (fp:List Addr) (it:Addr) (tn:Nat->Heap->Prop):Prop where
 mem:it∈fp
 obj:∀i h,tn i h->∀b∈fp,∃o,h.get? b=some o/\∀v,o.data≠.cell v
 keep:∀i h h',tn i h->(∀b∈fp,∀o,h.get? b=some o->h'.get? b=some o)->tn i h'
 item:∀(X:Cx),X.prog=P->X.w=w->X.K=K->X.calm=true->∀(i:Nat)(pins:B')(s:Shared)(σ:St)(H:Hp)(E:D'),Inv X pins σ H s->(∀b∈fp,Ec X pins H b)->tn i s.heap->J.go i H ->
  wpAny (model P w) X.A (pyNext (.ref it)) (λr s1=>∃u,r=some u /\
   wpAny (model P w) X.A (letOwnedTupleGo tg (.ref it) u) (λζ s2=>∃x H',Inv X pins σ H' s2/\RelV x u/\J.yld i H x H'/\tn (i+1) s2.heap/\∀b∈fp,H' b=none) E s1) E s
 done:∀(X:Cx),X.prog=P->X.w=w->X.K=K->X.calm=true->∀(i:Nat)(pins:B')(s:Shared)(σ:St)(H:Hp)(E:D'),Inv X pins σ H s->(∀b∈fp,Ec X pins H b)->tn i s.heap->J.stop i H ->
  wpAny (model P w) X.A (pyNext (.ref it)) (λr s1=>r=none/\Inv X pins σ H s1) E s
 self:∀(A:Around)(i:Nat)(s:Shared)(Q:D')(E:D'),tn i s.heap->Q (.ref it) s->wpAny (model P w) A (pyIter (.ref it)) Q E s
abbrev TI:=St->Hp->(It->Hp->Prop)->Prop
def UY (X:Cx) (pins:B') (σ:St) (tg:Expr) (R:It->Hp->Prop) (itv:Value) (s2:Shared):Prop:=
 ∃(it:Addr)(fp:List Addr)(tn:Nat->Heap->Prop)(J:It)(H':Hp),itv=.ref it/\Inv X pins σ H' s2/\Fo X.prog X.w X.K tg J fp it tn/\tn 0 s2.heap/\(∀b∈fp,Ec X pins H' b)/\R J H'
def PI (X:Cx) (tg j:Expr) (wi:TI):Prop:=
 ∀(pins:B')(s:Shared)(σ:St)(H:Hp)(R:It->Hp->Prop),Inv X pins σ H s->wi σ H R ->
  wpAny (model X.prog X.w) X.A (eval j X.env) (λv s1=>wpAny (model X.prog X.w) X.A (pyIter v) (UY X pins σ tg R) X.xe s1) X.xe s
variable {tg:Expr}
def Hl{M:Model}{b:Addr}{u:Value}{o:Obj}{n:String}{vs:Array Value}{Q:Unit->Shared->Prop}(c:s.heap.get? b=some o)(d:o.cls=.type n)(hd:o.data=.fields vs)
 (e:["enumerate", "zip", "dict_itemiterator", "dict_reverseitemiterator", "odict_iterator", "itertools.zip_longest", "itertools.pairwise"].contains n=false) (a:Q () s):wpAny M A (letOwnedTupleGo tg (.ref b) u) Q E s:=by
 unfold letOwnedTupleGo
 cases tg<;>first
  |exact Aw a
  |(cases u<;>first
   |exact Aw a
   | (refine Ad (wpAny_load c ?_)
      rw[d,hd]
      show wpAny M A (if(["enumerate", "zip", "dict_itemiterator", "dict_reverseitemiterator", "odict_iterator", "itertools.zip_longest", "itertools.pairwise"].contains n && vs[0]?==some (rawInt _))=true then _ else _) Q E s
      rw[Ak (by intro h;rw[e,Bool.false_and] at h;cases h)]
      exact Aw a))
def Gz (K:Ah) (a:Addr):It:=
 ⟨λi H=>∃xs x,Ae K H a xs/\xs[i]?=some x,λi H x H'=>H'=H/\∀xs,Ae K H a xs->xs[i]?=some x,λi H=>∃xs,Ae K H a xs/\xs.length<=i⟩
def IF (lo:Int) (n:Nat):It:=⟨λi ζ=>i<n,λi H x H'=>H'=H/\x=.int (lo+i),λi ζ=>n<=i⟩
theorem Yc{K:Ah}(a g:Addr):Fo P w K tg (Gz K a) [g] g (λi h=>h.IsListIter g a i) where
 mem:=by simp
 obj:=λi h f b j=>by
  have e:b=g:=(by simpa using j);subst e;obtain⟨o,e,c,d⟩:=f;exact⟨o,e,λv z=>by rw[d] at z;cases z⟩
 keep:=λi h l f k=>f.at λo e=>k g (by simp) o e
 item:=by
  intro X q r t L i pins s σ H E I m f y;subst q r t;obtain⟨N,x,n,A⟩:=y;obtain⟨Y,B,p,O⟩:=I.list n;obtain⟨u,Q,R⟩:=B.get A;obtain⟨C,D,S,F,G,J⟩:=m g (by simp);refine wpAny_pyNext_list_item f p.isList (x:=u) (by simpa using Q) λl M T=>?_;have U:Inv X pins σ H {s with heap:=l}:=I.turned (t':=s.toks) (λb o j e=>(T.2 b j).trans e) C D F G J;obtain⟨o,e,c,d⟩:=id M;exact⟨u,rfl,Hl (s:={s with heap:=l}) e c d (by decide) ⟨x,H,U,R,⟨rfl,λZ V=>by rw[I.list_inj V n];exact A⟩,M,λb j=>(m b j).1⟩⟩
 done:=by
  intro X q r t L i pins s σ H E I m f y;subst q r t;obtain⟨N,n,A⟩:=y;obtain⟨Y,B,p,O⟩:=I.list n;obtain⟨C,D,S,F,G,J⟩:=m g (by simp);have hl:=B.length;exact wpAny_pyNext_list_end (I.ok.hd L) f p.isList (by simp;lia) λl W=>⟨rfl,I.turned (t':=s.toks) (λb o j e=>W b o j e) C D F G J⟩
 self:=λζ ζ ζ ζ ζ f h=>wpAny_pyIter_listiter f h
def Yd{K:Ah}(c:Addr)(lo:Int)(n:Nat):Fo P w K tg (IF lo n) [c] c (λi h=>IsRangeIter h c (lo+(i:Nat)*1) ((n:Int)-(i:Nat)) 1) where
 mem:=by simp
 obj:=λi h a b d=>by
  have e:b=c:=(by simpa using d);subst e
  exact⟨_,a,λv z=>by
   have C:Data.fields _=Data.cell v:=z
   cases C⟩
 keep:=λi h f a k=>k c (by simp) _ a
 item:=by
  intro X j l m p i pins s σ H E I g a q;subst j l m;obtain⟨r,u,D,x,y,A⟩:=g c (by simp);have W:=Walks.range (prog:=X.prog) (w:=X.w) (I.ok.hd p) c lo 1 n;refine W.item i s _ _ q a λv f tk F B G=>?_;obtain⟨t,rfl⟩:=F;have J:Inv X pins σ H {s with heap:=f,toks:=tk}:=I.turned (λb o d e=>G b o (by simpa using d) e) r u x y A;refine⟨_,rfl,Hl (s:={s with heap:=f,toks:=tk}) (n:= "range_iterator") B rfl rfl (by decide) ⟨.int (lo+i),H,J,⟨t,?_⟩,⟨rfl,rfl⟩,B,λb d=>(g b d).1⟩⟩;rw[Int.mul_one]
 done:=by
  intro X j l m p i pins s σ H E I g a q;subst j l m;obtain⟨r,u,D,x,y,A⟩:=g c (by simp);exact wpAny_pyNext_range_end (I.ok.hd p) a (by have:n<=i:=q;lia) λf L=>⟨rfl,I.turned (t':=s.toks) (λb o d e=>L b o d e) r u x y A⟩
 self:=λζ ζ ζ ζ ζ a h=>wpAny_pyIter_rangeiter a h
section
variable {X:Cx} {tg:Expr}
def NV (K:Ah) (tl:TE):TI:=λσ H R=>tl σ H λx Y=>mR x λa=>(∃xs,Ae K Y a xs)/\R (Gz K a) Y
def Dk{l:Expr}{g:TE}(i:PE X l g):PI X tg l (NV X.K g):=by
 intro pins s σ H R I h;refine AS (i pins s σ H _ I h) λv c⟨x,Y,d,j,f⟩=>?_
 replace f:=mR.ex f
 obtain⟨a,e,⟨n,k⟩,q⟩:=f;subst e;cases j;obtain⟨u,r,p,t⟩:=d.list k;refine wpAny_pyIter_list p.isList ?_;refine⟨c.heap.objs.size,[c.heap.objs.size],_,_,Y,rfl,d.kept (t':=c.toks) λb o e=>Be _ e,Yc a _,⟨_,B9 _ rfl,rfl,rfl⟩,λb m=>?_,q⟩;have e:b=c.heap.objs.size:=(by simpa using m);subst e;exact d.fpOk (AD _) (d.hok.fresh (AD _))
def UZ{R:It->Hp->Prop}{lo a:Int}{t u v:Tok}{tk:Nat}(I:Inv X pins σ H s)(d:-(2 ^ 62)<=lo)(f:lo<2 ^ 62)(g:-(2 ^ 62)<=a)(h:a<2 ^ 62)
 (q:R (IF lo (a-lo).toNat) H):wpAny (model X.prog X.w) X.A (pyIter (.ref s.heap.objs.size)) (UY X pins σ tg R) E {s with heap:=s.heap.push {cls:=.type "range",data:=.fields #[.int lo t,.int a u,.int 1 v]},toks:=tk}:=by
 refine wpAny_pyIter_range (IsRange.new ..) (small_one d f g h) ?_;have c:Inv X pins σ H {s with heap:=s.heap.push {cls:=.type "range",data:=.fields #[.int lo t,.int a u,.int 1 v]},toks:=tk}:=I.kept λb o e=>Be _ e
 refine⟨(s.heap.push {cls:=.type "range",data:=.fields #[.int lo t,.int a u,.int 1 v]}).objs.size,[(s.heap.push {cls:=.type "range",data:=.fields #[.int lo t,.int a u,.int 1 v]}).objs.size],_,_,H,rfl,
  c.kept (t':=tk) λb o e=>Be _ e,Yd _ lo (a-lo).toNat,?_,λb i=>?_,q⟩
 have j:lo+((0:Nat):Int)*1=lo:=(by simp);have k:(((a-lo).toNat:Nat):Int)-((0:Nat):Int)=Builtin.Range.rangeSize lo a 1:=by rw[rangeSize_one];split<;>lia
 show IsRangeIter _ _ (lo+((0:Nat):Int)*1) ((((a-lo).toNat:Nat):Int)-((0:Nat):Int)) 1;rw[j,k];exact B9 _ rfl;have e:b=(s.heap.push {cls:=.type "range",data:=.fields #[.int lo t,.int a u,.int 1 v]}).objs.size:=(by simpa using i);subst e;exact c.fpOk (AD _) (c.hok.fresh (AD _))
def NW (ta:TA):TI:=λσ H R=>ta σ H λvs Y=>mJ vs λj=>-(2 ^ 62)<=j/\j<2 ^ 62/\R (IF 0 j.toNat) Y
def NY (ta:TA):TI:=λσ H R=>ta σ H λvs Y=>∃i j:Int,vs=[.int i,.int j]/\(-(2 ^ 62)<=i/\i<2 ^ 62/\-(2 ^ 62)<=j/\j<2 ^ 62)/\R (IF i (j-i).toNat) Y
variable {L:Pos}
def Jb{a:Expr}{c:TA}{p:Pos}(d:Gl X "range")(f:X.mg "range" = none)(g:PA X [a] c)(i:starEach [a] X.env=[(false,eval a X.env)]:=by rfl):PI X tg (.Call (.Name "range" p) [a] [] L) (NW c):=by
 intro pins s σ H R I h;refine Call_ (IX I d f boot_range (PyProof.Rows.callWith_type1 (AS (g L pins s σ H _ I h) λo u⟨v,Y,k,l,b⟩=>?_) i rfl))
 replace b:=mJ.ex b
 obtain⟨j,e,b,m,q⟩:=b;subst e
 cases l with
 |cons r n =>
   cases n;obtain⟨t,rfl⟩:=r;exact call_range_1 (UZ k (by lia) (by lia) b m (by simpa using q))
def Ye{a b:Expr}{f:TA}{p:Pos}(k:Gl X "range")(l:X.mg "range" = none)(m:PA X [a,b] f)(n:starEach [a,b] X.env=[(false,eval a X.env),(false,eval b X.env)]:=by rfl)(g:starEach [b] X.env=[(false,eval b X.env)]:=by rfl) :
 PI X tg (.Call (.Name "range" p) [a,b] [] L) (NY f):=by
 intro pins s σ H R I h;refine Call_ (IX I k l boot_range (PyProof.Rows.callWith_type1 (AS (m L pins s σ H _ I h) λz A⟨B,Y,o,u,c⟩=>?_) (by rw[n,g]) (by rw[g];rfl)));obtain⟨i,j,e,⟨c,v,w,x⟩,q⟩:=c;subst e
 cases u with
 |cons r d =>
   cases d with
   |cons y d =>
     cases d;obtain⟨t,rfl⟩:=r;obtain⟨C,rfl⟩:=y;exact call_range_2 (UZ o c v w x q)
def RY (wi:TI) (g:TG) (tb:TS):TS:=λD σ H=>wi σ H λJ Y=>∃W:Nat->Nat->St->Hp->Prop,(∃m,W 0 m σ Y)/\∀i m σ H,W i m σ H ->
 (J.stop i H/\D.nx σ H)\/(J.go i H/\∃N:St->Hp->Prop,(∀σ' H',N σ' H'->∃m',m'<m/\W (i+1) m' σ' H')/\∀x H',J.yld i H x H'->g x σ H' λσ2 H2=>tb {D with nx:=N,ct:=N,bk:=D.nx} σ2 H2)
def NZ (fp:List Addr) (h:Heap):B':=fp.filterMap λb=>(h.get? b).map λo=>(b,o)
variable {fp:List Addr}
def Px{o:Obj}(a:b∈fp)(e:h.get? b=some o):(b,o)∈NZ fp h:=List.mem_filterMap.mpr ⟨b,a,by rw[e];rfl⟩
def Yg{p:Addr×Obj}(a:p∈NZ fp h):p.1∈fp/\h.get? p.1=some p.2:=by
 obtain⟨b,c,e⟩:=List.mem_filterMap.mp a
 cases q:h.get? b with
 |none=>rw[q] at e;cases e
 |some o =>
   rw[q] at e;have d:(b,o)=p:=AO e;subst d;exact⟨c,q⟩
theorem Inv.pinned(I:Inv X pins σ H s)(f:∀b∈fp,Ec X pins H b)(g:∀b∈fp,∃o,s.heap.get? b=some o/\∀v,o.data≠.cell v):Inv X (pins++NZ fp s.heap) σ H s:=
 I.pins_of λp h=>(BI.mp h).elim (λz=>I.pin p (Dj _ z)) λz=>by
  obtain⟨a,e⟩:=Yg z;obtain⟨i,j,k,_⟩:=f p.1 a;obtain⟨o,c,d⟩:=g p.1 a;rw[e] at c;cases c;exact⟨e,i,j,k,d⟩
theorem Inv.unpinned{a:B'}(I:Inv X (pins++a) σ H s):Inv X pins σ H s:=I.pins_of λp b=>I.pin p (Dj _ (Ek _ b))
def CP{j:Expr}{body:List Stmt}{B:TI}{g:TG}{tb:TS}(p:PassesOwn (model X.prog X.w) X.A X.env X.xe)(C:X.calm=true)(P:PI X tg j B)(Q:PG X tg g)(a:Gm X body tb)
 (R:∀x,foldedSetIterable j X.env x=pure x:=by intro _;rfl):PS X (.For tg j body [] L) (RY B g tb):=by
 intro pins s σ H af I h;refine wpAny_For (AS (P pins s σ H _ I h) λv s1 S=>AS S λai s2 U=>?_) R;obtain⟨it,fp,D,ag,V,e,Y,T,aa,E,W,⟨m0,w0⟩,turn⟩:=U;subst e;have A:∀{k:Hp},(∀b∈fp,k b=none)->∀b∈fp,Ec X pins k b:=λhn b a=>⟨hn b a,(E b a).2⟩;refine codeAny_forLoop_any (λn Z=>∃i σ' k,Inv X pins σ' k Z/\D i Z.heap/\(∀b∈fp,k b=none)/\W i n σ' k) ?_ m0 ⟨0,σ,V,Y,aa,λb a=>(E b a).1,w0⟩;rintro n F ⟨i,σ3,t,G,M,O,w3⟩;rcases turn i n σ3 t w3 with⟨stop,qn⟩|⟨go,N,hN,step⟩
 . refine wpAny_passesOwn p (AS (T.done X rfl rfl rfl C i pins F σ3 t X.xe G (A O) M stop) λr s4⟨w,I4⟩=>?_)
   subst w;exact wpAny_execs_nil ⟨σ3,t,I4,qn⟩
 . refine wpAny_passesOwn p (AS (T.item X rfl rfl rfl C i pins F σ3 t X.xe G (A O) M go) λr s4⟨u,w,h4⟩=>?_)
   subst w;refine wpAny_passesOwn p (AS h4 λ_ J⟨x,K,I5,r5,y5,z,ab⟩=>?_);have ae:=I5.pinned (A ab) (T.obj _ _ z);refine wpAny_passesOwn p (AS (Q _ J σ3 K x u _ ae r5 (step x K y5)) λ_ s6⟨σ6,H6,I6,q6⟩=>?_);refine wpAny_passesOwn p (AS (a _ s6 σ6 H6 _ I6 q6) λf y l=>?_)
   have again:∀{σ7:St}{c:Hp},Inv X (pins++NZ fp J.heap) σ7 c y->N σ7 c->∃m,m<n/\∃i σ' k,Inv X pins σ' k y/\D i y.heap/\(∀b∈fp,k b=none)/\W i m σ' k:=λ{σ7 c}d q=>by
    obtain⟨m',hm,w7⟩:=hN σ7 c q;refine⟨m',hm,i+1,σ7,c,d.unpinned,T.keep _ _ _ z λb a o e=>(d.pin (b,o) (Dj _ (Dj _ (Px a e)))).1,λb a=>?_,w7⟩;obtain⟨o,e,ah⟩:=T.obj _ _ z b a;exact(d.pin (b,o) (Dj _ (Dj _ (Px a e)))).2.1
   cases f with
   |next=>obtain⟨σ7,c,d,q⟩:=l;exact again d q
   |cont=>obtain⟨σ7,c,d,q⟩:=l;exact again d q
   |brk=>obtain⟨σ7,c,d,l⟩:=l;exact⟨σ7,c,d.unpinned,l⟩
   |ret v=>obtain⟨x7,σ7,c,d,r7,l⟩:=l;exact⟨x7,σ7,c,d.unpinned,r7,l⟩
end
def EZ{K:Ah}{xs:List V}{g:TG}{tb:TS}{D:Ends}(Pv:Nat->St->Hp->Prop)(f:Pv 0 σ H)(h:∀i σ H,i<=xs.length->Pv i σ H->Ae K H a xs)
 (j:∀i x σ H,xs[i]?=some x->Pv i σ H->g x σ H λσ2 b=>tb {D with nx:=Pv (i+1),ct:=Pv (i+1),bk:=D.nx} σ2 b) (hd:∀σ H,Pv xs.length σ H->D.nx σ H) :
 ∃W:Nat->Nat->St->Hp->Prop,(∃m,W 0 m σ H)/\∀i m σ H,W i m σ H ->
  ((Gz K a).stop i H/\D.nx σ H)\/((Gz K a).go i H/\∃N:St->Hp->Prop,(∀σ' H',N σ' H'->∃c,c<m/\W (i+1) c σ' H')/\∀x H',(Gz K a).yld i H x H'->g x σ H' λσ2 b=>tb {D with nx:=N,ct:=N,bk:=D.nx} σ2 b):=by
 refine⟨λi m σ H=>m=xs.length-i/\i<=xs.length/\Pv i σ H,⟨xs.length,by simp,Cm _,f⟩,?_⟩;rintro i m σ H ⟨rfl,k,p⟩;have q:=h i σ H k p;by_cases d:i<xs.length;refine .inr ⟨⟨xs,xs[i],q,by simp[d]⟩,Pv (i+1),λσ' H' l=>⟨xs.length-(i+1),by lia,rfl,d,l⟩,λx H' y=>?_⟩;obtain⟨e,y⟩:=y;subst e;exact j i x σ _ (y xs q) p;have e:i=xs.length:=(by lia);subst e;exact .inl ⟨⟨xs,q,AD _⟩,hd σ H p⟩
def Lq{lo:Int}{n:Nat}{g:TG}{tb:TS}{D:Ends}(Pv:Nat->St->Hp->Prop)(d:Pv 0 σ H)
 (f:∀i σ H,i<n->Pv i σ H->g (.int (lo+i)) σ H λσ2 a=>tb {D with nx:=Pv (i+1),ct:=Pv (i+1),bk:=D.nx} σ2 a) (hd:∀σ H,Pv n σ H->D.nx σ H) :
 ∃W:Nat->Nat->St->Hp->Prop,(∃m,W 0 m σ H)/\∀i m σ H,W i m σ H ->
  ((IF lo n).stop i H/\D.nx σ H)\/((IF lo n).go i H/\∃N:St->Hp->Prop,(∀σ' H',N σ' H'->∃c,c<m/\W (i+1) c σ' H')/\∀x H',(IF lo n).yld i H x H'->g x σ H' λσ2 a=>tb {D with nx:=N,ct:=N,bk:=D.nx} σ2 a):=by
 refine⟨λi m σ H=>m=n-i/\i<=n/\Pv i σ H,⟨n,by simp,Cm _,d⟩,?_⟩;rintro i m σ H ⟨rfl,j,p⟩;by_cases b:i<n;refine .inr ⟨b,Pv (i+1),λσ' H' h=>⟨n-(i+1),by lia,rfl,b,h⟩,λx H' y=>?_⟩;obtain⟨e,y⟩:=y;subst e y;exact f i σ _ b p;have e:i=n:=(by lia);subst e;exact .inl ⟨AD _,hd σ H p⟩
abbrev R2:=V->V->Hp->VK->Prop
def Dc (X:Cx) (f:Value->Value->Sem Value) (r:R2):Prop:=
 ∀(pins:B')(s:Shared)(σ:St)(H:Hp)(x y:V)(v u:Value)(Q:VK),Inv X pins σ H s->RelV x v->RelV y u->r x y H Q ->
  wpAny (model X.prog X.w) X.A (f v u) (EP X pins σ Q) X.xe s
def Py (X:Cx) (f:Value->Sem Value) (r:V->Hp->VK->Prop):Prop:=
 ∀(pins:B')(s:Shared)(σ:St)(H:Hp)(x:V)(v:Value)(Q:VK),Inv X pins σ H s->RelV x v->r x H Q ->
  wpAny (model X.prog X.w) X.A (f v) (EP X pins σ Q) X.xe s
def Ba (X:Cx) (f:Value) (r:List V->Hp->VK->Prop):Prop:=
 ∀(pins:B')(s:Shared)(σ:St)(H:Hp)(xs:List V)(us:List Value)(Q:VK),Inv X pins σ H s->As xs us->r xs H Q ->
  wpAny (model X.prog X.w) X.A (call f us) (EP X pins σ Q) X.xe s
def RZ (X:Cx) (r:V->Hp->(Bool->Hp->Prop)->Prop):Prop:=
 ∀(pins:B')(s:Shared)(σ:St)(H:Hp)(x:V)(v:Value)(Q:Bool->Hp->Prop),Inv X pins σ H s->RelV x v->r x H Q ->
  wpAny (model X.prog X.w) X.A (truthy v) (TP X pins σ Q) X.xe s
def GV (r:R2) (ta tb:TE):TE:=λσ H Q=>ta σ H λx Y=>tb σ Y λy H2=>r x y H2 Q
def Yh (r:V->Hp->VK->Prop) (ta:TE):TE:=λσ H Q=>ta σ H λx Y=>r x Y Q
def rI (C:Int->Int->Prop) (g:Int->Int->V):R2:=λx y H Q=>ID x y λi j=>C i j/\Q (g i j) H
def Hm (g:Int->Int->V):R2:=λx y H Q=>ID x y λi j=>Q (g i j) H
def rU (g:Int->V):V->Hp->VK->Prop:=λx H Q=>mI x λi=>Q (g i) H
section
variable {X:Cx} {a b c:Expr} {ta tb tc:TE} {L:Pos}
variable {f:Value->Value->Sem Value}
def Lr(e:PE X a ta)(g:PE X b tb){R:V->V->Hp->Prop}(I:Inv X pins σ H s)
 (h:ta σ H λx Y=>tb σ Y λy c=>R x y c) {Q:D'} (i:∀v u d x y c,Inv X pins σ c d->RelV x v->RelV y u->R x y c->wpAny (model X.prog X.w) X.A (f v u) Q X.xe d) :
 wpAny (model X.prog X.w) X.A (eval a X.env) (λv j=>wpAny (model X.prog X.w) X.A (eval b X.env) (λu k=>wpAny (model X.prog X.w) X.A (f v u) Q X.xe k) X.xe j) X.xe s:=by
 refine AS (e pins s σ H _ I h) λv l⟨x,Y,m,n,o⟩=>?_;refine AS (g pins l σ Y _ m o) λu d⟨y,c,p,q,r⟩=>?_;exact i v u d x y c p n q r
def AF{op:Operator}{r:R2}(c:Dc X (binaryOp op) r)(d:PE X a ta)(e:PE X b tb):PE X (.BinOp a op b L) (GV r ta tb):=by
 intro pins s σ H Q I h;exact wpAny_BinOp (Lr d e I h λv u f x y g i j k q=>c pins f σ g x y v u Q i j k q)
def Pz{op:UnaryOp}{r:V->Hp->VK->Prop}(b:Py X (unaryOp op) r)(c:PE X a ta):PE X (.UnaryOp op a L) (Yh r ta):=by
 intro pins s σ H Q I h;exact UnaryOp_ (AS (c pins s σ H _ I h) λv d⟨x,Y,e,f,g⟩=>b pins d σ Y x v Q e f g)
def R1{C:Int->Int->Prop}{g:Int->Int->Int}
 (e:∀(i j:Int)(t u:Tok)(s:Shared)(Q:D')(E:D'),C i j->Q (.int (g i j) s.toks) {s with toks:=s.toks+1}->wpAny (model X.prog X.w) X.A (f (.int i t) (.int j u)) Q E s) :
 Dc X f (rI C λi j=>.int (g i j)):=by
 intro pins s σ H x y v u Q I a b h
 replace h:=ID.ex h
 obtain⟨i,j,rfl,rfl,c,q⟩:=h;obtain⟨t,rfl⟩:=a;obtain⟨d,rfl⟩:=b;exact e i j t d s _ _ c ⟨.int (g i j),H,I.tok _,⟨_,rfl⟩,q⟩
def Ls{g:Int->Int->Int}
 (d:∀(i j:Int)(t u:Tok)(s:Shared)(Q:D')(E:D'),Q (.int (g i j) s.toks) {s with toks:=s.toks+1}->wpAny (model X.prog X.w) X.A (f (.int i t) (.int j u)) Q E s) :
 Dc X f (Hm λi j=>.int (g i j)):=by
 intro pins s σ H x y v u Q I a b h
 replace h:=ID.ex h
 obtain⟨i,j,rfl,rfl,q⟩:=h;obtain⟨t,rfl⟩:=a;obtain⟨c,rfl⟩:=b;exact d i j t c s _ _ ⟨.int (g i j),H,I.tok _,⟨_,rfl⟩,q⟩
def N0{g:Int->Int->Bool}
 (d:∀(i j:Int)(t u:Tok)(s:Shared)(Q:D')(E:D'),Q (.bool (g i j)) s->wpAny (model X.prog X.w) X.A (f (.int i t) (.int j u)) Q E s) :
 Dc X f (Hm λi j=>.bl (g i j)):=by
 intro pins s σ H x y v u Q I a b h
 replace h:=ID.ex h
 obtain⟨i,j,rfl,rfl,q⟩:=h;obtain⟨t,rfl⟩:=a;obtain⟨c,rfl⟩:=b;exact d i j t c s _ _ ⟨.bl (g i j),H,I,rfl,q⟩
def R3 (i j:Int):Prop:=0<j/\j<1073741824
def Lu (i j:Int):Prop:=(-(2 ^ 64)<i/\i<2 ^ 64)\/(-(2 ^ 64)<j/\j<2 ^ 64)
def Lu.ok{i j:Int}(h:Lu i j):IntMulOk i j:=by
 rcases h with⟨a,b⟩|⟨a,b⟩;exact .of_left (intBits_le_64 a b);exact .of_right (intBits_le_64 a b)
def Ho:Dc X (binaryOp .Add) (Hm λi j=>.int (i+j)):=Ls λζ ζ ζ ζ ζ ζ ζ q=>add_int q
def R6:Dc X (binaryOp .Sub) (Hm λi j=>.int (i-j)):=Ls λζ ζ ζ ζ ζ ζ ζ q=>sub_int q
def EL:Dc X (binaryOp .Mult) (rI Lu λi j=>.int (i*j)):=R1 λζ ζ ζ ζ ζ ζ ζ a q=>mul_int q a.ok
def FJ:Dc X (binaryOp .FloorDiv) (rI R3 λi j=>.int (i/j)):=R1 λi j ζ ζ ζ ζ ζ a q=>by
 have b:(0:Int)<j:=a.1;have c:j<1073741824:=a.2;exact floordiv_int (by lia) (by rw[Int.fdiv_eq_ediv_of_nonneg i (by lia)];exact q) (.inl (PyProof.noPylong_small (by lia)))
def Bs:Dc X (binaryOp .Mod) (rI (λζ j=>0<j) λi j=>.int (i%j)):=R1 λi j ζ ζ ζ ζ ζ a q=>by
 have b:(0:Int)<j:=a;exact mod_int' (by lia) (by rw[Int.fmod_eq_emod_of_nonneg i (by lia)];exact q)
def U0:Dc X (inplaceOp .Add) (Hm λi j=>.int (i+j)):=Ls λζ ζ ζ ζ ζ ζ ζ q=>iadd_int q
def Yi{f:Value->Sem Value}{g:Int->Int}
 (b:∀(i:Int)(t:Tok)(s:Shared)(Q:D')(E:D'),Q (.int (g i) s.toks) {s with toks:=s.toks+1}->wpAny (model X.prog X.w) X.A (f (.int i t)) Q E s) :
 Py X f (rU λi=>.int (g i)):=by
 intro pins s σ H x v Q I a h
 replace h:=mI.ex h
 obtain⟨i,rfl,q⟩:=h;obtain⟨t,rfl⟩:=a;exact b i t s _ _ ⟨.int (g i),H,I.tok _,⟨_,rfl⟩,q⟩
def PB:Py X (unaryOp .USub) (rU λi=>.int (-i)):=Yi λζ ζ ζ ζ ζ q=>neg_int q
end
def Lv:V->V->Bool
 |.non,.non=>true|.non,.int _=>true|.int _,.non=>true|.non,.bl _=>true|.bl _,.non=>true|.non,.str _=>true|.str _,.non=>true
 |.int _,.int _=>true|.bl _,.bl _=>true|.str _,.str _=>true|.byt _,.byt _=>true
 |.int _,.str _=>true|.str _,.int _=>true|.bl _,.str _=>true|.str _,.bl _=>true
 |_,_=>false
def Yj:R2:=λx y H Q=>Lv x y=true/\Q (.bl (decide (x=y))) H
def U1:R2:=λx y H Q=>Lv x y=true/\Q (.bl (!decide (x=y))) H
def U2{i j:Int}:decide (V.int i=V.int j)=(i==j):=by
 rw[Bool.eq_iff_iff]
 simp
def Hq{i j:Bool}:decide (V.bl i=V.bl j)=(i==j):=by
 rw[Bool.eq_iff_iff]
 simp
def U3{i j:Str}:decide (V.str i=V.str j)=(i==j):=by
 rw[Bool.eq_iff_iff]
 simp
def U4{i j:Array UInt8}:decide (V.byt i=V.byt j)=(i.toList==j.toList):=by
 rw[Bool.eq_iff_iff];cases i;cases j
 simp
section
variable {X:Cx} {a b c:Expr} {ta tb tc:TE} {L:Pos}
def Dl{Q:VK}{k a:Bool}(I:Inv X pins σ H s)(q:Q (.bl k) H)(e:k=a):EP X pins σ Q (.bool a) s:=by
 subst e;exact⟨.bl k,H,I,rfl,q⟩
def CF:Dc X (compareOp .Eq) Yj:=by
 intro pins s σ H x y v u Q I d a h;obtain⟨c,q⟩:=h
 cases x with
 |non =>
   cases d
   cases y with
   |non=>cases a;exact PySem.EqNone.eq_none_none (Dl I q (by simp))
   |bl j=>cases a;exact PySem.EqNone.eq_none_bool (Dl I q (by simp))
   |int j=>obtain⟨b,rfl⟩:=a;exact PySem.EqNone.eq_none_int (Dl I q (by simp))
   |str j=>obtain⟨b,rfl⟩:=a;exact PySem.EqNone.eq_none_str (Dl I q (by simp))
   |_=>exact absurd (show false=true from c) Cz
 |bl i =>
   cases d
   cases y with
   |non=>cases a;exact PySem.EqNone.eq_bool_none (Dl I q (by simp))
   |bl j=>cases a;exact eq_bool (Dl I q Hq)
   |str j=>obtain⟨b,rfl⟩:=a;exact PySem.EqMixed.eq_bool_str (Dl I q (by simp))
   |_=>exact absurd (show false=true from c) Cz
 |int i =>
   obtain⟨t,rfl⟩:=d
   cases y with
   |non=>cases a;exact PySem.EqNone.eq_int_none (Dl I q (by simp))
   |int j=>obtain⟨b,rfl⟩:=a;exact eq_int (Dl I q U2)
   |str j=>obtain⟨b,rfl⟩:=a;exact PySem.EqMixed.eq_int_str (Dl I q (by simp))
   |_=>exact absurd (show false=true from c) Cz
 |str i =>
   obtain⟨t,rfl⟩:=d
   cases y with
   |non=>cases a;exact PySem.EqNone.eq_str_none (Dl I q (by simp))
   |bl j=>cases a;exact PySem.EqMixed.eq_str_bool (Dl I q (by simp))
   |int j=>obtain⟨b,rfl⟩:=a;exact PySem.EqMixed.eq_str_int (Dl I q (by simp))
   |str j=>obtain⟨b,rfl⟩:=a;exact eq_str (Dl I q U3)
   |_=>exact absurd (show false=true from c) Cz
 |byt i =>
   obtain⟨t,rfl⟩:=d
   cases y with
   |byt j=>obtain⟨b,rfl⟩:=a;exact PySem.W.eq_bytes (Dl I q U4)
   |_=>exact absurd (show false=true from c) Cz
 |_=>cases y<;>exact absurd (show false=true from c) Cz
def KA:Dc X (compareOp .NotEq) U1:=by
 intro pins s σ H x y v u Q I d a h;obtain⟨c,q⟩:=h
 cases x with
 |non =>
   cases d
   cases y with
   |non=>cases a;exact PySem.EqNone.ne_none_none (Dl I q (by simp))
   |bl j=>cases a;exact PySem.EqNone.ne_none_bool (Dl I q (by simp))
   |int j=>obtain⟨b,rfl⟩:=a;exact PySem.EqNone.ne_none_int (Dl I q (by simp))
   |str j=>obtain⟨b,rfl⟩:=a;exact PySem.EqNone.ne_none_str (Dl I q (by simp))
   |_=>exact absurd (show false=true from c) Cz
 |bl i =>
   cases d
   cases y with
   |non=>cases a;exact PySem.EqNone.ne_bool_none (Dl I q (by simp))
   |bl j=>cases a;exact ne_bool (Dl I q (BJ not Hq))
   |str j=>obtain⟨b,rfl⟩:=a;exact PySem.EqMixed.ne_bool_str (Dl I q (by simp))
   |_=>exact absurd (show false=true from c) Cz
 |int i =>
   obtain⟨t,rfl⟩:=d
   cases y with
   |non=>cases a;exact PySem.EqNone.ne_int_none (Dl I q (by simp))
   |int j=>obtain⟨b,rfl⟩:=a;exact ne_int (Dl I q (BJ not U2))
   |str j=>obtain⟨b,rfl⟩:=a;exact PySem.EqMixed.ne_int_str (Dl I q (by simp))
   |_=>exact absurd (show false=true from c) Cz
 |str i =>
   obtain⟨t,rfl⟩:=d
   cases y with
   |non=>cases a;exact PySem.EqNone.ne_str_none (Dl I q (by simp))
   |bl j=>cases a;exact PySem.EqMixed.ne_str_bool (Dl I q (by simp))
   |int j=>obtain⟨b,rfl⟩:=a;exact PySem.EqMixed.ne_str_int (Dl I q (by simp))
   |str j=>obtain⟨b,rfl⟩:=a;exact ne_str (Dl I q (BJ not U3))
   |_=>exact absurd (show false=true from c) Cz
 |byt i =>
   obtain⟨t,rfl⟩:=d
   cases y with
   |byt j=>obtain⟨b,rfl⟩:=a;exact PySem.W.ne_bytes (Dl I q (BJ not U4))
   |_=>exact absurd (show false=true from c) Cz
 |_=>cases y<;>exact absurd (show false=true from c) Cz
def F9:Dc X (compareOp .Lt) (Hm λi j=>.bl (decide (i<j))):=N0 λζ ζ ζ ζ ζ ζ ζ q=>lt_int q
def N1:Dc X (compareOp .Gt) (Hm λi j=>.bl (decide (j<i))):=N0 λζ ζ ζ ζ ζ ζ ζ q=>gt_int q
variable {op:CmpOp}
def Bp(b:Expr)(h:op≠.In:=by decide)(a:op≠.NotIn:=by decide):behindInMarks op b=false:=by
 have c:(op==CmpOp.In)=false:=by cases op<;>first|rfl|exact absurd rfl h
 have d:(op==CmpOp.NotIn)=false:=by cases op<;>first|rfl|exact absurd rfl a
 cases b<;>simp[behindInMarks,c,d]
variable {r:R2}
def Jc(c:Dc X (compareOp op) r)(d:PE X a ta)(e:PE X b tb)(f:behindInMarks op b=false):PE X (.Compare a [op] [b] L) (GV r ta tb):=by
 intro pins s σ H Q I h;exact wpAny_Compare1 (Lr d e I h λv u g x y i j k l q=>c pins g σ i x y v u Q j k l q) f
def KC (t:TE):TT:=λσ H Q=>t σ H λx H'=>mB x λk=>Q k H'
def Bt(f:Dc X (compareOp op) r)(g:PE X a ta)(i:PE X b tb)(j:behindInMarks op b=false):PT X (.Compare a [op] [b] L) (KC (GV r ta tb)):=by
 intro pins s σ H Q I h
 refine wpAny_isTrue_Compare1 (AS (g pins s σ H _ I h) λv l⟨x,Y,m,n,o⟩=>AS (i pins l σ Y _ m o) λu p⟨y,q,t,w,A⟩ =>
  AS (f pins p σ q x y v u _ t n w A) λc E⟨z,B,C,D,d⟩=>?_) j
 replace d:=mB.ex d
 obtain⟨k,e,d⟩:=d;subst e;cases D;exact FI ⟨B,C,d⟩
def R7 (r r':R2) (ta tb tc:TE):TE:=λσ H Q=>ta σ H λx Y=>tb σ Y λy H2=>r x y H2 λz H3=>∃k,z=.bl k /\
 (if k=true then tc σ H3 λw' H4=>r' y w' H4 Q else Q (.bl false) H3)
def Yk{f:CmpOp}{g:R2}(n:Dc X (compareOp op) r)(U:Dc X (compareOp f) g)(o:PE X a ta)(p:PE X b tb)(q:PE X c tc)
 (t:lastMarks [op,f] [b,c]=false:=by with_unfolding_all rfl):PE X (.Compare a [op,f] [b,c] L) (R7 r g ta tb tc):=by
 intro pins s σ H Q I h
 refine Compare_chain (AS (o pins s σ H _ I h) λv w⟨x,Y,A,B,C⟩=>chain_link (AS (p pins w σ Y _ A C) λu D⟨y,E,F,i,G⟩ =>
  AS (n pins D σ E x y v u _ F B i G) λd J⟨z,j,l,K,k,e,m⟩=>?_)) t
 subst e;cases K;refine FI ?_
 cases k with
 |false=>exact ite_ff ⟨.bl false,j,l,rfl,m⟩
 |true=>exact ite_tt (chain_last (AS (q pins J σ j _ l m) λM N⟨O,P,R,S,T⟩=>U pins N σ P y O u M Q R i S T))
def Yl{i:CmpOp}{j:R2}(o:Dc X (compareOp op) r)(aa:Dc X (compareOp i) j)(p:PE X a ta)(q:PE X b tb)(t:PE X c tc)
 (w:lastMarks [op,i] [b,c]=false:=by with_unfolding_all rfl):PT X (.Compare a [op,i] [b,c] L) (KC (R7 r j ta tb tc)):=by
 intro pins s σ H Q I h
 refine isTrue_chain (AS (p pins s σ H _ I h) λv z⟨x,Y,A,B,C⟩=>test_link (AS (q pins z σ Y _ A C) λu D⟨y,E,F,l,G⟩ =>
  AS (o pins D σ E x y v u _ F B l G) λab J⟨ae,g,m,K,k,e,n⟩=>?_)) w
 subst e;cases K;refine FI ?_
 cases k with
 |false =>
   have d:mB (.bl false) (λk=>Q k g):=n
   replace d:=mB.ex d
   obtain⟨k',M,N⟩:=d;cases M;exact ite_ff ⟨g,m,N⟩
 |true =>
   refine ite_tt (test_last (AS (t pins J σ g _ m n) λO P⟨R,S,T,U,d⟩=>AS (aa pins P σ S y R u O _ T l U d) λd' s5⟨z2,V,W,Z,f⟩=>?_))
   replace f:=mB.ex f
   obtain⟨k2,e2,f⟩:=f;subst e2;cases Z;exact FI ⟨V,W,f⟩
def R8 (K:Ah) (x:V) (H:Hp) (k:Bool):Prop:=
 match x with
 |.non=>k=false
 |.bl b=>k=b
 |.int i=>k=(i != 0)
 |.str y=>y.length<=sizeLine/\k=((y.length:Int) != 0)
 |.byt y=>y.size<=sizeLine/\k=((y.size:Int) != 0)
 |.ref p=>(∃xs,Ae K H p xs/\k=!xs.isEmpty)\/(∃xs,Ap K H p xs/\k=!xs.isEmpty)\/∃kvs,H p=some (.dK kvs)/\k=!kvs.isEmpty
 |_=>False
def Ym{κ:Type}{a:List (κ×V)}{vs:List (κ×Value)}(r:KV a vs):(!vs.isEmpty)=!a.isEmpty:=by
 cases r<;>rfl
def U5{xs:List V}{a:List Value}(r:As xs a):(!a.toArray.isEmpty)=!xs.isEmpty:=by
 cases r<;>simp
def Na:(sizeLine:Nat)<2 ^ 63:=by rw[sizeLine_eq];decide
def Lw:RZ X (λx H Q=>∃k,R8 X.K x H k/\Q k H):=by
 intro pins s σ H x v Q I d h;obtain⟨k,e,q⟩:=h;have A:=Na;have B:sizeLine=16777216:=sizeLine_eq
 cases x with
 |non =>
   cases d;have a:k=false:=e;subst a;exact truthy_none ⟨H,I,q⟩
 |bl b =>
   cases d;have a:k=b:=e;subst a;exact FI ⟨H,I,q⟩
 |int i =>
   obtain⟨t,rfl⟩:=d;have a:k=(i != 0):=e;subst a;exact PySem.P.truthy_int ⟨H,I,q⟩
 |str y =>
   obtain⟨t,rfl⟩:=d;obtain⟨u,a⟩:y.length<=sizeLine/\k=((y.length:Int) != 0):=e;subst a;exact PySem.P.truthy_str (by lia) ⟨H,I.tok _,q⟩
 |byt y =>
   obtain⟨t,rfl⟩:=d;obtain⟨u,a⟩:y.size<=sizeLine/\k=((y.size:Int) != 0):=e;subst a;exact PySem.W.truthy_bytes (by lia) ⟨H,I.tok _,q⟩
 |ref p =>
   cases d;have a:(∃c,Ae X.K H p c/\k=!c.isEmpty)\/(∃c,Ap X.K H p c/\k=!c.isEmpty)\/∃f,H p=some (.dK f)/\k=!f.isEmpty:=e;rcases a with⟨c,g,a⟩|⟨c,g,a⟩|⟨f,g,a⟩;subst a;obtain⟨z,r,l,n⟩:=I.list g;have o:=r.length;exact wpAny_truthy_list l.isList (by simp only[Ck];lia) ⟨H,I.tok _,by rw[U5 r];exact q⟩;subst a;obtain⟨z,r,l,n⟩:=I.tuple g;have o:=r.length;exact truthy_tuple l (by simp only[Ck];lia) ⟨H,I.tok _,by rw[U5 r];exact q⟩;subst a;obtain⟨n,w,j,r,m⟩:f.length<=sizeLine/\(p==sysModules)=false/\∃j,KV f j/\s.heap.DictOf (EK X.prog X.w) p j:=I.hok p _ g;have o:f.length=j.length:=Paired.length r;exact wpAny_truthy_dict w m (by lia) ⟨H,I.tok _,by rw[Ym r];exact q⟩
 |_=>exact(show False from e).elim
def U6:Dc X (binaryOp .Add) (λx y H Q=>∃i j,x=.str i/\y=.str j/\i.length+j.length<=sizeLine/\Q (.str (i++j)) H):=by
 intro pins s σ H x y v u Q I a b h;obtain⟨i,j,rfl,rfl,c,q⟩:=h;obtain⟨t,rfl⟩:=a;obtain⟨d,rfl⟩:=b;exact add_str (λd tk=>⟨.str (i++j),H,I.tok _,⟨_,rfl⟩,q⟩) c
def Fp{us:List Value}(r:As [x] us):∃u,us=[u]/\RelV x u:=by
 cases r with
 |cons a b=>cases b;exact⟨_,rfl,a⟩
def Jd{y:V}{us:List Value}(r:As [x,y] us):∃u a,us=[u,a]/\RelV x u/\RelV y a:=by
 cases r with
 |cons b c =>
   cases c with
   |cons d e=>cases e;exact⟨_,_,rfl,b,d⟩
def Yn(b:X.calm=true):Ba X (.builtin "min") (λxs H Q=>∃i j,xs=[.int i,.int j]/\Q (.int (if j<i then j else i)) H):=by
 intro pins s σ H xs c Q I r h;obtain⟨i,j,rfl,q⟩:=h;obtain⟨u,d,rfl,⟨t,rfl⟩,⟨e,rfl⟩⟩:=Jd r;refine min_two_ints (I.ok.hd b) λf tk k=>⟨_,H,I.kept k,?_,q⟩;by_cases a:j<i;rw[Al a,Al a];exact⟨_,rfl⟩;rw[Ak a,Ak a];exact⟨_,rfl⟩
def R9:Ba X (.type "int") (λxs H Q=>(∃i,xs=[.int i]/\Q (.int i) H)\/∃k,xs=[.bl k]/\Q (.int (if k then 1 else 0)) H):=by
 intro pins s σ H xs b Q I r h;rcases h with⟨i,rfl,q⟩|⟨k,rfl,q⟩;obtain⟨u,rfl,t,rfl⟩:=Fp r;exact call_int_int ⟨.int i,H,I,⟨_,rfl⟩,q⟩;obtain⟨u,rfl,a⟩:=Fp r
 cases a;exact call_int_bool ⟨.int (if k then 1 else 0),H,I.tok _,⟨_,rfl⟩,q⟩
def Sa (K:Ah) (x:V) (H:Hp) (n:Nat):Prop:=
 match x with
 |.str y=>y.length<=sizeLine/\n=y.length
 |.byt y=>y.size<=sizeLine/\n=y.size
 |.ref p=>(∃xs,Ae K H p xs/\n=xs.length)\/∃xs,Ap K H p xs/\n=xs.length
 |_=>False
def DM:Ba X (.builtin "len") (λxs H Q=>mL xs λx n=>Sa X.K x H n/\Q (.int n) H):=by
 intro pins s σ H xs l Q I r h
 replace h:=mL.ex h
 obtain⟨x,n,rfl,e,q⟩:=h;obtain⟨u,rfl,b⟩:=Fp r;have m:=Na;have o:sizeLine=16777216:=sizeLine_eq
 cases x with
 |str y =>
   obtain⟨t,rfl⟩:=b;obtain⟨i,a⟩:y.length<=sizeLine/\n=y.length:=e;subst a;exact len_str (by lia) ⟨.int _,H,I.tok _,⟨_,rfl⟩,q⟩
 |byt y =>
   obtain⟨t,rfl⟩:=b;obtain⟨i,a⟩:y.size<=sizeLine/\n=y.size:=e;subst a;exact PySem.W.len_bytes (by lia) ⟨.int _,H,I.tok _,⟨_,rfl⟩,q⟩
 |ref p =>
   cases b;have a:(∃xs,Ae X.K H p xs/\n=xs.length)\/∃xs,Ap X.K H p xs/\n=xs.length:=e;rcases a with⟨xs,c,a⟩|⟨xs,c,a⟩;subst a;obtain⟨k,d,f,j⟩:=I.list c;have g:=d.length;exact Calls.call_len_list f.isList (by simp only[Ck];lia) ⟨.int xs.length,H,I.tok _,⟨_,by simp only[Ck];rw[g]⟩,q⟩;subst a;obtain⟨k,d,f,j⟩:=I.tuple c;have g:=d.length;exact len_tuple f (by simp only[Ck];lia) ⟨.int xs.length,H,I.tok _,⟨_,by simp only[Ck];rw[g]⟩,q⟩
 |_=>exact(show False from e).elim
end
section
variable {prog:Program} {w:World} {A:Around} {E:D'} {s:Shared} {K:Ah} {x dx C f:Addr} {mA:Str->Option Value} {name:Str} {v:Value}
end
def Ea.some_of{v:V}{o:Option Value}(r:Ea (some v) o):∃u,o=some u/\RelV v u:=by
 cases o with
 |none=>exact(show False from r).elim
 |some u=>exact⟨u,rfl,r⟩
section
variable {P:Program} {w:World} {H H':Hp} {h h':Heap} {a C dx:Addr} {fs fs':List (Str×V)}
end
section
variable {X:Cx} {pins:B'} {σ:St} {H:Hp} {s:Shared} {a C dx:Addr} {fs:List (Str×V)} {f:Str} {v:V} {A:Around} {E:D'}
end
section
variable {X:Cx} {o e d:Expr} {f:Str} {L t j:Pos} {ta O:TE}
end
section
variable {X:Cx} {pins:B'} {σ:St} {H:Hp} {s:Shared} {A:Around} {E:D'} {Q:D'} {c:Value} {b:Bool}
end
structure B1 (k:Nat) (A:Around):Prop where
 hd:A.handled=none
 dp:A.depth+3*k+5<recursionLimit
 un:A.units+16*k+200<cLine
def B1.mono{j k:Nat}(r:B1 k A)(h:j<=k):B1 j A:=⟨r.hd,by have:=r.dp;lia,by have:=r.un;lia⟩
def B1.deeper{k:Nat}{A:Around}(r:B1 (k+1) A)(env:Env):B1 k (A.deeper env):=
 ⟨r.hd,by have:=r.dp;show A.depth+1+3*k+5<_;lia,by have:=r.un;show A.units+3+16*k+200<_;lia⟩
def B1.depth{k:Nat}{A:Around}(r:B1 k A):A.depth<recursionLimit:=by have:=r.dp;lia
def B1.units{k:Nat}{A:Around}(r:B1 k A):A.units+64<cLine:=by have:=r.un;lia
def Hr:TA:=λζ H Q=>Q [] H
def Lx (ta:TE) (tr:TA):TA:=λσ H Q=>ta σ H λx Y=>tr σ Y λxs H2=>Q (x::xs) H2
section
variable {X:Cx} {e:Expr} {es:List Expr} {te:TE} {t:TA} {L:Pos}
def Af:PA X [] Hr:=λζ ζ ζ ζ H Q I h=>Calls.spliced_nil ⟨[],H,I,.nil,h⟩
def Ab(a:PE X e te)(b:PA X es t)(c:starEach (e::es) X.env=(false,eval e X.env)::starEach es X.env:=by rfl):PA X (e::es) (Lx te t):=by
 intro L pins s σ H Q I h;rw[c];show wpAny _ _ (spliced ((false,eval e X.env)::backTo L (starEach es X.env))) _ _ s;refine Calls.spliced_cons (AS (a pins s σ H _ I h) λu d⟨x,Y,f,g,i⟩=>?_);exact AS (b L pins d σ Y _ f i) λo p⟨j,k,l,m,n⟩=>⟨x::j,k,l,.cons g m,n⟩
def Sb (t:TA):TE:=λσ H Q=>t σ H λxs Y=>xs.length<=sizeLine/\∀p,Y p=none->Q (.ref p) (upd Y p (.tup xs))
def N2 (t:TA):TE:=λσ H Q=>t σ H λxs Y=>xs.length<=sizeLine/\∀p,Y p=none->Q (.ref p) (upd Y p (.lst xs))
def Bx{d}(h:PA X es t):PE X (.Tuple es d L) (Sb t):=by
 intro pins s σ H Q I f;refine wpAny_Tuple_spliced (AS (h L pins s σ H _ I f) λg a⟨i,Y,c,r,z,q⟩=>⟨by rw[<-r.length];exact z,?_⟩);have j:Y a.heap.objs.size=none:=c.hok.fresh (AD _);refine⟨.ref a.heap.objs.size,upd Y a.heap.objs.size (.tup i),c.laid (t':=a.toks) (λb u e=>Be _ e) (AD _) ?_,rfl,q _ j⟩;exact⟨z,g,r,⟨_,B9 _ rfl,rfl,_,rfl⟩⟩
def CC(h:PA X es t):PE X (.List es L) (N2 t):=by
 intro pins s σ H Q I d;refine wpAny_List_spliced (AS (h L pins s σ H _ I d) λf a⟨g,Y,c,r,z,q⟩=>⟨by rw[<-r.length];exact z,?_⟩);have i:Y a.heap.objs.size=none:=c.hok.fresh (AD _);refine⟨.ref a.heap.objs.size,upd Y a.heap.objs.size (.lst g),c.laid (t':=a.toks) (λb u e=>Be _ e) (AD _) ?_,rfl,q _ i⟩;exact⟨z,f,0,r,B9 _ rfl⟩
end
abbrev Sp:=List V->Hp->VK->XK->Prop
abbrev Hs:=List Env->Hp->Shared->XK->Value->Shared->Prop
structure Je (P:Program) (w:World) (K:Ah) (mg:Str->Option Value) (base:Heap) (A:Around) (outer:List Env) (s:Shared) (H:Hp):Prop where
 frames:A.frames=some outer
 mod:Mod K mg base
 bs:∀b o,base.get? b=some o->s.heap.get? b=some o/\H b=none
 bsz:base.objs.size<=s.heap.objs.size
 funs:s.heap.FunFrames base outer
 frf:∀b∈EY outer,H b=none
 hok:CZ P w H s.heap
 bare:AllBare s.gens
def CE (outer:List Env) (P:Program) (w:World) (H:Hp) (s:Shared) (Q:VK) (u:Value) (Z:Shared):Prop:=
 ∃v H',Z.os=s.os/\AllBare Z.gens/\Un (EY outer) [] H H' s.heap Z.heap/\CZ P w H' Z.heap/\RelV v u/\Q v H'
def CR (CX:Hs) (outer:List Env) (P:Program) (w:World) (H:Hp) (s:Shared) (Q:VK) (E:XK) (r:Result) (Z:Shared):Prop:=
 match r with
 |.ok (.ret u)=>CE outer P w H s Q u Z
 |.ok _=>False
 |.error e=>CX outer H s E e Z
structure Et (P:Program) (w:World) (K:Ah) (mg:Str->Option Value) (base:Heap) (CX:Hs) (k:Nat) (f:Addr) (fd:FuncData) (ps:List Str) (sp:Sp):Prop where
 len:∀vs H Q E,sp vs H Q E->vs.length=ps.length
 run:∀(A:Around)(outer:List Env)(s:Shared)(H:Hp)(args:Args)(us:List Value)(vs:List V)(Q:VK)(E:XK),B1 k A->Je P w K mg base A outer s H->BindsTo s fd args (ps.zip us)->As vs us->sp vs H Q E ->
  codeAny (model P w) A (.call (.ref f) args) (CR CX outer P w H s Q E) s
section
variable {X:Cx} {pins:B'} {σ:St} {H:Hp} {s Z:Shared}
def Inv.env0(I:Inv X pins σ H s):Je X.prog X.w X.K X.mg X.base X.A X.stack s H:=
 ⟨I.ok.frames,I.ok.mod,I.bs,Em I.ok.bsz I.sz,I.stack,I.stkFree,I.hok,I.bare⟩
def Inv.after{Q:VK}{u:Value}(I:Inv X pins σ H s)(h:CE X.stack X.prog X.w H s Q u Z):EP X pins σ Q u Z:=by
 obtain⟨v,a,c,j,un,f,r,q⟩:=h;obtain⟨e,g,d,t,i⟩:=Z;obtain rfl:i=s.os:=c;exact⟨v,a,I.call (h':=e) (g':=g) (d':=d) (t':=t) (ch:=[]) un f j (λb z=>absurd z (by simp)),r,q⟩
end
def Ht (sp:Sp) (c:List V) (E:XK) (t:TA):TE:=λσ H Q=>t σ H λvs Y=>sp (vs++c) Y Q E
def Binds (K:Ah) (fd:FuncData) (ps:List Str) (ds:List Value):Prop:=
 ∀(s:Shared)(us:List Value),K.In s.heap->(us++ds).length=ps.length->BindsTo s fd ⟨us,[]⟩ (ps.zip (us++ds))
variable {ps:List Str}
def Binds.all{K:Ah}{a:FuncData}(h:∀us:List Value,us.length=ps.length->bindArgs a ⟨us,[]⟩=pure (ps.zip us)):Binds K a ps []:=λs us ζ b=>by
 rw[FH] at b ⊢;exact .of_eq (h us b)
def Sc (CX:Hs) (X:Cx) (E:XK):Prop:=∀(pins:B')(σ:St)(H:Hp)(s:Shared)(e:Value)(Z:Shared),Inv X pins σ H s->CX X.stack H s E e Z->X.xe e Z
section
variable {X:Cx} {CX:Hs} {k:Nat} {f C:Addr} {fd:FuncData} {ps:List Str} {sp:Sp} {c:List V} {ds:List Value} {E:XK} {x m:Str} {p L apos:Pos} {e o:Expr} {es:List Expr} {ta:TE} {t:TA}
def Ly{Q:VK}{us:List Value}{vs:List V}(F:Et X.prog X.w X.K X.mg X.base CX k f fd ps sp)(d:B1 k X.A)(g:Binds X.K fd ps ds)(hd:As c ds)(i:Sc CX X E)
 (I:Inv X pins σ H s) (r:As vs us) (h:sp (vs++c) H Q E):wpAny (model X.prog X.w) X.A (call (.ref f) us) (EP X pins σ Q) X.xe s:=by
 have b:As (vs++c) (us++ds):=r.append hd;have j:(us++ds).length=ps.length:=by rw[<-b.length];exact F.len _ _ _ _ h
 refine wpAny_call (codeAny_mono (F.run X.A X.stack s H ⟨us,[]⟩ (us++ds) (vs++c) Q E d I.env0 (g s us I.kIn j) b h) λr Z a=>?_)
 cases r with
 |error e=>exact i pins σ H s e Z I a
 |ok l =>
   cases l with
   |ret u=>exact I.after a
   |next=>exact False.elim a
   |brk=>exact False.elim a
   |cont=>exact False.elim a
def Jf(F:Et X.prog X.w X.K X.mg X.base CX k f fd ps sp)(b:B1 k X.A)(d:Gl X x)(g:X.mg x=some (.ref f))(i:PySem.W.keepIn X.K (.ref f)=true)(j:Binds X.K fd ps ds)(hd:As c ds)(l:Sc CX X E)
 (m:PA X (e::es) t) (o:(x==("__debug__" : Str))=false:=by decide) (n:starEach (e::es) X.env=(false,eval e X.env)::starEach es X.env:=by rfl) (u:(backTo L (starEach es X.env)).any (·.1)=false:=by rfl) :
 PE X (.Call (.Name x p) (e::es) [] L) (Ht sp c E t):=by
 intro pins s σ H Q I h;refine wpAny_Call_Name_kw (UU I d g ?_ o);refine PySem.W.callWith_K (h₀:=X.base) I.ok.mod.kin i (AS (m L pins s σ H _ I h) λv w⟨y,Y,a,r,q⟩=>⟨a.kIn,?_⟩) n u;exact Ly F b j hd l a r q
end
section
variable {X:Cx} {CX:Hs} {k:Nat} {f C:Addr} {fd:FuncData} {ps ks:List Str} {sp:Sp} {E:XK} {x m:Str} {p L apos kpos:Pos} {e o:Expr} {es:List Expr} {kws:List Keyword} {te ta:TE} {t tk:TA} {nm:Option Str}
variable {g:List Value->List Value->List Value} {gV:List V->List V->List V}
end
structure Ag (N P:List Str) (sc:Scope):Prop where
 kind:sc.kind=.function
 co:sc.isCoroutine=false
 gen:sc.isGenerator=false
 nd:N.Nodup
 pre:N.take P.length=P
 par:∀x∈P,sc.names.lookup x=some .local\/sc.names.lookup x=some .cell
 nofree:∀y∈sc.names,y.2≠.free
theorem U7{kindOf:Str->Option NameKind}{x:Str}:∀{binds:List (Str×Value)}{m:Str->Option Value},(∀v,(x,v)∉binds)->bindL kindOf binds m x=m x
 |[],_,_=>rfl
 |(n,v)::r,m,h=>by
   unfold bindL;rw[U7 λw a=>h w (Co _ a)];split;have:x≠n:=by rintro rfl;exact h v BB
   simp[this];rfl
theorem U8{kindOf:Str->Option NameKind}{x:Str}:∀{binds:List (Str×Value)}{m:Str->Option Value},(∀v,(x,v)∉binds)->bindC kindOf binds m x=m x
 |[],_,_=>rfl
 |(n,v)::r,m,h=>by
   unfold bindC;rw[U8 λw a=>h w (Co _ a)];split;rfl;have:x≠n:=by rintro rfl;exact h v BB
   simp[this]
theorem U9{kindOf:Str->Option NameKind}{x:Str}{v:Value}:∀{P:List Str}{vs:List Value}{i:Nat}{m:Str->Option Value},P.Nodup->P[i]?=some x->vs[i]?=some v->kindOf x=some .local ->
 bindL kindOf (P.zip vs) m x=some v
 |[],_,_,_,_,h,_,_=>by simp at h
 |_::_,[],_,_,_,_,h,_=>by simp at h
 |p::P,w::vs,0,m,c,a,b,d=>by
   simp at a b;subst a;subst b;show bindL kindOf ((p,w)::P.zip vs) m p=_;unfold bindL;rw[U7 λv hv=>(Gw.mp c).1 (List.of_mem_zip hv).1,Al d]
   simp
 |p::P,w::vs,i+1,m,c,a,b,d=>by
   show bindL kindOf ((p,w)::P.zip vs) m x=_;unfold bindL;exact U9 (i:=i) (Gw.mp c).2 (by simpa using a) (by simpa using b) d
theorem Va{kindOf:Str->Option NameKind}{x:Str}{v:Value}:∀{P:List Str}{vs:List Value}{i:Nat}{m:Str->Option Value},P.Nodup->P[i]?=some x->vs[i]?=some v->kindOf x≠some .local ->
 bindC kindOf (P.zip vs) m x=some v
 |[],_,_,_,_,h,_,_=>by simp at h
 |_::_,[],_,_,_,_,h,_=>by simp at h
 |p::P,w::vs,0,m,c,a,b,d=>by
   simp at a b;subst a;subst b;show bindC kindOf ((p,w)::P.zip vs) m p=_;unfold bindC;rw[U8 λv hv=>(Gw.mp c).1 (List.of_mem_zip hv).1,Ak d]
   simp
 |p::P,w::vs,i+1,m,c,a,b,d=>by
   show bindC kindOf ((p,w)::P.zip vs) m x=_;unfold bindC;exact Va (i:=i) (Gw.mp c).2 (by simpa using a) (by simpa using b) d
def start (N:List Str) (vs:List V):St:=vs.map some++List.replicate (N.length-vs.length) none
def AG (CX:Hs) (P:Program) (w:World) (K:Ah) (mg:Str->Option Value) (base:Heap) (N:List Str) (qual:Str) (scope:Scope) (f:Addr) (cd:Value) (A:Around) (outer:List Env) (s:Shared) (H:Hp) (E:XK):Cx where
 prog:=P
 w:=w
 K:=K
 mg:=mg
 base:=base
 A:=A.deeper (envOfC qual scope s.heap.objs.size f cd)
 N:=N
 s₀:=s
 H₀:=H
 env:=envOfC qual scope s.heap.objs.size f cd
 outer:=outer
 stack:=envOfC qual scope s.heap.objs.size f cd::outer
 ex:=[]
 calm:=true
 fn:=λζ=>true
 pn:=[]
 xe:=λe Z=>wpAny (model P w) (A.deeper (envOfC qual scope s.heap.objs.size f cd)) (leaving (envOfC qual scope s.heap.objs.size f cd) e) (λζ s''=>CX outer H s E e s'') (λe' s''=>CX outer H s E e' s'') Z
def Vb{a:Scope}{n:Nat}{x:Str}(h:a.names.lookup x=some .cell):∃c,(cellsFrom n a.names []).lookup x=some c:=by
 have q:=PySem.W.cellsFrom_some a.names n [] (.inl h);exact Option.isSome_iff_exists.mp q
def Yo{CX:Hs}{K:Ah}{C:Str->Option Value}{F:Heap}{N:List Str}{B:Str}{scope:Scope}{f:Addr}{m:Value}{G:List Env}{I:Shared}{E:XK}{us:List Value}{vs:List V}
 (S:Ag N ps scope) (hd:A.handled=none) (g:Je P w K C F A G s H) (R:vs.length=ps.length) (r:As vs us)
 (x:InCallC s s.heap.objs.size (bindL (envOfC B scope s.heap.objs.size f m).kindOf (ps.zip us) λζ=>none) (cellsFrom (s.heap.objs.size+1) scope.names []) (bindC (envOfC B scope s.heap.objs.size f m).kindOf (ps.zip us) λζ=>none) I) :
 Inv (AG CX P w K C F N B scope f m A G s H E) [] (start N vs) H I:=by
 have U:ps.length<=N.length:=by have:=BJ List.length S.pre;rw[FN] at this;lia
 obtain⟨o,tk,rfl,J⟩:=x.done;have D:∀b:Addr,b∉(AG CX P w K C F N B scope f m A G s H E).ex:=λb z=>absurd (show b∈([]:List Addr) from z) (by simp)
 refine⟨⟨g.mod,S.kind,rfl,rfl,AD _,λy z c o d=>?_,λy j=>?_,λy c ζ h=>?_,λζ=>hd,Around.frames_deeper g.frames,.inr ⟨rfl,rfl⟩,λb z=>absurd z (D b),g.bs,g.bsz,λb ζ ζ=>D b,λb z=>absurd z (D b),g.funs,g.frf⟩,
  rfl,g.bare,Un.kept J,⟨_,x.toInCall.ns,λi y v o d T=>?_⟩,λy c h=>⟨_,x.cell y c h⟩,g.hok.fresh (AD _),λy c h=>?_,λp l=>absurd (show p∈([]:B') from l) (by simp),g.hok.kept J,?_⟩
 exact name_of_addr x.apart (Gj o) (Gj d);have j:scope.names.lookup y=some .cell\/scope.names.lookup y=some .free:=j;rcases j with j|j;exact Vb j;exact absurd rfl (S.nofree _ (Gj j));exact Dm (x.above y c (Gj h))
 have t:i<vs.length:=by
  unfold start at d;by_cases t:i<vs.length;exact t;rw[EW (by simpa using t)] at d;rw[List.getElem?_replicate] at d;split at d<;>cases d
 have O:vs[i]?=some v:=by
  unfold start at d;rw[EJ (by simpa using t),Bh] at d
  cases e:vs[i]? with
  |none=>rw[e] at d;cases d
  |some a=>rw[e] at d;cases d;rfl
 obtain⟨u,L,Q⟩:=r.get O
 have l:ps[i]?=some y:=by
  rw[<-S.pre,List.getElem?_take_of_lt (by lia)];exact o
 have M:ps.Nodup:=by rw[<-S.pre];exact S.nd.sublist (List.take_sublist _ _)
 refine⟨u,Q,?_⟩;rcases S.par y (Bl l) with k|k;exact .inl ⟨k,U9 M l L k⟩;obtain⟨c,e⟩:=Vb (n:=s.heap.objs.size+1) k;refine .inr ⟨.inl k,c,e,?_⟩;have q:=x.cell y c e;rw[Va M l L (by show scope.names.lookup y≠_;rw[k];decide)] at q;exact q;exact g.hok.fresh (Dm (x.above y c (Gj h)));unfold start;show _=N.length;rw[AY,An,List.length_replicate];lia
def N4{CX:Hs}{K:Ah}{i:Str->Option Value}{j:Heap}{k:Nat}{f:Addr}{name c:Str}{M:Arguments}{body:List Stmt}{scope:Scope}{p kV F z a ct O:Value}{B R:Option Addr}
 {aa:Array (Option Value)} {N:List Str} {sp:Sp} (T:K.lookup f=some ⟨O,R,.func (PySem.W.fnOf name c M body scope p kV F z B a ct),aa⟩) (ab:PySem.W.codeIn K a c=true) (S:Ag N ps scope)
 (len:∀vs H Q E,sp vs H Q E->vs.length=ps.length)
 (af:∀(A:Around)(g:List Env)(s:Shared)(H:Hp)(vs:List V)(Q:VK)(E:XK),B1 k (A.deeper (envOfC c scope s.heap.objs.size f a))->sp vs H Q E ->
  ∃t,Gm (AG CX P w K i j N c scope f a A g s H E) body t/\t {nx:=λζ H'=>Q .non H',rt:=Q} (start N vs) H) :
 Et P w K i j CX (k+1) f (PySem.W.fnOf name c M body scope p kV F z B a ct) ps sp:=by
 refine⟨len,λA g s H ai U vs Q E l h W r G=>?_⟩;have X:=len _ _ _ _ G;have C:K.In s.heap:=h.mod.kin.keeps λb o e=>(h.bs b o e).1;have ae:s.heap.NoLimit:=h.mod.nolimit.keeps λb o e=>(h.bs b o e).1
 have ag:∀y∈ps.zip U,scope.names.lookup y.1=some .local\/(scope.names.lookup y.1=some .cell/\((cellsFrom (s.heap.objs.size+1) scope.names []).lookup y.1).isSome=true):=λ⟨n,v⟩Y=>by
  rcases S.par n (List.of_mem_zip Y).1 with q|q;exact .inl q;exact .inr ⟨q,PySem.W.cellsFrom_some _ _ _ (.inl q)⟩
 refine codeAny_call_function l.depth (C _ _ T) rfl S.co S.gen rfl (PySem.W.codeRec_of C ab) (W _ _ _ _ ?_);refine wpAny_newFunctionEnv_cells S.kind ag λah he D x=>?_;subst he;refine⟨ae.keeps x.toInCall.keep,codeAny_func ?_⟩;obtain⟨t,ht,hq⟩:=af A g s H vs Q E (l.deeper _) G;have I:Inv (AG CX P w K i j N c scope f a A g s H E) [] (start N vs) H D:=Yo S l.hd h X r x;refine FP (ht [] D (start N vs) H _ I hq) (λfl Z d=>?_) λe Z d=>d
 have L:∀{σ':St}{H':Hp}{v:V}{u:Value},Inv (AG CX P w K i j N c scope f a A g s H E) [] σ' H' Z->RelV v u->Q v H'->CE g P w H s Q u Z:=
  λ{σ' H' v u}J m q=>⟨v,H',J.os,J.bare,J.base,J.hok,m,q⟩
 cases fl with
 |ret u =>
   obtain⟨v,σ',H',J,m,q⟩:=d;exact L J m q
 |next =>
   obtain⟨σ',H',J,q⟩:=d;exact L (v:=V.non) (u:=Value.none) J rfl q
 |brk =>
   obtain⟨_,_,_,q⟩:=d;exact False.elim q
 |cont =>
   obtain⟨_,_,_,q⟩:=d;exact False.elim q
section
variable {X:Cx} {x:Str} {p L:Pos} {e:Expr} {es:List Expr} {t:TA} {id T:String} {r:List V->Hp->VK->Prop}
def PD (r:List V->Hp->VK->Prop) (t:TA):TE:=λσ H Q=>t σ H λvs Y=>r vs Y Q
def BE(a:Ba X (.builtin id) r)(b:X.mg x=none)(c:PA X (e::es) t)(d:Gl X x:=by rfl)(hv:bootBuiltins x=some (.builtin id):=by decide +kernel)(f:x ≠ "__name__" :=by decide)(o:(x==("__debug__" : Str))=false:=by decide)
 (g:starEach (e::es) X.env=(false,eval e X.env)::starEach es X.env:=by rfl) (q:(backTo L (starEach es X.env)).any (·.1)=false:=by rfl):PE X (.Call (.Name x p) (e::es) [] L) (PD r t):=by
 intro pins s σ H Q I h;refine wpAny_Call_Name_kw (IX I d b hv ?_ f o);exact PyProof.Rows.callWith_builtin1 (AS (c L pins s σ H _ I h) λi j⟨k,Y,l,m,n⟩=>a pins j σ Y k i Q l m n) g q
def GA(a:Ba X (.type T) r)(b:X.mg x=none)(c:PA X (e::es) t)(d:Gl X x:=by rfl)(hv:bootBuiltins x=some (.type T):=by decide +kernel)(f:x ≠ "__name__" :=by decide)(o:(x==("__debug__" : Str))=false:=by decide)
 (g:starEach (e::es) X.env=(false,eval e X.env)::starEach es X.env:=by rfl) (q:(backTo L (starEach es X.env)).any (·.1)=false:=by rfl):PE X (.Call (.Name x p) (e::es) [] L) (PD r t):=by
 intro pins s σ H Q I h;refine wpAny_Call_Name_kw (IX I d b hv ?_ f o);exact PyProof.Rows.callWith_type1 (AS (c L pins s σ H _ I h) λi j⟨k,Y,l,m,n⟩=>a pins j σ Y k i Q l m n) g q
end
end L2
namespace HT
open PySem PyProof.Rows
section
open PySem.SeqAt
open PySem.AutoSeq1 (wpAny_loadPart')
open PySem.MeetsSeq PySem.MeetsSeq2 PySem.MeetsSeq3
end
section
variable {prog:Program} {w:World} {A:Around} {E:D'} {s:Shared}
def sIx (n d:Nat):Option Int->Nat
 |none=>d
 |some v=>if v<0 then(v+(n:Int)).toNat else min v.toNat n
def sIx_none(n d:Nat):sIx n d none=d:=rfl
def sIx_nat(n d k:Nat):sIx n d (some (k:Int))=min k n:=by
 show(if(k:Int)<0 then((k:Int)+(n:Int)).toNat else min (k:Int).toNat n)=min k n;rw[Ak (by lia),Bo]
end
end HT
namespace L2
open PySem PySem.Spec PyProof.Rows
abbrev TO:=St->Hp->(Option Int->Hp->Prop)->Prop
def PO (X:Cx) (e:Option Expr) (t:TO):Prop:=
 ∀(pins:B')(s:Shared)(σ:St)(H:Hp)(Q:Option Int->Hp->Prop),Inv X pins σ H s->t σ H Q ->
  wpAny (model X.prog X.w) X.A (evalPart e X.env) (λu Z=>∃o H',Inv X pins σ H' Z/\IsPart u o/\Q o H') X.xe s
def Jg:TO:=λζ H Q=>Q none H
def N5 (t:TE):TO:=λσ H Q=>t σ H λx Y=>∃i,x=.int i/\Q (some i) Y
def Yp{ns:List Int}:∀{us:List Value},As (ns.map V.int) us->IntsAre us ns:=by
 induction ns with
 |nil=>intro us r;rw[NG] at r;cases r;exact .nil
 |cons n ns a =>
   intro us r;rw[D9] at r
   cases r with
   |cons b c =>
     obtain⟨t,e⟩:=b;subst e;exact .cons n t (a c)
section
variable {X:Cx} {e:Expr} {te:TE} {lo hi:Option Expr} {tl th:TO} {L J:Pos}
def Jh:PO X none Jg:=by
 intro a s σ H Q I h;rw[evalPart_none];exact Aw ⟨none,H,I,.none,h⟩
def Sd(h:PE X e te):PO X (some e) (N5 te):=by
 intro f s σ H Q I a;rw[evalPart_some];refine AS (h f s σ H _ I a) λu g⟨x,Y,b,c,d⟩=>?_;obtain⟨i,rfl,q⟩:=d;obtain⟨t,rfl⟩:=c;exact⟨some i,Y,b,.int i t,q⟩
def Se (X:Cx) (r:V->Option Int->Option Int->Hp->VK->Prop):Prop:=
 ∀(pins:B')(s:Shared)(σ:St)(H:Hp)(x:V)(v vl vu:Value)(lo hi:Option Int)(sl:Addr)(Q:VK),Inv X pins σ H s->RelV x v->s.heap.IsSliceOf sl vl vu .none->IsPart vl lo->IsPart vu hi->r x lo hi H Q ->
  ∃T id,typeLookup (.type T) "__getitem__" = pure (some (.builtin id))/\s.TypeIs v T/\wpAny (model X.prog X.w) X.A (getItem v (.ref sl)) (EP X pins σ Q) X.xe s
def Yq (r:V->Option Int->Option Int->Hp->VK->Prop) (te:TE) (tl th:TO):TE:=λσ H Q=>te σ H λx Y=>tl σ Y λl H2=>th σ H2 λu H3=>r x l u H3 Q
def Vc{r:V->Option Int->Option Int->Hp->VK->Prop}(i:Se X r)(j:PE X e te)(k:PO X lo tl)(m:PO X hi th):PE X (.Subscript e (.Slice lo hi none J) L) (Yq r te tl th):=by
 intro c s σ H Q I h;refine Subscript_ (AS (j c s σ H _ I h) λv n⟨x,Y,o,p,t⟩=>?_);refine wpAny_Slice (AS (k c n σ Y _ o t) λd w⟨l,y,z,A,B⟩=>AS (m c w σ y _ z B) λf a⟨u,g,C,D,E⟩=>?_);rw[evalPart_none];refine Aw ?_;have F:Inv X c σ g {a with heap:=a.heap.push {cls:=.type "slice",data:=.fields #[d,f,.none]}}:=C.kept (t':=a.toks) λb N q=>Be _ q;obtain⟨T,id,G,K,M⟩:=i c {a with heap:=a.heap.push {cls:=.type "slice",data:=.fields #[d,f,.none]}} σ g x v d f l u a.heap.objs.size Q F p (Heap.IsSliceOf.new ..) A D E;show wpAny (model X.prog X.w) X.A (subscriptTail e (.Slice lo hi none J) v (.ref a.heap.objs.size)) (EP X c σ Q) X.xe {a with heap:=a.heap.push {cls:=.type "slice",data:=.fields #[d,f,.none]}};exact tail_any (ops:=[.ref a.heap.objs.size,v]) K G M (by with_unfolding_all rfl)
def EM (xs:List V) (lo hi:Option Int):List V:=(xs.drop (HT.sIx xs.length 0 lo)).take (HT.sIx xs.length xs.length hi-HT.sIx xs.length 0 lo)
def Yr(xs:List V)(lo hi:Option Int):(EM xs lo hi).length<=xs.length:=by
 unfold EM;rw[FN,Ks];lia
end
def Hu (n:Nat) (i:Int):Option Nat:=if 0<=i then(if i<n then some i.toNat else none) else if -(n:Int)<=i then some (i+n).toNat else none
def Bv {α:Type} (xs:List α) (i:Int):Option α:=(Hu xs.length i).bind λj=>xs[j]?
variable {n:Nat}
def Vd{i:Int}{j:Nat}(h:Hu n i=some j):seqIndex? i n=some j/\j<n/\-(n:Int)<=i/\i<n:=by
 unfold Hu at h;by_cases b:0<=i;rw[Al b] at h;by_cases a:i<n;rw[Al a] at h;have e:i.toNat=j:=AO h;exact⟨by rw[seqIndex_of b a,e],by lia,by lia,a⟩;rw[Ak a] at h;cases h;rw[Ak b] at h;by_cases a:-(n:Int)<=i;rw[Al a] at h;have e:(i+n).toNat=j:=AO h;exact⟨by rw[seqIndex_neg (by lia) a,e],by lia,a,by lia⟩;rw[Ak a] at h;cases h
def Sf{α:Type}{xs:List α}{i:Int}{v:α}(h:Bv xs i=some v):∃j,seqIndex? i xs.length=some j/\xs[j]?=some v/\j<xs.length/\-(xs.length:Int)<=i/\i<xs.length:=by
 unfold Bv at h
 cases e:Hu xs.length i with
 |none=>rw[e] at h;cases h
 |some j =>
   rw[e] at h;obtain⟨a,b,c,d⟩:=Vd e;exact⟨j,a,h,b,c,d⟩
def BX{α:Type}{xs:List α}{j:Nat}{v:α}(h:xs[j]?=some v):Bv xs (j:Int)=some v:=by
 have a:j<xs.length:=(A8.mp h).1
 have e:Hu xs.length (j:Int)=some j:=by
  unfold Hu;rw[Al (by lia),Al (by lia)];simp
 unfold Bv;rw[e];exact h
def Ji (b:Expr):Prop:=∀o i,subscripted b false o i=operate [o,i] (getItem o i)
def IG (X:Cx) (r:R2):Prop:=
 ∀(d slice:Expr)(pins:B')(s:Shared)(σ:St)(H:Hp)(x y:V)(v u:Value)(Q:VK),Inv X pins σ H s->RelV x v->RelV y u->r x y H Q ->
  subscripted slice false v u=operate [v,u] (getItem v u)->wpAny (model X.prog X.w) X.A (subscriptTail d slice v u) (EP X pins σ Q) X.xe s
def KD (X:Cx) (id:String) (r:V->List V->Hp->VK->Prop):Prop:=
 ∀(pins:B')(s:Shared)(σ:St)(H:Hp)(x:V)(xs:List V)(v:Value)(us:List Value)(Q:VK),Inv X pins σ H s->RelV x v->As xs us->r x xs H Q ->
  wpAny (model X.prog X.w) X.A (call (.builtin id) (v::us)) (EP X pins σ Q) X.xe s
section
variable {X:Cx} {a b:Expr} {ta tb:TE} {L:Pos}
def IG.or{r a:R2}(h:IG X r)(h':IG X a):IG X (λx y H Q=>r x y H Q\/a x y H Q):=by
 intro d slice f s σ H x y v u Q I b c q e;rcases q with q|q;exact h d slice f s σ H x y v u Q I b c q e;exact h' d slice f s σ H x y v u Q I b c q e
def Ay{r:R2}(c:IG X r)(d:PE X a ta)(e:PE X b tb)(f:Ji b:=by exact λζ ζ=>rfl):PE X (.Subscript a b L) (GV r ta tb):=by
 intro m s σ H Q I h;exact Subscript_ (Lr d e I h λv u g x y i j k l q=>c a b m g σ i x y v u Q j k l q (f _ _))
def N6 (K:Ah):R2:=λx y H Q=>mX x y λp xs i v=>Ae K H p xs/\Bv xs i=some v/\Q v H
def N7 (K:Ah):R2:=λx y H Q=>mX x y λp xs i v=>Ap K H p xs/\Bv xs i=some v/\Q v H
def N8:R2:=λx y H Q=>∃z i c,x=.str z/\y=.int i/\z.length<=sizeLine/\Bv z.cps.toList i=some c/\Q (.str ⟨#[c]⟩) H
def Jj:IG X (N6 X.K):=by
 intro d slice l s σ H x y v u Q I m n h e
 replace h:=mX.ex h
 obtain⟨p,J,i,z,rfl,rfl,o,A,q⟩:=h;cases m;obtain⟨t,rfl⟩:=n;obtain⟨F,r,b,K⟩:=I.list o;obtain⟨j,a,B,L,C,D⟩:=Sf A;obtain⟨w,f,G⟩:=r.get B;have E:=r.length;have M:=Na;have k:EP X l σ Q w s:=⟨z,H,I,G,q⟩;by_cases g:0<=i
 have c:i.toNat=j:=by
  rw[seqIndex_of g D] at a;exact AO a
 exact item_listR b.isList g (by lia) (by rw[c];simpa using f) k e
 have c:(i+(F.toArray.size:Int)).toNat=j:=by
  rw[seqIndex_neg (by lia) C] at a;rw[Ck,<-E];exact AO a
 exact subscriptTail_builtinR (x:=w) b.isList.typeIs slot_list_getitem.lookup
  (wpAny_getItem_list_neg (Q:=λr Z=>r=w/\EP X l σ Q r Z) b.isList (by lia) (by rw[Ck]<;>lia) (by lia) (by rw[c];simpa using f) ⟨rfl,k⟩) e
def Lz:IG X (N7 X.K):=by
 intro d slice b s σ H x y v u Q I c e h f
 replace h:=mX.ex h
 obtain⟨p,C,i,z,rfl,rfl,g,k,q⟩:=h;cases c;obtain⟨t,rfl⟩:=e;obtain⟨K,r,a,D⟩:=I.tuple g;obtain⟨j,l,m,E,F,G⟩:=Sf k;obtain⟨w,n,A⟩:=r.get m;have o:=r.length;have J:=Na;have B:EP X b σ Q w s:=⟨z,H,I,A,q⟩
 exact subscriptTail_builtinR (x:=w) a.typeIs slot_tuple_getitem.lookup
  (getItem_tuple (j:=j) (Q:=λr Z=>r=w/\EP X b σ Q r Z) a (by lia) (by lia) (by rw[Ck,<-o];exact l) (by simpa using n) ⟨rfl,B⟩) f
def LB:IG X N8:=by
 intro d slice C s σ H x y v u Q I b e h f;obtain⟨z,i,c,rfl,rfl,r,g,q⟩:=h;obtain⟨t,rfl⟩:=b;obtain⟨w,rfl⟩:=e;obtain⟨j,a,k,A,l,m⟩:=Sf g;have n:z.cps.toList.length=z.length:=(by simp[Str.length]);rw[n] at a l m;have B:=Na
 exact tail_any (typeIs_str s z t) slot_str_getitem.lookup (getItem_str (c:=c) (by
  have o:decide (i < -(2 ^ 63:Int))=false:=Do (by lia);have p:decide (i ≥ 2 ^ 63)=false:=Do (by lia)
  rw[o,p,Bool.or_false]) (by rw[a];simpa using k) ⟨.str ⟨#[c]⟩,H,I.tok _,⟨_,rfl⟩,q⟩) f
def KE (K:Ah):R2:=λx y H Q=>N6 K x y H Q\/N7 K x y H Q\/N8 x y H Q
def Az:IG X (KE X.K):=Jj.or (Lz.or LB)
def Ys(a:List Value)(n j:Nat)(u:Value):Obj.mapSeq (·.setIfInBounds j u) {cls:=.type "list",data:=.seq a.toArray n}={cls:=.type "list",data:=.seq (a.set j u).toArray n}:=by
 simp[Obj.mapSeq]
def Inv.lst{pins:B'}{σ:St}{H:Hp}{s:Shared}{p:Addr}{xs:List V}(I:Inv X pins σ H s)(h:H p=some (.lst xs)) :
 ∃(a:List Value)(n:Nat),As xs a/\s.heap.get? p=some {cls:=.type "list",data:=.seq a.toArray n}/\xs.length<=sizeLine:=by
 obtain⟨z,a,n,r,e⟩:=I.hok p _ h;exact⟨a,n,r,e,z⟩
variable {s:Shared}
def Inv.lstUpd{pins:B'}{σ:St}{H:Hp}{p:Addr}{xs ys:List V}{d its':List Value}{a:Nat}{f:Obj->Obj}(I:Inv X pins σ H s)(h:H p=some (.lst xs))
 (g:s.heap.get? p=some {cls:=.type "list",data:=.seq d.toArray n}) (c:f {cls:=.type "list",data:=.seq d.toArray n}={cls:=.type "list",data:=.seq its'.toArray a}) (r:As ys its') (hz:ys.length<=sizeLine) (t:Nat) :
 Inv X pins σ (upd H p (.lst ys)) {s with heap:=s.heap.update p f,toks:=t}:=by
 have e:(s.heap.update p f).get? p=some {cls:=.type "list",data:=.seq its'.toArray a}:=by
  rw[Heap.get?_update_self f g (by rw[c]<;>rfl),c]
 refine I.write (x:=p) (e:=p) (by rw[h];trivial) (.inl rfl) (λb u i q=>(Heap.get?_update_other _ _ (Ne.symm i)).trans q) ⟨_,e⟩ ?_;exact⟨hz,its',a,r,e⟩
def N9:V->V->V->Hp->(Hp->Prop)->Prop:=λo i v H Q=>∃p xs k j,o=.ref p/\i=.int k/\H p=some (.lst xs)/\Hu xs.length k=some j/\Q (upd H p (.lst (xs.set j v)))
def Sg:I7 X N9:=by
 intro D s σ H o i v E F u Q I x y z h;obtain⟨p,A,k,j,rfl,rfl,e,B,q⟩:=h;cases x;obtain⟨t,rfl⟩:=y;obtain⟨w,n,r,b,C⟩:=I.lst e;obtain⟨a,G,f,g⟩:=Vd B;have c:=r.length;have J:=Na
 have l:Inv X D σ (upd H p (.lst (A.set j v))) {s with heap:=s.heap.update p (Obj.mapSeq (·.setIfInBounds j u))}:=
  I.lstUpd e b (Ys w n j u) (r.set z j) (by rw[F4];exact C) s.toks
 by_cases m:0<=k
 have d:k.toNat=j:=by
  rw[seqIndex_of m g] at a;exact AO a
 exact PySem.W.ki_setAt b m (by lia) (by rw[Ck,<-c];exact g) (by rw[d];exact⟨_,l,q⟩)
 have d:(k+(w.toArray.size:Int)).toNat=j:=by
  rw[seqIndex_neg (by lia) f] at a;rw[Ck,<-c];exact AO a
 exact PySem.W.ki_setBack b (by lia) (by rw[Ck,<-c];exact f) (by lia) (by rw[d];exact⟨_,l,q⟩)
def Yt(lo a:Option Int)(n:Nat):(sliceBounds lo a none n).1=((HT.sIx n 0 lo:Nat):Int)/\(sliceBounds lo a none n).2.1=((HT.sIx n n a:Nat):Int)/\(sliceBounds lo a none n).2.2=1:=by
 refine⟨?_,?_,rfl⟩
 cases lo with
 |none=>simp[sliceBounds,HT.sIx]
 |some i =>
   simp only[sliceBounds,HT.sIx,Option.getD_none,show(1:Int) > 0 by decide,if_true];by_cases h:i<0;simp only[h,if_true]<;>lia;simp only[h,if_false]<;>lia
 cases a with
 |none=>simp[sliceBounds,HT.sIx]
 |some i =>
   simp only[sliceBounds,HT.sIx,Option.getD_none,show(1:Int) > 0 by decide,if_true];by_cases h:i<0;simp only[h,if_true]<;>lia;simp only[h,if_false]<;>lia
def Yu(a:List Value)(lo b:Option Int):slicePick a.toArray lo b none=((a.drop (HT.sIx a.length 0 lo)).take (HT.sIx a.length a.length b-HT.sIx a.length 0 lo)).toArray:=by
 obtain⟨c,d,e⟩:=Yt lo b a.toArray.size;unfold slicePick;rw[c,d,e];simp only[sliceRange_one,pick_run,Ck]<;>rfl
def Sh (K:Ah):V->Option Int->Option Int->Hp->VK->Prop:=λx lo hi H Q=>∃a xs,x=.ref a/\Ae K H a xs/\∀p,H p=none->Q (.ref p) (upd H p (.lst (EM xs lo hi)))
def Ve:Se X (Sh X.K):=by
 intro z s σ H x v p t d e u Q I g i j k h;obtain⟨a,c,rfl,l,q⟩:=h;cases g;obtain⟨y,r,f,m⟩:=I.list l;have n:=r.length;refine⟨"list",_,slot_list_getitem.lookup,f.isList.typeIs,?_⟩;refine wpAny_getItem_list_slice f.isList i j k .none (by simp) ?_ (by rw[Ck]<;>lia);rw[Yu,<-n];refine⟨.ref s.heap.objs.size,_,I.laid (t':=s.toks) (o:=.lst (EM c d e)) (λb w q=>Be _ q) (AD _) ?_,rfl,q _ (I.hok.fresh (AD _))⟩;exact⟨Em (Yr c d e) m,_,0,(r.drop (HT.sIx c.length 0 d)).take (HT.sIx c.length c.length e-HT.sIx c.length 0 d),B9 _ rfl⟩
def IH:V->Bool
 |.non=>true
 |.bl _=>true
 |.int _=>true
 |.str _=>true
 |_=>false
def II:V->V->Bool
 |.non,.non=>true
 |.bl a,.bl b=>a==b
 |.bl a,.int b=>(if a then 1 else 0)==b
 |.int a,.bl b=>a==(if b then 1 else 0)
 |.int a,.int b=>a==b
 |.str a,.str b=>a==b
 |_,_=>false
variable {x:V}
def LD{A:Around}{y:V}{u v:Value}(e:RelV y u)(c:RelV x v)(g:IH y=true)(f:IH x=true):SeqAt.EqAt A s u v (II y x):=by
 cases y with
 |non =>
   cases e
   cases x with
   |non=>cases c;exact SeqAt.EqAt.same _
   |bl b=>cases c;exact SeqAt.EqAt.none_bool b
   |int b=>obtain⟨t,rfl⟩:=c;exact SeqAt.EqAt.none_int b t
   |str b=>obtain⟨t,rfl⟩:=c;exact SeqAt.EqAt.none_str b t
   |_=>exact absurd (show false=true from f) Cz
 |bl a =>
   cases e
   cases x with
   |non=>cases c;exact SeqAt.EqAt.bool_none a
   |bl b=>cases c;exact SeqAt.EqAt.bool_bool a b
   |int b=>obtain⟨t,rfl⟩:=c;exact SeqAt.EqAt.bool_int a b t
   |str b=>obtain⟨t,rfl⟩:=c;exact SeqAt.EqAt.bool_str a b t
   |_=>exact absurd (show false=true from f) Cz
 |int a =>
   obtain⟨d,rfl⟩:=e
   cases x with
   |non=>cases c;exact SeqAt.EqAt.int_none a d
   |bl b=>cases c;exact SeqAt.EqAt.int_bool a d b
   |int b=>obtain⟨t,rfl⟩:=c;exact SeqAt.EqAt.int_int a d b t
   |str b=>obtain⟨t,rfl⟩:=c;exact SeqAt.EqAt.int_str a d b t
   |_=>exact absurd (show false=true from f) Cz
 |str a =>
   obtain⟨d,rfl⟩:=e
   cases x with
   |non=>cases c;exact SeqAt.EqAt.str_none a d
   |bl b=>cases c;exact SeqAt.EqAt.str_bool a d b
   |int b=>obtain⟨t,rfl⟩:=c;exact SeqAt.EqAt.str_int a d b t
   |str b=>obtain⟨t,rfl⟩:=c;exact SeqAt.EqAt.str_str a d b t
   |_=>exact absurd (show false=true from f) Cz
 |_=>exact absurd (show false=true from g) Cz
def Go (x:V) (u:Value):Bool:=match u with
 |.none=>II .non x
 |.bool b=>II (.bl b) x
 |.int i _=>II (.int i) x
 |.str z _=>II (.str z) x
 |_=>false
def Hv{y:V}{u:Value}(r:RelV y u)(f:IH y=true):Go x u=II y x:=by
 cases y with
 |non=>cases r;rfl
 |bl b=>cases r;rfl
 |int i=>obtain⟨t,rfl⟩:=r;rfl
 |str z=>obtain⟨t,rfl⟩:=r;rfl
 |_=>exact absurd (show false=true from f) Cz
theorem Oa{x:V}:∀{xs:List V}{us:List Value},As xs us->xs.all IH=true->us.any (Go x)=xs.any λy=>II y x
 |_,_,.nil,_=>rfl
 |y::xs,u::us,.cons r t,f=>by
   rw[List.all_cons,Bool.and_eq_true] at f;rw[List.any_cons,List.any_cons,Hv r f.1,Oa t f.2]
theorem Ob{A:Around}{s:Shared}{x:V}{v:Value}(b:RelV x v)(c:IH x=true):∀{xs:List V}{us:List Value},As xs us->xs.all IH=true->∀u∈us,SeqAt.EqAt A s u v (Go x u)
 |_,_,.nil,_=>λu a=>by cases a
 |y::xs,u::us,.cons r t,f=>λd a=>by
   rw[List.all_cons,Bool.and_eq_true] at f;rcases Cj.mp a with rfl|a;rw[Hv r f.1];exact LD r b f.1 c;exact Ob b c t f.2 d a
def KG (x:V) (xs:List V):Bool:=xs.any λy=>II y x
def Si (K:Ah) (neg:Bool):R2:=λx y H Q=>∃p xs,y=.ref p/\(Ae K H p xs\/Ap K H p xs)/\IH x=true/\xs.all IH=true/\Q (.bl (if neg then !KG x xs else KG x xs)) H
def Yv:Dc X (compareOp .In) (Si X.K false):=by
 intro k s σ H x y v u Q I e g h;obtain⟨p,j,rfl,a,f,fs,q⟩:=h;cases g;rcases a with a|a;obtain⟨b,r,c,i⟩:=I.list a;refine SeqAt.in_listAt (Go x) c.isList (λw d=>Ob e f r fs w (by simpa using d)) ⟨.bl _,H,I,rfl,?_⟩;rw[show b.toArray.any (Go x)=b.any (Go x) by simp,Oa r fs];exact q;obtain⟨b,r,c,i⟩:=I.tuple a;refine SeqAt.in_tupleAt (Go x) c (λw d=>Ob e f r fs w (by simpa using d)) ⟨.bl _,H,I,rfl,?_⟩;rw[show b.toArray.any (Go x)=b.any (Go x) by simp,Oa r fs];exact q
def Yw:Dc X (compareOp .NotIn) (Si X.K true):=by
 intro k s σ H x y v u Q I e g h;obtain⟨p,j,rfl,a,f,fs,q⟩:=h;cases g;rcases a with a|a;obtain⟨b,r,c,i⟩:=I.list a;refine SeqAt.notIn_listAt (Go x) c.isList (λw d=>Ob e f r fs w (by simpa using d)) ⟨.bl _,H,I,rfl,?_⟩;rw[show b.toArray.any (Go x)=b.any (Go x) by simp,Oa r fs];exact q;obtain⟨b,r,c,i⟩:=I.tuple a;refine SeqAt.notIn_tupleAt (Go x) c (λw d=>Ob e f r fs w (by simpa using d)) ⟨.bl _,H,I,rfl,?_⟩;rw[show b.toArray.any (Go x)=b.any (Go x) by simp,Oa r fs];exact q
def Oc:Ba X (.type "list") (λxs H Q=>∃p ys,xs=[.ref p]/\(Ae X.K H p ys\/Ap X.K H p ys)/\∀l,H l=none->Q (.ref l) (upd H l (.lst ys))):=by
 intro y s σ H xs A Q I r h;obtain⟨p,ys,rfl,g,q⟩:=h;obtain⟨u,rfl,x⟩:=Fp r;cases x
 have w:∀(c:List Value),As ys c->ys.length<=sizeLine->∀(a:Heap)(d:Nat),(∀b v,s.heap.get? b=some v->a.get? b=some v) ->
  a.get? s.heap.objs.size=some {cls:=.type "list",dict:=none,data:=.seq c.toArray d,slots:=#[]}->EP X y σ Q (.ref s.heap.objs.size) {s with heap:=a}:=λc f i a d j e =>
  ⟨.ref s.heap.objs.size,_,I.laid (t':=s.toks) j (AD _) (show AB X.prog X.w _ a _ (.lst ys) from⟨i,c,d,f,e⟩),rfl,q _ (I.hok.fresh (AD _))⟩
 rcases g with g|g;obtain⟨c,f,k,i⟩:=I.list g;have z:=f.length;obtain⟨o,m,t,n,hd⟩:=k.isList;exact call_list_seq p (.inl rfl) m t hd (λa d j e=>w c f i a d j e) (by simp only[Ck]<;>lia);obtain⟨c,f,k,i⟩:=I.tuple g;have z:=f.length;obtain⟨o,m,t,n,hd⟩:=k;exact call_list_seq p (.inr rfl) m t hd (λa d j e=>w c f i a d j e) (by simp only[Ck]<;>lia)
def Yx:Ba X (.type "tuple") (λxs H Q=>∃p ys,xs=[.ref p]/\((Ae X.K H p ys/\∀l,H l=none->Q (.ref l) (upd H l (.tup ys)))\/(Ap X.K H p ys/\Q (.ref p) H))):=by
 intro k s σ H xs v Q I r h;obtain⟨p,ys,rfl,h⟩:=h;obtain⟨u,rfl,m⟩:=Fp r;cases m;rcases h with⟨c,q⟩|⟨c,q⟩;obtain⟨g,d,f,i⟩:=I.list c;have w:=d.length;refine call_tuple_list f.isList (λa n=>?_) (by simp only[Ck]<;>lia);have j:Inv X k σ H {s with heap:=a}:=I.kept (t':=s.toks) n
 have t:Inv X k σ (upd H a.objs.size (.tup ys)) {s with heap:=a.push {cls:=.type "tuple",data:=.seq g.toArray}}:=
  j.laid (t':=s.toks) (λb o e=>Be _ e) (AD _) (show AB X.prog X.w _ _ _ (.tup ys) from⟨i,g,d,IsTup.new _ _⟩)
 exact⟨.ref a.objs.size,_,t,rfl,q _ (j.hok.fresh (AD _))⟩;obtain⟨g,d,f,i⟩:=I.tuple c;exact call_tuple_same f ⟨.ref p,H,I,rfl,q⟩
def Sj (K:Ah) (T:String) (x:V) (H:Hp):Prop:=match x with
 |.str _=>T = "str"
 |.int _=>T = "int"
 |.ref p=>(T = "list" /\ ∃xs,Ae K H p xs)\/(T = "tuple" /\ ∃o,K.lookup p=some o/\o.cls=.type "tuple" /\ o.dict=none) \/
  (T = "dict" /\ ((∃kvs,H p=some (.dK kvs))\/∃kvs,H p=some (.dT kvs)))\/(T = "set" /\ ∃S n,H p=some (.set S n))
 |_=>False
def Hw{pins:List (Addr × Obj)}{σ:St}{H:Hp}{T:String}{v:Value}(I:Inv X pins σ H s)(r:RelV x v)(ty:Sj X.K T x H) :
 s.TypeIs v T/\∀a,v=.ref a->∃ob,s.heap.get? a=some ob/\ob.dict=none:=by
 cases x with
 |str z =>
   obtain⟨t,rfl⟩:=r
   cases(show T = "str" from ty)
   exact⟨typeIs_str s z t,λζ e=>nomatch e⟩
 |int i =>
   obtain⟨t,rfl⟩:=r
   cases(show T = "int" from ty)
   exact⟨typeIs_int s i t,λζ e=>nomatch e⟩
 |ref p =>
   cases r;rcases ty with⟨rfl,k,g⟩|⟨rfl,o,b,h,hd⟩|⟨rfl,b⟩|⟨rfl,S,n,b⟩;obtain⟨l,_,f,_⟩:=I.list g;refine⟨f.isList.typeIs,λa e=>?_⟩;cases e;obtain⟨o,n,e,c,hd,_⟩:=f;exact⟨o,e,hd⟩;refine⟨⟨o,I.kIn p o b,h⟩,λa e=>?_⟩;cases e;exact⟨o,I.kIn _ o b,hd⟩
   have z:∃o,s.heap.get? p=some o/\o.ExactDict:=by
    rcases b with⟨j,b⟩|⟨j,b⟩;obtain⟨_,_,_,_,o,_,_,e,ex,_⟩:=I.hok p _ b;exact⟨o,e,ex⟩;obtain⟨_,_,_,_,o,_,_,e,ex,_⟩:=I.hok p _ b;exact⟨o,e,ex⟩
   obtain⟨o,e,ex⟩:=z;refine⟨⟨o,e,ex.1⟩,λa d=>?_⟩;cases d;exact⟨o,e,ex.2.1⟩;obtain⟨o,_,_,_,e,ex,_⟩:=I.hok p _ b;refine⟨⟨o,e,ex.1⟩,λa d=>?_⟩;cases d;exact⟨o,e,ex.2.1⟩
 |_=>exact False.elim ty
def Sk (K:Ah) (T:String) (r:V->List V->Hp->VK->Prop) (c:TE):TE:=λσ H Q=>c σ H λx Y=>Sj K T x Y/\r x [] Y Q
def Yy (K:Ah) (T:String) (r:V->List V->Hp->VK->Prop) (c:TE) (t:TA):TE:=λσ H Q=>c σ H λx Y=>Sj K T x Y/\t σ Y λxs H2=>r x xs H2 Q
variable {o e:Expr} {es:List Expr} {c:TE} {t:TA} {name:Str} {apos cpos:Pos} {T id:String} {r:V->List V->Hp->VK->Prop}
def Hx(e:PlainAttrs T)(n:Slot T name id)(m:typeOf (.builtin id)=pure (.type "method_descriptor"))(f:KD X id r)(g:PE X o c)
 (p:attributeBase o name X.env (eval o X.env)=eval o X.env:=by rfl) (q:(apos.endLine==cpos.line)=true:=by rfl):PE X (.Call (.Attribute o name apos) [] [] cpos) (Sk X.K T r c):=by
 intro d s σ H Q I h;refine wpAny_Call_method0_late p q (AS (g d s σ H _ I h) λv i⟨x,Y,a,b,ty,j⟩=>?_);obtain⟨k,l⟩:=Hw a b ty;exact⟨T,id,e,n,m,k,l,Calls.callWith_builtin rfl (PySem.evalArgs_none (f d i σ Y x [] v [] Q a b .nil j))⟩
def DN(g:PlainAttrs T)(E:Slot T name id)(D:typeOf (.builtin id)=pure (.type "method_descriptor"))(i:KD X id r)(j:PE X o c)(k:PA X (e::es) t)
 (G:attributeBase o name X.env (eval o X.env)=eval o X.env:=by rfl)
 (F:((backTo cpos (starEach (e::es) X.env)).all (λx=>!x.1) && (backToKw cpos (keywordEach [] X.env)).all (λx=>x.1.isSome)
  && decide ((e::es).length+([]:List Keyword).length+(if([]:List Keyword).isEmpty then 0 else 1)<30))=true:=by rfl)
 (J:(apos.endLine==cpos.line)=true:=by rfl) (l:starEach (e::es) X.env=(false,eval e X.env)::starEach es X.env:=by rfl) (K:(backTo cpos (starEach es X.env)).any (·.1)=false:=by rfl) :
 PE X (.Call (.Attribute o name apos) (e::es) [] cpos) (Yy X.K T r c t):=by
 intro a s σ H Q I h;refine wpAny_Call_method_late G F J rfl (AS (j a s σ H _ I h) λv m⟨x,Y,b,d,ty,n⟩=>?_);obtain⟨p,q⟩:=Hw b d ty;refine⟨T,id,g,E,D,p,q,?_⟩;have f:=k cpos a m σ Y _ b n;rw[l] at f ⊢;refine Calls.callWith_builtin (by show(false || (backTo cpos (starEach es X.env)).any (·.1))=false;rw[K]<;>rfl) (Calls.evalArgs_plain ?_);exact AS f λu w⟨y,z,A,B,C⟩=>i a w σ z x y v u Q A d B C
end
def PH (X:Cx) (id:String) (r:V->List V->Hp->VK->Prop):Prop:=
 ∀(pins:B')(s:Shared)(σ:St)(H:Hp)(x:V)(xs:List V)(v:Value)(us:List Value)(Q:VK),Inv X pins σ H s->RelV x v->As xs us->r x xs H Q ->
  wpAny (model X.prog X.w) X.A (call (.builtin id) (v::us)) (EP X pins σ Q) X.xe s
theorem As.one:∀{x:V}{us:List Value},As [x] us->∃u,us=[u]/\RelV x u
 |_,_,.cons r .nil=>⟨_,rfl,r⟩
theorem As.zero:∀{us:List Value},As [] us->us=[]
 |_,.nil=>rfl
def As.reverse{xs:List V}{us:List Value}(h:As xs us):As xs.reverse us.reverse:=by
 induction h with
 |nil=>exact .nil
 |cons r t a=>rw[List.reverse_cons,List.reverse_cons];exact As.append a (.cons r .nil)
section
variable {X:Cx} {pins:B'} {σ:St} {H:Hp} {s:Shared} {l b:Addr} {xs ys zs:List V}
def Inv.lset{a its':List Value}{f:Array Value->Array Value}{t':Nat}(I:Inv X pins σ H s)(b:H l=some (.lst xs))
 (e:s.heap.get? l=some {cls:=.type "list",data:=.seq a.toArray n}) (c:f a.toArray=its'.toArray) (hv:As ys its') (hz:ys.length<=sizeLine) :
 Inv X pins σ (upd H l (.lst ys)) {s with heap:=s.heap.update l (Obj.mapSeq f),toks:=t'}:=by
 have q:=PySem.IsL.update e f;rw[c] at q;refine I.write (x:=l) (e:=l) (by rw[b];exact trivial) (.inl rfl) (λh u d g=>(Heap.get?_update_other s.heap (Obj.mapSeq f) (Ne.symm d)).trans g) ⟨_,q⟩ ?_;exact⟨hz,its',_,hv,q⟩
def Inv.lnew{a:List Value}{t':Nat}(I:Inv X pins σ H s)(hv:As ys a)(hz:ys.length<=sizeLine) :
 Inv X pins σ (upd H s.heap.objs.size (.lst ys)) {s with heap:=s.heap.push {cls:=.type "list",data:=.seq a.toArray},toks:=t'}:=
 I.laid (λζ ζ q=>Be _ q) (AD _) ⟨hz,a,0,hv,B9 _ rfl⟩
def Inv.fresh(I:Inv X pins σ H s):H s.heap.objs.size=none:=I.hok.fresh (AD _)
def Inv.lstM(I:Inv X pins σ H s)(b:H l=some (.lst xs)):xs.length<=sizeLine/\∃(a:List Value)(n:Nat),As xs a/\xs.length=a.length/\s.heap.get? l=some {cls:=.type "list",data:=.seq a.toArray n}:=by
 obtain⟨z,a,n,r,e⟩:=I.hok l _ b;exact⟨z,a,n,r,r.length,e⟩
def Yz(h:n<=sizeLine):Builtin.List.listTooLong n=false:=by
 unfold Builtin.List.listTooLong;exact Do (by lia)
end
section
variable {X:Cx}
def Vf:V->List V->Hp->VK->Prop:=λx vs H Q=>mA x vs λl xs y=>H l=some (.lst xs)/\xs.length<sizeLine/\Q .non (upd H l (.lst (xs++[y])))
theorem Vg:PH X "list.append" Vf:=by
 intro o s σ H x g v i Q I c d h
 replace h:=mA.ex h
 obtain⟨l,j,y,rfl,rfl,a,k,q⟩:=h;cases c;obtain⟨u,rfl,f⟩:=d.one;obtain⟨z,b,n,r,m,e⟩:=I.lstM a;refine call_meets F.slot_list_append ⟨_,e,rfl⟩ F.entry_list_append (F.args_list_append_2 _ _) (PySem.list_append l b.toArray n u (by rw[Ck];lia)) ⟨e,?_⟩;refine⟨.non,_,I.lset (its':=b++[u]) a e (by simp) (r.append (.cons f .nil)) ?_,rfl,q⟩;rw[AY,DJ];lia
def Vh:V->List V->Hp->VK->Prop:=λx vs H Q=>∃l b xs zs,x=.ref l/\vs=[.ref b]/\H l=some (.lst xs)/\H b=some (.lst zs)/\xs.length+zs.length<=sizeLine/\Q .non (upd H l (.lst (xs++zs)))
theorem YA:PH X "list.extend" Vh:=by
 intro J s σ H x w v y Q I f g h;obtain⟨l,b,A,B,rfl,rfl,d,i,C,q⟩:=h;cases f;obtain⟨u,rfl,j⟩:=g.one;cases j;obtain⟨z,a,n,r,D,e⟩:=I.lstM d;obtain⟨E,c,k,m,G,o⟩:=I.lstM i;have p:a.toArray.size+c.toArray.size<=sizeLine:=by rw[Ck,Ck];lia
 have t:¬(!a.toArray.isEmpty && Builtin.List.listTooLong (a.toArray.size+c.toArray.size))=true:=by
  rw[Yz p,Bool.and_false];exact Cz
 refine call_meets F.slot_list_extend ⟨_,e,rfl⟩ F.entry_list_extend (F.args_list_extend_2 _ _)
  (AutoSeq1.list_extend_list_list_0 l a.toArray n b c.toArray k t (by rw[Ck];lia) (by lia)) ⟨e,o,?_⟩
 refine⟨.non,_,I.lset (its':=a++c) d e (by simp) (r.append m) ?_,rfl,q⟩;rw[AY];lia
def Vi:V->List V->Hp->VK->Prop:=λx vs H Q=>∃l xs,x=.ref l/\vs=[]/\H l=some (.lst xs)/\Q .non (upd H l (.lst xs.reverse))
theorem YB:PH X "list.reverse" Vi:=by
 intro m s σ H x g v i Q I c d h;obtain⟨l,j,rfl,rfl,a,q⟩:=h;cases c;have f:=d.zero;subst f;obtain⟨z,b,n,r,k,e⟩:=I.lstM a;refine call_meets F.slot_list_reverse ⟨_,e,rfl⟩ F.entry_list_reverse (F.args_list_reverse_1 _) (AutoSeq1.list_reverse_list_0 l b.toArray n (by rw[Ck];lia)) ⟨e,?_⟩;refine⟨.non,_,I.lset (its':=b.reverse) a e (by simp) r.reverse ?_,rfl,q⟩;rw[List.length_reverse];lia
def Hy:V->List V->Hp->VK->Prop:=λx vs H Q=>∃l xs,x=.ref l/\vs=[]/\H l=some (.lst xs)/\Q .non (upd H l (.lst []))
theorem YC:PH X "list.clear" Hy:=by
 intro m s σ H x g v i Q I b c h;obtain⟨l,j,rfl,rfl,a,q⟩:=h;cases b;have d:=c.zero;subst d;obtain⟨z,f,n,r,k,e⟩:=I.lstM a;refine call_meets F.slot_list_clear ⟨_,e,rfl⟩ F.entry_list_clear (F.args_list_clear_1 _) (AutoSeq1.list_clear_list_0 l f.toArray n (by rw[Ck];lia)) ⟨e,?_⟩;exact⟨.non,_,I.lset (its':=[]) (ys:=[]) a e rfl .nil (Cm _),rfl,q⟩
def Sl:R2:=λx y H Q=>∃l b xs zs,x=.ref l/\y=.ref b/\H l=some (.lst xs)/\H b=some (.lst zs)/\xs.length+zs.length<=sizeLine/\∀p,H p=none->Q (.ref p) (upd H p (.lst (xs++zs)))
def PJ:Dc X (binaryOp .Add) Sl:=by
 intro D s σ H x y v u Q I d f h;obtain⟨l,b,o,p,rfl,rfl,g,i,t,q⟩:=h;cases d;cases f;obtain⟨z,a,n,r,w,e⟩:=I.lstM g;obtain⟨A,c,B,j,C,k⟩:=I.lstM i;refine PySem.P.add_list e k ?_ (by rw[Ck,Ck];lia);have m:a.toArray++c.toArray=(a++c).toArray:=(by simp);rw[m];exact⟨.ref _,_,I.lnew (t':=s.toks) (r.append j) (by rw[AY];lia),rfl,q _ I.fresh⟩
end
section
variable {prog:Program} {w:World} {A:Around} {E:D'} {s:Shared}
end
section
variable {X:Cx}
end
section
variable {κ:Type} [DecidableEq κ]
def AL (kvs:List (κ×V)) (k:κ):Option V:=(kvs.find? λkv=>decide (kv.1=k)).map (·.2)
def A0 (kvs:List (κ×V)) (k:κ) (v:V):List (κ×V):=
 if(kvs.any λkv=>decide (kv.1=k))=true then kvs.map (λkv=>if kv.1=k then(kv.1,v) else kv) else kvs++[(k,v)]
def G7{p:κ×V}{r:List (κ×V)}{k:κ}(e:p.1=k):AL (p::r) k=some p.2:=by simp[AL,M4,e]
def G8{p:κ×V}{r:List (κ×V)}{k:κ}(e:¬p.1=k):AL (p::r) k=AL r k:=by simp[AL,M4,e]
theorem Od(k:κ):∀a:List (κ×V),(a.any λb=>decide (b.1=k))=(AL a k).isSome
 |[]=>rfl
 |p::r=>by
   rw[List.any_cons];by_cases e:p.1=k;simp only[G7 e,A7 e,Bool.true_or,Option.isSome_some];rw[G8 e,Do e,Bool.false_or];exact Od k r
theorem Vj(k j:κ)(y:V):∀c:List (κ×V),AL (c.map λa=>if a.1=k then(a.1,y) else a) j=(AL c j).map λx=>if j=k then y else x
 |[]=>rfl
 |p::r=>by
   have b:=Vj k j y r;rw[D9];by_cases h:p.1=k;rw[Al h];by_cases e:p.1=j;rw[G7 (p:=(p.1,y)) e,G7 e,Option.map_some,Al (e.symm.trans h)];rw[G8 (p:=(p.1,y)) e,G8 e,b];rw[Ak h];by_cases e:p.1=j;rw[G7 (p:=p) e,G7 e,Option.map_some,Ak (λz=>h (e.trans z))];rw[G8 (p:=p) e,G8 e,b]
theorem Vk(k j:κ)(y:V):∀b:List (κ×V),AL b k=none->AL (b++[(k,y)]) j=if j=k then some y else AL b j
 |[],_=>by
   by_cases e:k=j;rw[Al e.symm];exact G7 (p:=(k,y)) e;rw[Ak (λz=>e z.symm)];exact G8 (p:=(k,y)) e
 |p::r,a=>by
   rw[List.cons_append];have c:¬p.1=k:=λz=>by rw[G7 z] at a;cases a
   rw[G8 c] at a;have d:=Vk k j y r a;by_cases e:p.1=j;rw[G7 e,G7 e,Ak (λz=>c (e.trans z))];rw[G8 e,G8 e,d]
def Oe(b:List (κ×V))(k j:κ)(y:V):AL (A0 b k y) j=if j=k then some y else AL b j:=by
 unfold A0;by_cases a:(b.any λc=>decide (c.1=k))=true;rw[Al a,Vj];rw[Od] at a;by_cases e:j=k;obtain⟨x,d⟩:=Option.isSome_iff_exists.mp a;rw[Al e,e,d,Option.map_some,Al rfl];rw[Ak e]
 cases AL b j with
 |none=>rfl
 |some x=>rw[Option.map_some,Ak e]
 rw[Ak a];refine Vk k j y b ?_;rw[Od] at a
 cases q:AL b k with
 |none=>rfl
 |some x=>rw[q] at a;exact(a rfl).elim
def Of(a:List (κ×V))(k:κ)(v:V):(A0 a k v).length<=a.length+1:=by
 unfold A0;split;rw[An];lia;rw[AY,El,Gx];lia
def Ea.isSome_eq{o:Option V}{u:Option Value}(r:Ea o u):o.isSome=u.isSome:=by
 cases o with
 |none=>cases u with
   |none=>rfl
   |some _=>exact(show False from r).elim
 |some _=>cases u with
   |none=>exact(show False from r).elim
   |some _=>rfl
def Ea.getD{o:Option V}{u:Option Value}{d:V}{d':Value}(r:Ea o u)(a:RelV d d'):RelV (o.getD d) (u.getD d'):=by
 cases o with
 |none=>cases u with
   |none=>exact a
   |some _=>exact(show False from r).elim
 |some _=>cases u with
   |none=>exact(show False from r).elim
   |some _=>exact r
variable {kvs:List (κ×V)}{vs:List (κ×Value)}
def KV.val(r:KV kvs vs)(k:κ):Ea (AL kvs k) (valueAt vs k):=by
 unfold KV at r
 induction r with
 |nil=>exact True.intro
 |@cons p q i a h t f =>
   obtain⟨d,g⟩:=h;by_cases e:p.1=k;have c:q.1=k:=d.symm.trans e;have b:valueAt (q::a) k=some q.2:=(by simp[valueAt,M4,c]);rw[G7 e,b];exact g;have c:¬q.1=k:=λz=>e (d.trans z);have b:valueAt (q::a) k=valueAt a k:=(by simp[valueAt,M4,c]);rw[G8 e,b];exact f
def KV.any{kvs:List (κ×V)}{vs:List (κ×Value)}(r:KV kvs vs)(k:κ):(kvs.any λa=>decide (a.1=k))=vs.any λa=>decide (a.1=k):=by
 unfold KV at r
 induction r with
 |nil=>rfl
 |cons h t b=>rw[List.any_cons,List.any_cons,b,h.1]
def KV.repl(r:KV kvs vs)(k:κ){y:V}{u:Value}(c:RelV y u) :
 KV (kvs.map λa=>if a.1=k then(a.1,y) else a) (vs.map λa=>if a.1=k then(a.1,u) else a):=by
 unfold KV at r ⊢
 induction r with
 |nil=>exact .nil
 |@cons p q g i h t d =>
   rw[D9,D9];refine .cons ?_ d;obtain⟨b,f⟩:=h;by_cases e:p.1=k;rw[Al e,Al (b.symm.trans e)];exact⟨b,c⟩;rw[Ak e,Ak (λz=>e (b.trans z))];exact⟨b,f⟩
def KV.put(r:KV kvs vs)(k:κ){y:V}{u:Value}(a:RelV y u):KV (A0 kvs k y) (stored vs k u):=by
 unfold A0 stored;rw[r.any k];by_cases e:(vs.any λb=>decide (b.1=k))=true;rw[Al e,Al e];exact r.repl k a;rw[Ak e,Ak e];exact Paired.snoc r ⟨rfl,a⟩
def KV.length{kvs:List (κ×V)}{vs:List (κ×Value)}(r:KV kvs vs):kvs.length=vs.length:=Paired.length r
end
variable {P:Program}{w:World}{u:Value}
def Nb{k:AN}(r:RelV (kV k) u):(EK P w).is k u=true:=by
 cases k with
 |inl i=>obtain⟨t,e⟩:=(show ∃t,u=Value.int i t from r);subst e;exact X3 P w i t
 |inr x=>obtain⟨t,e⟩:=(show ∃t,u=Value.str x t from r);subst e;exact X4 P w x t
theorem Vl{P:Program}{w:World}:∀{ks:List AN}{us:List Value},As (ks.map kV) us->ItemsAre (EK P w) ks us
 |[],_,r=>by rw[NG] at r;cases r;exact .nil
 |k::ks,_,r=>by
   rw[D9] at r
   cases r with
   |cons h t=>exact .cons (Nb h) (Vl t)
abbrev KT (H:Hp):List (List AN×V)->List (List AN×Addr×Value)->Prop:=Paired λp q=>p.1=q.1/\H q.2.1=some (.tup (p.1.map kV))/\RelV p.2 q.2.2
variable {H:Hp}{kvs:List (List AN×V)}{xs:List (List AN×Addr×Value)}
def KT.val(r:KT H kvs xs)(k:List AN):Ea (AL kvs k) ((atKey xs k).map (·.2)):=by
 induction r with
 |nil=>exact True.intro
 |@cons p q i a h t f =>
   obtain⟨d,_,g⟩:=h;by_cases e:p.1=k;have c:q.1=k:=d.symm.trans e;have b:atKey (q::a) k=some q.2:=(by simp[atKey,M4,c]);rw[G7 e,b];exact g;have c:¬q.1=k:=λz=>e (d.trans z);have b:atKey (q::a) k=atKey a k:=(by simp[atKey,M4,c]);rw[G8 e,b];exact f
variable {y:V}
def KT.repl(r:KT H kvs xs)(k:List AN)(d:RelV y u) :
 KT H (kvs.map λb=>if b.1=k then(b.1,y) else b) (xs.map (putAt k u)):=by
 induction r with
 |nil=>exact .nil
 |@cons p q i j h t f =>
   rw[D9,D9];refine .cons ?_ f;obtain⟨a,c,g⟩:=h;unfold putAt;by_cases e:p.1=k;rw[Al e,Al (a.symm.trans e)];exact⟨a,c,d⟩;rw[Ak e,Ak (λz=>e (a.trans z))];exact⟨a,c,g⟩
def KT.put(r:KT H kvs xs)(k:List AN){b:Addr}(c:H b=some (.tup (k.map kV)))(a:RelV y u) :
 KT H (A0 kvs k y) (storedH xs k b u):=by
 have e:(kvs.any λd=>decide (d.1=k))=(atKey xs k).isSome:=by
  rw[Od,(r.val k).isSome_eq,Option.isSome_map]
 unfold A0 storedH;rw[e];by_cases q:(atKey xs k).isSome=true;rw[Al q,Al q];exact r.repl k a;rw[Ak q,Ak q];exact Paired.snoc r ⟨rfl,c,a⟩
variable {H':Hp}
def KT.keeps(r:KT H kvs xs)(a:∀b ys,H b=some (.tup ys)->H' b=some (.tup ys)):KT H' kvs xs:=
 Paired.mapP r λζ ζ z=>⟨z.1,a _ _ z.2.1,z.2.2⟩
section
variable {P:Program} {w:World} {H:Hp} {h:Heap} {a:Addr}
def Hz{u:HO}(ok:CZ P w H h)(e:Rd H a u):AB P w H h a u:=e.ok ok
def Nc{kvs:List (AN×V)}(ok:CZ P w H h)(e:Rd H a (.dK kvs)):kvs.length<=sizeLine/\(a==sysModules)=false/\∃vs,KV kvs vs/\h.DictOf (EK P w) a vs:=
 show AB P w H h a (.dK kvs) from Hz ok e
def KH{kvs:List (AN×V)}(ok:CZ P w H h)(e:H a=some (.dK kvs)):kvs.length<=sizeLine/\(a==sysModules)=false/\∃vs,KV kvs vs/\h.DictOf (EK P w) a vs:=Nc ok (.inl e)
def LF{ks:List AN}(ok:CZ P w H h)(e:H a=some (.tup (ks.map kV))):(tupleKind (EK P w)).is h ks a:=by
 obtain⟨_,f,r,o,b,c,n,d⟩:=(show AB P w H h a (.tup (ks.map kV)) from ok a _ e);exact⟨o,f.toArray,n,b,c,d,by simpa using Vl r⟩
def Nd(ok:CZ P w H h)(e:Rd H a (.dT kvs)):kvs.length<=sizeLine/\(a==sysModules)=false /\
 ∃xs,KT H kvs xs/\h.DictOfH (tupleKind (EK P w)) a xs:=by
 obtain⟨z,y,xs,r,o,d,f,g,i,j,k,n⟩:=(show AB P w H h a (.dT kvs) from Hz ok e);refine⟨z,y,xs,r,o,d,f,g,i,j,k,λx b=>?_,n⟩
 have all:∀{l:List (List AN × V)}{m:List (List AN × Addr × Value)},KT H l m -> ∀x∈m,(tupleKind (EK P w)).is h x.1 x.2.1:=by
  intro l m q
  induction q with
  |nil=>intro x b;exact nomatch b
  |@cons p q u v c t s =>
    intro x b;rcases Cj.mp b with e|b;subst e;exact LF ok (by rw[<-c.1];exact c.2.1);exact s x b
 exact all r x b
def HA(ok:CZ P w H h)(e:H a=some (.dT kvs)):kvs.length<=sizeLine/\(a==sysModules)=false /\
 ∃xs,KT H kvs xs/\h.DictOfH (tupleKind (EK P w)) a xs:=Nd ok (.inl e)
end
def Dq (H:Hp) (a:Addr) (y:V) (r:Option V):Prop:=
 (∃kvs k,Rd H a (.dK kvs)/\y=kV k/\r=AL kvs k)\/∃kvs k b,Rd H a (.dT kvs)/\y=.ref b/\H b=some (.tup (k.map kV))/\r=AL kvs k
def HB (H:Hp) (a:Addr) (y v:V) (H':Hp):Prop:=
 (∃kvs k,H a=some (.dK kvs)/\y=kV k/\kvs.length<sizeLine/\H'=upd H a (.dK (A0 kvs k v))) \/
 ∃kvs k b,H a=some (.dT kvs)/\y=.ref b/\H b=some (.tup (k.map kV))/\kvs.length<sizeLine/\H'=upd H a (.dT (A0 kvs k v))
def Dq.k{H:Hp}{a:Addr}{kvs:List (AN×V)}{k:AN}(e:H a=some (.dK kvs)):Dq H a (kV k) (AL kvs k):=.inl ⟨kvs,k,.inl e,rfl,rfl⟩
variable {a:Addr}
def Dq.t{b:Addr}{k:List AN}(e:H a=some (.dT kvs))(c:H b=some (.tup (k.map kV))):Dq H a (.ref b) (AL kvs k):=.inr ⟨kvs,k,b,.inl e,rfl,c,rfl⟩
def HB.k{H:Hp}{a:Addr}{kvs:List (AN×V)}{k:AN}{v:V}(e:H a=some (.dK kvs))(b:kvs.length<sizeLine):HB H a (kV k) v (upd H a (.dK (A0 kvs k v))):=.inl ⟨kvs,k,e,rfl,b,rfl⟩
section
variable {X:Cx} {pins:B'} {σ:St} {H:Hp} {s:Shared} {a:Addr} {y v:V} {u r:Value} {o:Option V} {A:Around} {E:D'}
def Inv.big(I:Inv X pins σ H s):sysModules<s.heap.objs.size:=by
 have h:mainGlobals<s.heap.objs.size:=(I.mod.glob.keeps I.bk).lt;exact Nat.lt_trans (by decide) h
def YD{Q:D'}(q:A.units+1<cLine)(I:Inv X pins σ H s)(g:Dq H a y (some v))(n:RelV y u)(h:∀c Z,Inv X pins σ H Z->RelV v c->Q c Z) :
 wpAny (model X.prog X.w) A (getItem (.ref a) u) Q E s:=by
 rcases g with⟨kvs,k,e,d,l⟩|⟨kvs,k,b,e,d,r,l⟩;subst d;obtain⟨z,hd,t,j,f⟩:=Nc I.hok e;obtain⟨c,i,m⟩:=Ea.some_of (v:=v) (o:=valueAt t k) (by rw[l];exact j.val k);exact wpAny_getItem_of (Nb n) f.mapOf i (h c _ (I.tok _) m);subst d
 cases(show u=Value.ref b from n);obtain⟨z,hd,xs,j,f⟩:=Nd I.hok e;obtain⟨c,i,m⟩:=Ea.some_of (v:=v) (o:=(atKey xs k).map (·.2)) (by rw[l];exact j.val k);obtain⟨p,w,x⟩:=EX.mp i;refine wpAny_getItem_heap (tupleKind_room_in1 q) (LF I.hok r) f w ?_;rw[x];exact h c _ (I.tok _) m
def Sm{Q:D'}(j:A.units+1<cLine)(I:Inv X pins σ H s)(g:Dq H a y o)(i:RelV y u)(h:∀Z,Inv X pins σ H Z->Q (.bool o.isSome) Z) :
 wpAny (model X.prog X.w) A (compareOp .In u (.ref a)) Q E s:=by
 rcases g with⟨kvs,k,e,c,l⟩|⟨kvs,k,b,e,c,m,l⟩;subst c;obtain⟨z,hd,n,f,d⟩:=Nc I.hok e;refine wpAny_in_of (Nb i) hd d.mapOf ?_;rw[<-(f.val k).isSome_eq,<-l];exact h _ (I.tok _);subst c
 cases(show u=Value.ref b from i);obtain⟨z,hd,xs,f,d⟩:=Nd I.hok e;refine wpAny_in_heap (tupleKind_room_in1 j) (LF I.hok m) hd d ?_;have q:=(f.val k).isSome_eq;rw[Option.isSome_map] at q;rw[<-q,<-l];exact h _ (I.tok _)
def Og{h':Heap}{t':Nat}{ob:HO}(I:Inv X pins σ H s)(c:NK (H a))(d:Heap.SameBut a s.heap h')(f:∃q,h'.get? a=some q)(h:AB X.prog X.w (upd H a ob) h' a ob) :
 Inv X pins σ (upd H a ob) {s with heap:=h',toks:=t'}:=
 I.write (x:=a) (e:=a) c (.inl rfl) (λb q g z=>(d.2 b g).trans z) f h
def HC{h':Heap}{kvs:List (AN×V)}{vs:List (AN×Value)}(z:kvs.length<=sizeLine)(hd:(a==sysModules)=false)(c:KV kvs vs)(b:h'.DictOf (EK P w) a vs) :
 AB P w H' h' a (.dK kvs):=⟨z,hd,vs,c,b⟩
def YE{Q:Unit->Shared->Prop}(F:A.units+1<cLine)(I:Inv X pins σ H s)(g:HB H a y v H')(w:RelV y u)(x:RelV v r)(h:∀Z,Inv X pins σ H' Z->Q () Z) :
 wpAny (model X.prog X.w) A (setItem (.ref a) u r) Q E s:=by
 rcases g with⟨kvs,k,e,j,l,m⟩|⟨kvs,k,b,e,j,B,l,m⟩;subst j m;obtain⟨z,hd,G,d,n⟩:=KH I.hok e;have o:G.length<=sizeLine:=by rw[<-d.length];exact z
 have p:(A0 kvs k v).length<=sizeLine:=by have:=Of kvs k v;lia
 refine wpAny_setItem_pairs (hsz:=o) (Nb w) n λC i t=>h _ ?_;have J:∃q,C.get? a=some q:=let ⟨q,_,_,f,_⟩:=i;⟨q,f⟩;exact Og I (by rw[e];exact True.intro) t J (HC p hd (d.put k x) i);subst j m
 cases(show u=Value.ref b from w);obtain⟨z,hd,xs,d,n⟩:=HA I.hok e
 have o:xs.length<=sizeLine:=by rw[<-Paired.length d];exact z
 have p:(A0 kvs k v).length<=sizeLine:=by have:=Of kvs k v;lia
 refine wpAny_setItem_heap (hsz:=o) (tupleKind_room_in1 F) (LF I.hok B) n λC i t=>h _ ?_;obtain⟨q,K,L,f,M,N,O,_,P⟩:=i;refine Og I (by rw[e];exact True.intro) t ⟨q,f⟩ ⟨p,hd,_,(d.put k B x).keeps λc R D=>?_,q,K,L,f,M,N,O,P⟩;rw[AE (M9 D e (λz=>nomatch z))];exact D
end
section
variable {X:Cx} {pins:B'} {σ:St} {H:Hp} {s:Shared} {a:Addr} {kvs:List (AN×V)} {k:AN} {u:Value} {A:Around} {E:D'}
end
def Oh (i:Expr):Prop:=∀ov iv,subscripted i false ov iv=operate [ov,iv] (getItem ov iv)
variable {s:Shared}
def Jk{prog:Program}{A:Around}{E:D'}{env:Env}{d slice:Expr}{L:Pos}{T id:String}{Q:D'}
 (j:typeLookup (.type T) "__getitem__" = pure (some (.builtin id))) (k:Oh slice)
 (h:wpAny (model prog w) A (eval d env) (λo e=>wpAny (model prog w) A (eval slice env) (λi a=>a.TypeIs o T/\wpAny (model prog w) A (getItem o i) Q E a) E e) E s) :
 wpAny (model prog w) A (eval (.Subscript d slice L) env) Q E s:=by
 refine Subscript_ (FP h (λo e l=>FP l (λi a b=>?_) λζ ζ x=>x) λζ ζ x=>x);obtain⟨f,b⟩:=b;unfold subscriptTail;refine Ad ?_;rw[getitemInPython_of_ne f.not_modules];refine Ad (wpAny_specialOf f j ?_)
 have c:wpAny (model prog w) A (subscripted slice false o i) (λr g=>wpAny (model prog w) A (letTemporaryGo d o r >>= λζ=>pure r) Q E g) E a:=by
  rw[k o i];exact wpAny_operating (FP b (λr g m=>Ad (wpAny_letTemporaryGo (Aw m))) λζ ζ x=>x)
 first
  |exact Aw (Ad c)
  |exact Ad (Aw (Ad c))
  |exact Ad c
def YF{X:Cx}{pins:B'}{σ:St}{o:Option V}(I:Inv X pins σ H s)(g:Dq H a y o):s.TypeIs (.ref a) "dict" :=by
 rcases g with⟨kvs,k,e,_,_⟩|⟨kvs,k,b,e,_,_,_⟩;obtain⟨_,_,d,_,c⟩:=Nc I.hok e;exact c.typeIs;obtain⟨_,_,xs,_,c⟩:=Nd I.hok e;exact c.typeIs
def KI (k ty:TE):TE:=λσ H Q=>k σ H λx Y=>ty σ Y λy H2=>∃a v,x=.ref a/\Dq H2 a y (some v)/\Q v H2
section
variable {X:Cx} {o i e d:Expr} {L t j:Pos} {k ty O:TE}
def Vm(d:X.A.units+1<cLine)(e:PE X o k)(f:PE X i ty)(j:Oh i):PE X (.Subscript o i L) (KI k ty):=by
 intro c s σ H Q I h;refine Jk PySem.F.slot_dict_getitem.lookup j (AS (e c s σ H _ I h) λu l⟨x,Y,m,n,p⟩=>AS (f c l σ Y _ m p) λA B⟨y,q,b,r,a,v,ex,g,t⟩=>?_);subst ex;obtain rfl:u=Value.ref a:=n;exact⟨YF b g,YD d b g r λC D w z=>⟨v,q,w,z,t⟩⟩
end
def Vn(h:Heap)(a:sysModules<h.objs.size):AB P w H (h.push {cls:=.type "dict",data:=.dict #[]}) h.objs.size (.dK []):=
 ⟨Cm _,beq_eq_false_iff_ne.mpr (Ne.symm (CU a)),[],.nil,Heap.DictOf.new h⟩
def Vo(h:Heap)(a:sysModules<h.objs.size):AB P w H (h.push {cls:=.type "dict",data:=.dict #[]}) h.objs.size (.dT []):=
 ⟨Cm _,beq_eq_false_iff_ne.mpr (Ne.symm (CU a)),[],.nil,_,#[],0,B9 _ rfl,⟨rfl,rfl,rfl⟩,rfl,rfl,List.nodup_nil⟩
def LG:TE:=λζ H Q=>∀p,H p=none->Q (.ref p) (upd H p (.dK []))
def LH:TE:=λζ H Q=>∀p,H p=none->Q (.ref p) (upd H p (.dT []))
section
variable {X:Cx} {L:Pos}
def YG:PE X (.Dict [] [] L) LG:=λb s σ H Q I h =>
 wpAny_Dict_empty ⟨.ref s.heap.objs.size,_,I.laid (a:=s.heap.objs.size) (o:=.dK []) (t':=s.toks) (λζ ζ q=>Be _ q) (AD _) (Vn s.heap I.big),rfl,h _ (I.hok.fresh (AD _))⟩
def So:PE X (.Dict [] [] L) LH:=λb s σ H Q I h =>
 wpAny_Dict_empty ⟨.ref s.heap.objs.size,_,I.laid (a:=s.heap.objs.size) (o:=.dT []) (t':=s.toks) (λζ ζ q=>Be _ q) (AD _) (Vo s.heap I.big),rfl,h _ (I.hok.fresh (AD _))⟩
end
def KJ (kvs more:List (AN×V)):List (AN×V):=more.foldl (λacc kv=>A0 acc kv.1 kv.2) kvs
structure M2 (X:Cx) (o:Expr) (m:Str) (apos:Pos) (e f:Expr) (cpos:Pos):Prop where
 base:attributeBase o m X.env (eval o X.env)=eval o X.env
 few:((backTo cpos (starEach [e,f] X.env)).all (λx=>!x.1) && (backToKw cpos (keywordEach [] X.env)).all (λx=>x.1.isSome)
  && decide (([e,f]:List Expr).length+([]:List Keyword).length+(if([]:List Keyword).isEmpty then 0 else 1)<30))=true
 line:(apos.endLine==cpos.line)=true
 trees:backTo cpos (starEach [e,f] X.env)=[(false,eval e X.env),(false,eval f X.env)]
def Vp (H:Hp) (a:Addr):Prop:=(∃kvs,Rd H a (.dK kvs))\/∃kvs,Rd H a (.dT kvs)
def LI{X:Cx}{pins:B'}{σ:St}(I:Inv X pins σ H s)(d:Vp H a) :
 s.TypeIs (.ref a) "dict" /\ (∀b,Value.ref a=.ref b->∃ob,s.heap.get? b=some ob/\ob.dict=none)/\(a==sysModules)=false:=by
 rcases d with⟨kvs,e⟩|⟨kvs,e⟩;obtain⟨_,hd,h,_,c⟩:=Nc I.hok e;refine⟨c.typeIs,λb q=>?_,hd⟩;cases q;obtain⟨ob,_,_,f,g,_⟩:=c;exact⟨ob,f,g.2.1⟩;obtain⟨_,hd,xs,_,c⟩:=Nd I.hok e;refine⟨c.typeIs,λb q=>?_,hd⟩;cases q;obtain⟨ob,_,_,f,g,_⟩:=c;exact⟨ob,f,g.2.1⟩
section
variable {X:Cx} {pins:B'} {σ:St} {H:Hp} {s:Shared} {a:Addr} {y d:V} {u r:Value} {o:Option V} {A:Around} {E:D'}
def LJ{Q:D'}(p:A.units+1<cLine)(I:Inv X pins σ H s)(g:Dq H a y o)(j:RelV y u)(m:RelV d r)(h:∀n Z,Inv X pins σ H Z->RelV (o.getD d) n->Q n Z) :
 wpAny (model X.prog X.w) A (call (.builtin "dict.get") [.ref a,u,r]) Q E s:=by
 rcases g with⟨kvs,k,e,f,l⟩|⟨kvs,k,b,e,f,q,l⟩;subst f;obtain⟨z,hd,t,i,c⟩:=Nc I.hok e;refine call_meetsIn PySem.F.slot_dict_get c.typeIs PySem.F.entry_dict_get (PySem.F.args_dict_get_3 _ _ _) (meets_dict_get_default (EK X.prog X.w) a (Nb j) hd r) ⟨_,c.mapOf,h _ _ (I.tok _) ?_⟩;rw[l];exact(i.val k).getD m;subst f
 cases(show u=Value.ref b from j);obtain⟨z,hd,xs,i,c⟩:=Nd I.hok e;refine call_meetsIn PySem.F.slot_dict_get c.typeIs PySem.F.entry_dict_get (PySem.F.args_dict_get_3 _ _ _) (meetsH_dict_get_default (tupleKind (EK X.prog X.w)) a b hd r) ⟨tupleKind_room_in1 p,k,xs,LF I.hok q,c,h _ _ (I.tok _) ?_⟩;rw[l];exact(i.val k).getD m
end
def LL (k ty tx:TE):TE:=λσ H Q=>k σ H λx Y=>∃a,x=.ref a/\Vp Y a/\ty σ Y λy H2=>tx σ H2 λz H3=>∃o,Dq H3 a y o/\Q (o.getD z) H3
section
variable {X:Cx} {o e f:Expr} {apos cpos:Pos} {k ty tx:TE}
def YH(i:X.A.units+1<cLine)(j:PE X o k)(l:PE X e ty)(n:PE X f tx)(m:M2 X o "get" apos e f cpos):PE X (.Call (.Attribute o "get" apos) [e,f] [] cpos) (LL k ty tx):=by
 intro b s σ H Q I h;refine wpAny_Call_method m.base m.few m.line PySem.F.plainAttrs_dict PySem.F.slot_dict_get PySem.F.type_dict_get (AS (j b s σ H _ I h) λu p⟨x,Y,c,q,a,ex,d,r⟩=>?_);subst ex;obtain rfl:u=Value.ref a:=q;obtain⟨t,v,_⟩:=LI c d;refine⟨t,v,?_⟩;rw[m.trees]
 refine Calls.callWith_builtin rfl (Calls.evalArgs_plain (Calls.spliced_cons (AS (l b p σ Y _ c r) λM w⟨y,A,B,C,D⟩ =>
  Calls.spliced_cons (AS (n b w σ A _ B D) λN O⟨z,E,F,G,P,g,J⟩=>Calls.spliced_nil ?_))))
 exact LJ i F g C G λR S K L=>⟨_,E,K,L,J⟩
end
section
variable {X:Cx} {pins:B'} {σ:St} {H:Hp} {s:Shared} {a:Addr} {kvs:List (AN×V)} {A:Around} {E:D'}
end
section
variable {X:Cx} {pins:B'} {σ:St} {H:Hp} {s:Shared} {a:Addr} {y:V} {u:Value} {A:Around} {E:D'}
end
end L2
namespace Att
open PySem PySem.W PySem.Calls PyProof.Rows
def YI{P:Params}{h:Heap}:∀(ns:List Int)(vs:List Value),WellAll P h vs (ns.map WData.int)->IntsAre vs ns:=by
 intro ns
 induction ns with
 |nil =>
   intro vs w;rw[NG] at w;cases w;exact .nil
 |cons n ns c =>
   intro vs w;rw[D9] at w
   cases w with
   |cons a b =>
     cases a;exact .cons _ _ (c _ b)
def YJ{l:OpenLaw}{n:Nat}(i:l.most=some n){P:Params}{h:Heap}{args:List WData}{f:List Value}
 (g:l.row.toRowW.claim.pre args=true) (u:WellAll P h f args) :
 ∃a vs ns,f=[Value.ref a]/\args=[WData.list (ns.map WData.int)]/\h.get? a=some {cls:=.type "list",data:=.seq vs.toArray}/\IntsAre vs ns/\ns.length<=n:=by
 have v:WShape.hasAll [] args [.list .int]=true:=(pre_splitW g).1;have e:l.pre.holds [] {args:=args}=true:=(pre_splitW g).2;obtain⟨d,r,rfl,j,k⟩:=hasAllW_cons v;obtain rfl:=hasAllW_nil k;obtain⟨y,rfl,m⟩:=hasW_list j;obtain⟨ns,rfl⟩:=items_int m
 have w:ns.length<=n:=by
  unfold OpenLaw.pre at e
  have b:(WTm.not (.lt (.lit (.int (n:Int))) (.len (.arg 0)))).holds [] {args:=[.list (ns.map .int)]}=true:=by
   have b:=(holds_andW e).1;rw[i] at b;exact b
  have c:=condW_of b (w_not (w_lt w_lit (w_len_list (w_arg rfl))));rw[An] at c;refine Nat.le_of_not_lt λq=>?_;have o:(n:Int)<((ns.length:Nat):Int):=(by lia)
  first
   |(rw[A7 o] at c;exact absurd c (by decide))
   |(simp at c;lia)
 cases u with
 |cons p s =>
   cases s
   cases p with
   |list t x=>exact⟨_,_,ns,rfl,rfl,t,YI ns _ x,w⟩
def YK(l:OpenLaw)(args:List WData):l.row.toRowW.claim.post args (.bool true) args=true:=
 postW_of (r:=l.row.toRowW) (X:=(true==true))
  (show WShape.has [] (.bool true) .bool=true by first|rfl|decide|simp[WShape.has,WShape.arms,WShape.armsAll])
  (show(WTm.eq .res (.lit (.bool true))).value [] {args:=args,res:=some (.bool true),after:=args}=some (.bool (true==true)) from w_eq_bool (w_res rfl) w_lit) rfl
def attach_call{l:OpenLaw}{n:Nat}{q:Program}{loose:List Str}{XP:(Str->Option Value)->Heap->Prop}{YP:World->Heap->Prop}{d:DefRec}
 (p:l.most=some n) (B:d.params.defaults=[])
 (call:∀(w:World)(h b:Shared)(e i:Str->Option Value)(c:Addr)(o:Obj)(j g k:Value)(a:Addr)(vs:List Value)(ns:List Int),
  Ground q loose [] XP w h e i b.heap->YP w b.heap ->
  b.heap.get? c=some o->o.data=.func (docDef d.name d.params d.body d.scope j g k)->b.heap.CodeRec g d.name->e d.name=some (.ref c) ->
  b.heap.get? a=some {cls:=.type "list",data:=.seq vs.toArray}->IntsAre vs ns->ns.length<=n->b.gens=#[] ->
  codeAny (model l.prog w) callerA (.call (.ref c) ⟨[.ref a],[]⟩) (λr Z=>r=.ok (.ret (.bool true))/\OldK b.heap Z.heap/\Z.os=b.os/\AllBare Z.gens) b) :
 WalkO q loose XP YP l.row.toRowW d [] (λf vs=>PySem.call f vs):=by
 intro w h b e i G Y c o j g k s kV t hd C m D u N O K F P L E M;obtain rfl:s=.none:=Dflts.none m B;obtain rfl:kV=.none:=Dflts.noKw m;obtain⟨a,vs,ns,rfl,rfl,H,J,I⟩:=YJ p F E;refine enter_call (codeAny_mono (call w h b e i c o j g k a vs ns G Y t (fd_plain hd) C D H J I u) λr Z v=>?_);obtain⟨rfl,x,y,z⟩:=v;exact⟨.inl ⟨.bool true,.bool true,[],rfl,λζ=>rfl,.bool true,YK l _,λζ=>⟨List.Pairwise.nil,λζ A=>(nomatch A)⟩⟩,x,y,z⟩
section
variable {prog:Program} {w:World} {A:Around} {E:D'} {s:Shared} {K:Frag}
end
end Att
namespace L2
open PySem PySem.Spec PyProof.Rows
theorem PK:∀{vs:List Value}{ns:List Int},IntsAre vs ns->As (ns.map V.int) vs
 |_,_,.nil=>.nil
 |_,_,.cons n t h=>.cons ⟨t,rfl⟩ (PK h)
def LM (H:Hp):Prop:=∀b,H b=none\/∃o xs,H b=some (.frz o (.lst xs))
variable {P:Program}{w:World}{a:Addr}{fd:FuncData}{x:Str}
def YL {K:Ah} {g y:Str->Option Value} {CX:Hs} {k:Nat} {A:Addr} {sp:Sp} {c:Shared} {vs:List Value} {ns:List Int}
 (E:K.In c.heap) (O:c.heap.Ns mainGlobals g) (f:c.heap.Ns builtinsNs y) (ab:∀x:Str,x ≠ "__name__" -> y x=bootBuiltins x) (ah:c.heap.NoLimit) (U:c.gens=#[])
 (p:c.heap.get? a=some {cls:=.type "list",data:=.seq vs.toArray}) (G:IntsAre vs ns) (I:ns.length<=sizeLine) (W:B1 k callerA)
 (F:∀D:Heap,K.In D->D.Ns mainGlobals g->Et P w K g D CX k A fd [x] sp) (al:∀(s:Shared)(u:Value),BindsTo s fd ⟨[u],[]⟩ [(x,u)])
 (ae:∀H:Hp,LM H->Ae K H a (ns.map V.int)->sp [.ref a] H (λv ζ=>v=.bl true) λζ ζ ζ=>False)
 (af:∀H e Z,CX [] H c (λζ ζ ζ=>False) e Z->False) :
 codeAny (model P w) callerA (.call (.ref A) ⟨[.ref a],[]⟩) (λr Z=>r=.ok (.ret (.bool true))/\OldK c.heap Z.heap/\Z.os=c.os/\AllBare Z.gens) c:=by
 have J:=PK G;have ai:=G.length
 have S:∀ H:Hp,LM H->Ae K H a (ns.map V.int)->CZ P w H c.heap->(∀ b,H b≠none->b=a)->(H a≠none->K.lookup a=none) ->
  codeAny (model P w) callerA (.call (.ref A) ⟨[.ref a],[]⟩) (λr Z=>r=.ok (.ret (.bool true))/\OldK c.heap Z.heap/\Z.os=c.os/\AllBare Z.gens) c:=by
  intro H L X Q M Y;have T:∀{b:Addr}{o:Obj},c.heap.get? b=some o->H b=none->(Fm c.heap H).get? b=some o:=λe n=>X6 e n
  have ag:∀{b:Addr}{o:Obj}{i:Array DictEntry}{j:Nat},c.heap.get? b=some o->o.data=.dict i j->H b=none:=λ{b o i j}e d=>by
   cases q:H b with
   |none=>rfl
   |some u =>
     have B:b=a:=M b (by rw[q];simp);subst B;rw[p] at e;cases e;have d':Data.seq vs.toArray _=Data.dict i j:=d;cases d'
  have t:∀{b:Addr}{m:Str->Option Value},c.heap.Ns b m->(Fm c.heap H).Ns b m:=λ{b m}⟨o,i,j,e,d,r⟩=>⟨o,i,j,T e (ag e d),d,r⟩
  have R:K.In (Fm c.heap H):=λb o e=>T (E b o e) (by
   cases q:H b with
   |none=>rfl
   |some u =>
     have B:b=a:=M b (by rw[q];simp);subst B
     rw[Y (by rw[q];simp)] at e;cases e)
  have hM:Mod K g (Fm c.heap H):=⟨R,t O,⟨y,t f,ab⟩,let ⟨mc,h1,h2⟩:=ah;⟨mc,t h1,h2⟩⟩;have e0:Je P w K g (Fm c.heap H) callerA [] c H:=⟨rfl,hM,λb o e=>IW e,Nat.le_of_eq (X5 _ _),trivial,λb f=>absurd (show b∈([]:List Addr) from f) (by simp),Q,.of_eq U⟩;refine codeAny_mono ((F _ R (t O)).run callerA [] c H ⟨[.ref a],[]⟩ [.ref a] [.ref a] _ _ W e0 (al c (.ref a)) (.cons rfl .nil) (ae H L X)) λr Z h=>?_
  cases r with
  |error e=>exact(af H e Z h).elim
  |ok fl =>
    cases fl with
    |next=>exact False.elim h
    |brk=>exact False.elim h
    |cont=>exact False.elim h
    |ret u =>
      obtain⟨v,H',aa,aj,un,ak,r',q⟩:=h;have q':v=.bl true:=q;subst q';obtain rfl:u=Value.bool true:=r';refine⟨rfl,OldK.of_keep λb o e=>?_,aa,aj⟩
      cases q:H b with
      |none=>exact un.keep b o e q (by intro z;exact absurd (show b∈([]:List Addr) from z) (by simp)) (by simp)
      |some u =>
        rcases L b with z|⟨ob,xs,z⟩;rw[q] at z;cases z;have z2:=un.frzs b ob _ z;obtain⟨N,_⟩:=Q b _ z;obtain⟨e2,_⟩:=ak b _ z2;rw[e] at N;cases N;exact e2
 cases C:K.lookup a with
 |some o =>
   have e:=E a o C;rw[p] at e;cases e;refine S (λζ=>none) (λζ=>.inl rfl) (.inr ⟨_,vs.toArray,_,C,rfl,rfl,rfl,by rw[Ck,ai];exact I,by simpa using J⟩) (λb u z=>by have l:(none:Option HO)=some u:=z;cases l) (λb z=>absurd rfl z) λz=>absurd rfl z
 |none =>
   refine S (λb=>if b=a then some (.frz {cls:=.type "list",data:=.seq vs.toArray} (.lst (ns.map V.int))) else none) (λb=>?_) (.inl (.inr ⟨{cls:=.type "list",data:=.seq vs.toArray},Al rfl⟩)) (λb u z=>?_) (λb z=>?_) λζ=>C
   by_cases f:b=a;exact .inr ⟨_,_,Al f⟩;exact .inl (Ak f);by_cases f:b=a;have l:=(Al f).symm.trans z;cases l;subst f;exact⟨p,by rw[An];exact I,vs,_,J,p⟩;have l:=(Ak f).symm.trans z;cases l;by_cases f:b=a;exact f;exact absurd (Ak f) z
variable {n:Nat}
def Jl{l:PySem.W.OpenLaw}{k:Nat}{q:Program}{loose:List Str}{XP:(Str->Option Value)->Heap->Prop}{YP:World->Heap->Prop}{d:DefRec}{K:Params->Ah}{CX:World->Hs}{sp:World->Sp}(m:l.most=some n)(D:n<=sizeLine)(E:d.params.defaults=[])(p:B1 k callerA)
 (r:∀(w:World)(h:Heap),YP w h->(K w.params).In h)
 (F:∀(w:World)(b:Str->Option Value)(c:Addr)(h:Heap),(K w.params).In h->h.Ns mainGlobals b->b d.name=some (.ref c) ->
  ∃fd:FuncData,(∀(s:Shared)(u:Value),BindsTo s fd ⟨[u],[]⟩ [(x,u)]) /\
   ∀g:Heap,(K w.params).In g->g.Ns mainGlobals b->Et l.prog w (K w.params) b g (CX w) k c fd [x] (sp w))
 (I:∀(w:World)(H:Hp)(a:Addr)(ns:List Int),ns.length<=n->LM H->Ae (K w.params) H a (ns.map V.int)->sp w [.ref a] H (λv ζ=>v=.bl true) λζ ζ ζ=>False)
 (J:∀(w:World)(H:Hp)(s:Shared)(e:Value)(Z:Shared),CX w [] H s (λζ ζ ζ=>False) e Z->False) :
 PySem.W.WalkO q loose XP YP l.row.toRowW d [] (λf vs=>PySem.call f vs):=by
 refine Att.attach_call m E λw O t b P c o Q R T a vs ns G Y S hd U L M N j y=>?_;have i:=r w _ Y;obtain⟨fd,z,A⟩:=F w b c _ i G.T.g L;exact YL i G.T.g G.T.b G.T.builtins G.T.nolimit y M N (Em j D) p A z (λH B C=>I w H a ns j B C) λH e Z=>J w H t e Z
abbrev IJ:Hs:=λζ ζ ζ ζ ζ ζ=>False
abbrev E0:XK:=λζ ζ ζ=>False
variable {X:Cx}
def Oi:Sc IJ X E0:=λζ ζ ζ ζ ζ ζ ζ h=>h.elim
structure Bu (K:Ah) (x qual:Str) (st:Stmt) (f:Addr) (fd:FuncData):Prop where
 ex:∃(oc:Value)(od:Option Addr)(kV doc pm:Value)(an:Option Addr)(cdv ct:Value)(osl:Array (Option Value)),
  fd=PySem.W.fnOf x qual (Ku st) (IC st) (A6 st) .none kV doc pm an cdv ct/\K.lookup f=some ⟨oc,od,.func fd,osl⟩/\PySem.W.codeIn K cdv qual=true
 kp:PySem.W.keepIn K (.ref f)=true
section
variable {P:Program} {w:World} {K:Ah} {mg:Str->Option Value} {base:Heap}
variable {qual:Str}{st:Stmt}{f:Addr}
def Bu.ok{N ps:List Str}{k:Nat}{sp:Sp}(F:Bu K x qual st f fd)(S:Ag N ps (A6 st))(len:∀vs H Q E,sp vs H Q E->vs.length=ps.length)
 (i:∀(a:Value)(A:Around)(b:List Env)(s:Shared)(H:Hp)(vs:List V)(Q:VK)(E:XK),B1 k (A.deeper (envOfC qual (A6 st) s.heap.objs.size f a))->sp vs H Q E ->
  ∃t,Gm (AG IJ P w K mg base N qual (A6 st) f a A b s H E).nox (IC st) t/\t {nx:=λζ H'=>Q .non H',rt:=Q} (start N vs) H):Et P w K mg base IJ (k+1) f fd ps sp:=by
 obtain⟨j,l,kV,p,m,n,a,o,r,rfl,c,e⟩:=F.ex;refine N4 c e S len λA b s H vs Q E d g=>?_;obtain⟨t,h,q⟩:=i a A b s H vs Q E d g;exact⟨t,h.nox,q⟩
def Bu.binds{ps:List Str}(F:Bu K x qual st f fd)
 (h:∀(kV c a:Value)(b:Option Addr)(d ct:Value)(us:List Value),us.length=ps.length->bindArgs (PySem.W.fnOf x qual (Ku st) (IC st) (A6 st) .none kV c a b d ct) ⟨us,[]⟩=pure (ps.zip us)):Binds K fd ps []:=by
 obtain⟨e,g,kV,c,a,b,d,ct,j,rfl,i,k⟩:=F.ex;exact .all (h kV c a b d ct)
def HD{g:Value}{h b:Option Addr}{i:Array (Option Value)}{kV e d a ct:Value}(l:K.lookup f=some ⟨g,h,.func (PySem.W.fnOf x qual (Ku st) (IC st) (A6 st) .none kV e d b a ct),i⟩)
 (c:PySem.W.codeIn K a qual=true) (k:PySem.W.keepIn K (.ref f)=true):Bu K x qual st f (PySem.W.fnOf x qual (Ku st) (IC st) (A6 st) .none kV e d b a ct):=⟨⟨g,h,kV,e,d,b,a,ct,i,rfl,l,c⟩,k⟩
end
variable {A:Around}
def LO{k:Nat}(a:B1 k A):A.units+1<cLine:=Nat.lt_of_le_of_lt (Nat.add_le_add_left (by decide:1<=64) _) a.units
def BK(h:n<=1000):n<sizeLine:=Nat.lt_of_le_of_lt h (by decide)
section
variable {X:Cx}
def pv(i:Nat){L:Pos}(a:X.N[i]?=some x:=by rfl)(hv:Pt X.env.scope x:=by first|exact Or.inl rfl|exact Or.inr (Or.inl rfl)|exact Or.inr (Or.inr rfl))(hd:(x==("__debug__" : Str))=false:=by decide)
 (b:(x==("__classdict__" : Str))=false:=by decide):PE X (.Name x L) (B5 i):=Lg a hv hd b
end
variable {B:Prop}
def Bb{A:Prop}(h:B):if false=true then A else B:=by
 rw[Ak Cz];exact h
def CV{A:Prop}(h:A):if true=true then A else B:=by
 rw[Al rfl];exact h
def Am{c A:Prop} [Decidable c](a:c->A)(b:¬c->B):if c then A else B:=by
 by_cases h:c;rw[Al h];exact a h;rw[Ak h];exact b h
def Ac (H H':Hp):Prop:=∀b o,H b=some o->H' b=some o
def Ac.refl(H:Hp):Ac H H:=λζ ζ h=>h
variable {H:Hp}
def Ac.trans{Y d:Hp}(a:Ac H Y)(b:Ac Y d):Ac H d:=λc o h=>b c o (a c o h)
variable {H':Hp}
def Ac.free(e:Ac H H'){l:Addr}(h:H' l=Option.none):H l=Option.none:=by
 cases q:H l with
 |none=>rfl
 |some o =>
   rw[e l o q] at h;cases h
variable {xs:List V}
def Ac.seq{K:Ah}(e:Ac H H')(h:Ae K H a xs):Ae K H' a xs:=by
 rcases h with(h|⟨o,h⟩)|h;exact .inl (.inl (e _ _ h));exact .inl (.inr ⟨o,e _ _ h⟩);exact .inr h
section
variable {κ:Type} [DecidableEq κ]
end
inductive Ty where
 |int|bool|str|non|lst|tup|dct
 deriving DecidableEq
def Ty.name:Ty->String
 |.int => "int"|.bool => "bool"|.str => "str"|.non => "NoneType"|.lst => "list"|.tup => "tuple"|.dct => "dict"
inductive Jm (K:Ah) (H:Hp):V->Ty->Prop where
 |int (i:Int):Jm K H (.int i) .int
 |bl (b:Bool):Jm K H (.bl b) .bool
 |str (x:Str):Jm K H (.str x) .str
 |non:Jm K H .non .non
 |lst {a:Addr} {xs:List V} (h:Ae K H a xs):Jm K H (.ref a) .lst
 |tup {a:Addr} {xs:List V} (h:Ap K H a xs):Jm K H (.ref a) .tup
 |dk {a:Addr} {kvs:List (AN×V)} (h:H a=some (.dK kvs)):Jm K H (.ref a) .dct
def Sq:Ty->Ty->Bool
 |.int,.int=>true|.bool,.bool=>true|.bool,.int=>true|.str,.str=>true|.non,.non=>true|.lst,.lst=>true|.tup,.tup=>true|.dct,.dct=>true|_,_=>false
def Sr (K:Ah):List V->Hp->VK->Prop:=λvs H Q=>∃x T T',vs=[x,.ty (Ty.name T)]/\Jm K H x T'/\Q (.bl (Sq T' T)) H
def GB:Ba X (.builtin "isinstance") (Sr X.K):=by
 intro F s σ H g w Q I r h;obtain⟨x,T,z,rfl,ty,q⟩:=h;obtain⟨u,j,rfl,c,p⟩:=Jd r;have k:j=Value.type (Ty.name T):=p;subst k
 cases ty with
 |int i =>
   obtain⟨t,rfl⟩:=c
   cases T with
   |int=>exact IsiPair.int_int ⟨.bl true,H,I,rfl,q⟩
   |bool=>exact IsiPair.int_bool ⟨.bl false,H,I.tok _,rfl,q⟩
   |str=>exact IsiPair.int_str ⟨.bl false,H,I.tok _,rfl,q⟩
   |non=>exact IsiPair.int_NoneType ⟨.bl false,H,I.tok _,rfl,q⟩
   |lst=>exact IsiPair.int_list ⟨.bl false,H,I.tok _,rfl,q⟩
   |tup=>exact IsiPair.int_tuple ⟨.bl false,H,I.tok _,rfl,q⟩
   |dct=>exact IsiPair.int_dict ⟨.bl false,H,I.tok _,rfl,q⟩
 |bl b =>
   obtain rfl:u=Value.bool b:=c
   cases T with
   |int=>exact IsiPair.bool_int ⟨.bl true,H,I,rfl,q⟩
   |bool=>exact IsiPair.bool_bool ⟨.bl true,H,I,rfl,q⟩
   |str=>exact IsiPair.bool_str ⟨.bl false,H,I.tok _,rfl,q⟩
   |non=>exact IsiPair.bool_NoneType ⟨.bl false,H,I.tok _,rfl,q⟩
   |lst=>exact IsiPair.bool_list ⟨.bl false,H,I.tok _,rfl,q⟩
   |tup=>exact IsiPair.bool_tuple ⟨.bl false,H,I.tok _,rfl,q⟩
   |dct=>exact IsiPair.bool_dict ⟨.bl false,H,I.tok _,rfl,q⟩
 |str y =>
   obtain⟨t,rfl⟩:=c
   cases T with
   |int=>exact IsiPair.str_int ⟨.bl false,H,I.tok _,rfl,q⟩
   |bool=>exact IsiPair.str_bool ⟨.bl false,H,I.tok _,rfl,q⟩
   |str=>exact IsiPair.str_str ⟨.bl true,H,I,rfl,q⟩
   |non=>exact IsiPair.str_NoneType ⟨.bl false,H,I.tok _,rfl,q⟩
   |lst=>exact IsiPair.str_list ⟨.bl false,H,I.tok _,rfl,q⟩
   |tup=>exact IsiPair.str_tuple ⟨.bl false,H,I.tok _,rfl,q⟩
   |dct=>exact IsiPair.str_dict ⟨.bl false,H,I.tok _,rfl,q⟩
 |non =>
   obtain rfl:u=Value.none:=c
   cases T with
   |int=>exact IsiPair.NoneType_int ⟨.bl false,H,I.tok _,rfl,q⟩
   |bool=>exact IsiPair.NoneType_bool ⟨.bl false,H,I.tok _,rfl,q⟩
   |str=>exact IsiPair.NoneType_str ⟨.bl false,H,I.tok _,rfl,q⟩
   |non=>exact IsiPair.NoneType_NoneType ⟨.bl true,H,I,rfl,q⟩
   |lst=>exact IsiPair.NoneType_list ⟨.bl false,H,I.tok _,rfl,q⟩
   |tup=>exact IsiPair.NoneType_tuple ⟨.bl false,H,I.tok _,rfl,q⟩
   |dct=>exact IsiPair.NoneType_dict ⟨.bl false,H,I.tok _,rfl,q⟩
 |lst d =>
   obtain rfl:u=Value.ref _:=c;obtain⟨v,l,⟨o,n,e,a,hd,m⟩,f⟩:=I.list d
   cases T with
   |int=>exact IsiPair.list_int e a ⟨.bl false,H,I.tok _,rfl,q⟩
   |bool=>exact IsiPair.list_bool e a ⟨.bl false,H,I.tok _,rfl,q⟩
   |str=>exact IsiPair.list_str e a ⟨.bl false,H,I.tok _,rfl,q⟩
   |non=>exact IsiPair.list_NoneType e a ⟨.bl false,H,I.tok _,rfl,q⟩
   |lst=>exact IsiPair.list_list e a ⟨.bl true,H,I,rfl,q⟩
   |tup=>exact IsiPair.list_tuple e a ⟨.bl false,H,I.tok _,rfl,q⟩
   |dct=>exact IsiPair.list_dict e a ⟨.bl false,H,I.tok _,rfl,q⟩
 |tup d =>
   obtain rfl:u=Value.ref _:=c;obtain⟨v,l,⟨o,e,a,n,m⟩,f⟩:=I.tuple d
   cases T with
   |int=>exact IsiPair.tuple_int e a ⟨.bl false,H,I.tok _,rfl,q⟩
   |bool=>exact IsiPair.tuple_bool e a ⟨.bl false,H,I.tok _,rfl,q⟩
   |str=>exact IsiPair.tuple_str e a ⟨.bl false,H,I.tok _,rfl,q⟩
   |non=>exact IsiPair.tuple_NoneType e a ⟨.bl false,H,I.tok _,rfl,q⟩
   |lst=>exact IsiPair.tuple_list e a ⟨.bl false,H,I.tok _,rfl,q⟩
   |tup=>exact IsiPair.tuple_tuple e a ⟨.bl true,H,I,rfl,q⟩
   |dct=>exact IsiPair.tuple_dict e a ⟨.bl false,H,I.tok _,rfl,q⟩
 |dk d =>
   obtain rfl:u=Value.ref _:=c;obtain⟨f,A,g,E,o,B,C,e,ex,D⟩:=I.hok _ _ d;have a:=ex.1
   cases T with
   |int=>exact IsiPair.dict_int e a ⟨.bl false,H,I.tok _,rfl,q⟩
   |bool=>exact IsiPair.dict_bool e a ⟨.bl false,H,I.tok _,rfl,q⟩
   |str=>exact IsiPair.dict_str e a ⟨.bl false,H,I.tok _,rfl,q⟩
   |non=>exact IsiPair.dict_NoneType e a ⟨.bl false,H,I.tok _,rfl,q⟩
   |lst=>exact IsiPair.dict_list e a ⟨.bl false,H,I.tok _,rfl,q⟩
   |tup=>exact IsiPair.dict_tuple e a ⟨.bl false,H,I.tok _,rfl,q⟩
   |dct=>exact IsiPair.dict_dict e a ⟨.bl true,H,I,rfl,q⟩
def Vq{bs:List Bool}{a:List Value}(r:As (bs.map V.bl) a):TruthOf P w A (λi v=>a.toArray[i]?=some v) (λi=>bs.getD i false):=by
 intro i v s Q E d f;have c:a[i]?=some v:=(by simpa using d);have g:=r.length;rw[An] at g;have k:i<a.length:=(A8.mp c).1
 have h:(bs.map V.bl)[i]?=some (V.bl (bs.getD i false)):=by
  rw[Bh,B0];have:bs[i]?=some bs[i]:=AC (by lia);rw[this];rfl
 obtain⟨u,b,j⟩:=r.get h;rw[c] at b;cases b;have e:v=Value.bool (bs.getD i false):=j;subst e;exact FI f
def YM{bs:List Bool}:(List.range bs.length).all (λi=>bs.getD i false)=bs.all id:=by
 rw[Bool.eq_iff_iff,List.all_eq_true,List.all_eq_true];constructor;intro h b d;obtain⟨i,a,e⟩:=Pj.mp d;have:=h i (List.mem_range.mpr a);rw[B0,AC a] at this;rw[<-e];exact this;intro h i a;have c:=List.mem_range.mp a;rw[B0,AC c];exact h _ (Ep c)
def Ss (K:Ah):List V->Hp->VK->Prop:=λvs H Q=>∃(a:Addr)(bs:List Bool),vs=[.ref a]/\Ae K H a (bs.map V.bl)/\Q (.bl (bs.all id)) H
def YN(g:X.calm=true):Ba X (.builtin "all") (Ss X.K):=by
 intro B s σ H t w Q I r h;obtain⟨a,bs,rfl,j,q⟩:=h;obtain⟨u,rfl,k⟩:=Fp r;obtain rfl:u=Value.ref a:=k;obtain⟨c,d,p,x⟩:=I.list j;have f:=d.length;rw[An] at f;have n:a<s.heap.objs.size:=by obtain⟨_,e,_⟩:=p.isList;exact A5 e
 refine call_all_walk (wpAny_pyIter_list p.isList ?_);refine⟨s.heap.objs.size,[s.heap.objs.size,a],[s.heap.objs.size],c.toArray.size,(λi v=>c.toArray[i]?=some v),(λi h=>h.IsListIter s.heap.objs.size a i/\h.IsList a c.toArray),(λi=>bs.getD i false),rfl,Walks.list (A:=X.A.in1) (I.ok.hd g) s.heap.objs.size a (CU n) c.toArray,⟨⟨_,B9 _ rfl,rfl,rfl⟩,p.isList.push _⟩,Vq d,λy tk l=>?_⟩;refine⟨.bl (bs.all id),H,I.kept λb o e=>l b o (λz=>?_) (Be _ e),?_,q⟩;have m:b=s.heap.objs.size:=(by simpa using z);exact absurd (A5 e) (by rw[m];exact Gi _);have e:c.toArray.size=bs.length:=(by rw[Ck,f]);show Value.bool _=Value.bool _;rw[e,YM]
variable {pins:B'}{σ:St}{s:Shared}
def Inv.track{T:Addr}{o:HO}(I:Inv X pins σ H s)(f:Ec X pins H T)(p:∃ob,s.heap.get? T=some ob)(l:AB X.prog X.w (upd H T o) s.heap T o):Inv X pins σ (upd H T o) s:=by
 obtain⟨d,g,r,h,i,j⟩:=f;refine I.step (g':=s.gens) (t':=s.toks) (d':=s.drawn) (h':=s.heap) (ch:=[T]) (λb a=>?_) (λb ob ζ ζ ζ e ζ=>e) (λb ob ζ ζ ζ e ζ=>⟨ob.slots,e⟩) (λb ob a e n=>?_) (λb ob ζ e=>⟨ob,e⟩) (λb xs e=>?_) (λb ob u e=>?_) (λb t e=>?_) (λm k=>k) (λb u e=>?_) I.bare;have e:b=T:=(by simpa using a);subst e;exact⟨h,g,i,j⟩;rw[AE (by simpa using a)];exact n;rw[AE (AK e d)];exact e;rw[AE (AK e d)];exact e;exact⟨#[],by rw[AE (AK e d),e];simp⟩;by_cases a:b=T;subst a;rw[Aa] at e;cases e;exact l;rw[AE a] at e;exact(I.hok b u e).stay (λc v ζ q=>q) (λc q=>by rw[AE (AK q d)];exact q) λc xs q=>by rw[AE (AK q d)];exact q
def Oj (K:Ah) (l1 l2:Addr):It:=
 ⟨λi H=>∃xs ys x y,Ae K H l1 xs/\Ae K H l2 ys/\xs[i]?=some x/\ys[i]?=some y,
  λi H v H'=>∃T x y,H T=none/\v=.ref T/\H'=upd H T (.tup [x,y])/\(∀xs,Ae K H l1 xs->xs[i]?=some x)/\∀ys,Ae K H l2 ys->ys[i]?=some y,
  λi H=>∃xs ys,Ae K H l1 xs/\Ae K H l2 ys/\(xs.length<=i\/ys.length<=i)⟩
def Ol (z TI TO i1 i2 l1 l2:Addr) (i:Nat) (h:Heap):Prop:=IsZip h z TI TO .none/\IsPair h TI (.ref i1) (.ref i2)/\(∃a b,IsPair h TO a b)/\h.IsListIter i1 l1 i/\h.IsListIter i2 l2 i
variable {L:Pos}
theorem YO{K:Ah}{es:List Expr}{k:Nat}{z TI TO g j l1 l2:Addr}(D:ZipApart z TI TO g j l1 l2) :
 Fo P w K (.Tuple es k L) (Oj K l1 l2) [z,TI,TO,g,j] z (Ol z TI TO g j l1 l2) where
 mem:=by simp
 obj:=λi h C b d=>by
  obtain⟨E,F,⟨a,c,J⟩,⟨o1,e1,c1,d1⟩,⟨o2,e2,c2,d2⟩⟩:=C;simp at d;rcases d with rfl|rfl|rfl|rfl|rfl;exact⟨_,E,λv q=>by cases q⟩;exact⟨_,F,λv q=>by cases q⟩;exact⟨_,J,λv q=>by cases q⟩;exact⟨_,e1,λv q=>by rw[d1] at q;cases q⟩;exact⟨_,e2,λv q=>by rw[d2] at q;cases q⟩
 keep:=λi h h' C S=>by
  obtain⟨E,F,⟨a,c,J⟩,M,N⟩:=C;exact⟨S z (by simp) _ E,S TI (by simp) _ F,⟨a,c,S TO (by simp) _ J⟩,M.at λo e=>S g (by simp) o e,N.at λo e=>S j (by simp) o e⟩
 item:=by
  intro X hP hw hK A i pins s σ H ak I B C hg;subst hP hw hK;obtain⟨xs,ys,x,y,Y,Z,hx,hy⟩:=hg;obtain⟨E,F,⟨a,c,J⟩,M,N⟩:=C;obtain⟨az,ae,p1,an⟩:=I.list Y;obtain⟨a0,af,aa,ao⟩:=I.list Z;obtain⟨U,aq,ar⟩:=ae.get hx;obtain⟨V,au,av⟩:=af.get hy;refine wpAny_pyNext_zip_item D E F J M N p1.isList aa.isList (x:=U) (y:=V) (by simpa using aq) (by simpa using au) λh' a1 a2 a3 a4 a5 a6 G=>?_;refine⟨_,rfl,wpAny_letOwnedTupleGo_zip (s:={s with heap:=h'}) a1 λT a7 R=>?_⟩;have m:=B z (by simp);have t:=B TO (by simp);have p:=B g (by simp);have r:=B j (by simp);have G6:∀b u,H b=some u->b≠z/\b≠TO/\b≠g/\b≠j:=λb u e=>⟨AK e m.1,AK e t.1,AK e p.1,AK e r.1⟩;have keep:∀b o,b≠z->b≠TO->b≠g->b≠j->s.heap.get? b=some o->T.get? b=some o:=λb o W n2 n3 n4 e=>(R.2 b W).trans (G b o W n2 n3 n4 e);have f:∀{b:Addr},b∉[z,TO,g,j]->b≠z/\b≠TO/\b≠g/\b≠j:=λ{b}d=>by simpa using d
  have I1:Inv X pins σ H {s with heap:=T}:=by
   refine I.step (g':=s.gens) (t':=s.toks) (d':=s.drawn) (h':=T) (ch:=[z,TO,g,j]) (λb d=>?_) (λb l ζ ζ d e ζ=>keep b l (f d).1 (f d).2.1 (f d).2.2.1 (f d).2.2.2 e) (λb l ζ ζ d e ζ=>⟨l.slots,keep b l (f d).1 (f d).2.1 (f d).2.2.1 (f d).2.2.2 e⟩)
    (λζ ζ ζ ζ n=>n) (λb l d e=>⟨l,keep b l (f d).1 (f d).2.1 (f d).2.2.1 (f d).2.2.2 e⟩) (λζ ζ e=>e) (λζ ζ ζ e=>e) (λb ps e=>⟨#[],by rw[e];simp⟩) (λal hm=>?_) (λb u e=>?_) I.bare
   have:b=z\/b=TO\/b=g\/b=j:=(by simpa using d);rcases this with rfl|rfl|rfl|rfl;exact⟨m.2.2.2.1,m.2.1,m.2.2.2.2.1,m.2.2.2.2.2⟩;exact⟨t.2.2.2.1,t.2.1,t.2.2.2.2.1,t.2.2.2.2.2⟩;exact⟨p.2.2.2.1,p.2.1,p.2.2.2.2.1,p.2.2.2.2.2⟩;exact⟨r.2.2.2.1,r.2.1,r.2.2.2.2.1,r.2.2.2.2.2⟩;obtain⟨o,es,ep,ho,ab⟩:=hm;exact⟨o,es,ep,keep _ o (Ne.symm m.2.1) (Ne.symm t.2.1) (Ne.symm p.2.1) (Ne.symm r.2.1) ho,ab⟩;refine(I.hok b u e).stay (λc v A q=>?_) (λζ q=>q) λζ ζ q=>q
   have ag:∃O,H c=some O:=by
    rcases A with rfl|A;exact⟨_,e⟩;exact⟨_,A⟩
   obtain⟨O,Q⟩:=ag;obtain⟨W,n2,n3,n4⟩:=G6 c O Q;exact keep c v W n2 n3 n4 q
  have aw:s.heap.objs.size≠z:=Nat.ne_of_gt (A5 E);have ai:H s.heap.objs.size=none:=I.hok.fresh (AD _);have aj:T.get? s.heap.objs.size=some {cls:=.type "tuple",data:=.seq #[U,V]}:=(R.2 _ aw).trans a5
  have I2:Inv X pins σ (upd H s.heap.objs.size (.tup [x,y])) {s with heap:=T}:=by
   refine I1.track (I.fpOk (AD _) ai) ⟨_,aj⟩ ?_;exact⟨by show 2<=sizeLine;decide,[U,V],.cons ar (.cons av .nil),⟨_,aj,rfl,_,rfl⟩⟩
  refine⟨.ref s.heap.objs.size,_,I2,rfl,⟨s.heap.objs.size,x,y,ai,rfl,rfl,λzs ah=>by rw[I.list_inj ah Y];exact hx,λzs ah=>by rw[I.list_inj ah Z];exact hy⟩,?_,λb d=>?_⟩;refine⟨a7,R.extBut _ _ D.TIz (G _ _ D.TIz D.TITO D.TIi1 D.TIi2 F),⟨U,V,R.extBut _ _ D.TOz a2⟩,a3.extBut R.extBut D.i1z,a4.extBut R.extBut D.i2z⟩;have ax:=(B b d).1;rw[AE (λq=>?_)];exact ax;have ay:b=z\/b=TI\/b=TO\/b=g\/b=j:=(by simpa using d);obtain⟨o1,e1,_⟩:=M;obtain⟨o2,e2,_⟩:=N
  have lt:b<s.heap.objs.size:=by
   rcases ay with rfl|rfl|rfl|rfl|rfl;exact A5 E;exact A5 F;exact A5 J;exact A5 e1;exact A5 e2
  rw[q] at lt;exact absurd lt (Gi _)
 done:=by
  intro X hP hw hK A i pins s σ H ak I B C hg;subst hP hw hK;obtain⟨xs,ys,Y,Z,aA⟩:=hg;obtain⟨E,F,⟨a,c,J⟩,M,N⟩:=C;obtain⟨az,ae,p1,an⟩:=I.list Y;obtain⟨a0,af,aa,ao⟩:=I.list Z;have a8:=ae.length;have a9:=af.length;refine wpAny_pyNext_zip_end (I.ok.hd A) D E F J M N p1.isList aa.isList (by simp;lia) λh' G=>⟨rfl,?_⟩;have m:=B z (by simp);have t:=B TO (by simp);have p:=B g (by simp);have r:=B j (by simp);have f:∀{b:Addr},b∉[z,TO,g,j]->b≠z/\b≠TO/\b≠g/\b≠j:=λ{b}d=>by simpa using d
  refine I.step (g':=s.gens) (t':=s.toks) (d':=s.drawn) (h':=h') (ch:=[z,TO,g,j]) (λb d=>?_) (λb l ζ ζ d e ζ=>G b l (f d).1 (f d).2.1 (f d).2.2.1 (f d).2.2.2 e) (λb l ζ ζ d e ζ=>⟨l.slots,G b l (f d).1 (f d).2.1 (f d).2.2.1 (f d).2.2.2 e⟩)
   (λζ ζ ζ ζ n=>n) (λb l d e=>⟨l,G b l (f d).1 (f d).2.1 (f d).2.2.1 (f d).2.2.2 e⟩) (λζ ζ e=>e) (λζ ζ ζ e=>e) (λb ps e=>⟨#[],by rw[e];simp⟩) (λal hm=>?_) (λb u e=>?_) I.bare
  have:b=z\/b=TO\/b=g\/b=j:=(by simpa using d);rcases this with rfl|rfl|rfl|rfl;exact⟨m.2.2.2.1,m.2.1,m.2.2.2.2.1,m.2.2.2.2.2⟩;exact⟨t.2.2.2.1,t.2.1,t.2.2.2.2.1,t.2.2.2.2.2⟩;exact⟨p.2.2.2.1,p.2.1,p.2.2.2.2.1,p.2.2.2.2.2⟩;exact⟨r.2.2.2.1,r.2.1,r.2.2.2.2.1,r.2.2.2.2.2⟩;obtain⟨o,es,ep,ho,ab⟩:=hm;exact⟨o,es,ep,G _ o (Ne.symm m.2.1) (Ne.symm t.2.1) (Ne.symm p.2.1) (Ne.symm r.2.1) ho,ab⟩;refine(I.hok b u e).stay (λc v A q=>?_) (λζ q=>q) λζ ζ q=>q
  have ag:∃O,H c=some O:=by
   rcases A with rfl|A;exact⟨_,e⟩;exact⟨_,A⟩
  obtain⟨O,Q⟩:=ag;exact G c v (AK Q m.1) (AK Q t.1) (AK Q p.1) (AK Q r.1) q
 self:=λζ ζ ζ ζ ζ C h=>wpAny_pyIter_zip C.1 h
variable {g:TG}{D:Ends}
def Vr{K:Ah}{a b:Addr}{ys:List V}{tb:TS}(Pv:Nat->St->Hp->Prop)(j:Pv 0 σ H)(k:∀i σ H,Pv i σ H->Ae K H a xs/\Ae K H b ys)
 (l:∀i x y T σ H,xs[i]?=some x->ys[i]?=some y->H T=none->Pv i σ H->g (.ref T) σ (upd H T (.tup [x,y])) λσ2 c=>tb {D with nx:=Pv (i+1),ct:=Pv (i+1),bk:=D.nx} σ2 c) (hd:∀σ H,Pv (min xs.length ys.length) σ H->D.nx σ H) :
 ∃W:Nat->Nat->St->Hp->Prop,(∃m,W 0 m σ H)/\∀i m σ H,W i m σ H ->
  ((Oj K a b).stop i H/\D.nx σ H)\/((Oj K a b).go i H/\∃N:St->Hp->Prop,(∀σ' H',N σ' H'->∃h,h<m/\W (i+1) h σ' H')/\∀x H',(Oj K a b).yld i H x H'->g x σ H' λσ2 c=>tb {D with nx:=N,ct:=N,bk:=D.nx} σ2 c):=by
 refine⟨λi m σ H=>m=min xs.length ys.length-i/\i<=min xs.length ys.length/\Pv i σ H,⟨_,rfl,Cm _,j⟩,?_⟩;rintro i m σ H ⟨rfl,z,p⟩;obtain⟨d,f⟩:=k i σ H p;by_cases w:i<min xs.length ys.length;have n:i<xs.length:=(by lia);have o:i<ys.length:=(by lia);refine .inr ⟨⟨xs,ys,xs[i],ys[i],d,f,by simp[n],by simp[o]⟩,Pv (i+1),λσ' H' q=>⟨min xs.length ys.length-(i+1),by lia,rfl,w,q⟩,λv H' y=>?_⟩;obtain⟨T,x,r,s,rfl,rfl,t,u⟩:=y;exact l i x r T σ H (t xs d) (u ys f) s p;have e:i=min xs.length ys.length:=(by lia);refine .inl ⟨⟨xs,ys,d,f,by lia⟩,?_⟩;rw[e] at p;exact hd σ H p
def Ga (env:Env):List (Str×NameKind)->List (Str×Addr)->List (Str×Addr)
 |[],acc=>acc
 |(n,k)::r,acc=>if k==.free then Ga env r ((n,(env.cells.lookup n).getD 0)::acc) else Ga env r acc
theorem Su{env:Env}(f:Str×NameKind->List (Str×Addr)->Sem (ForInStep (List (Str×Addr))))
 (d:∀n k g,f (n,k) g=if(k==NameKind.free)=true then(cellOf env n >>= λa=>pure (.yield ((n,a)::g))) else pure (.yield g)) :
 ∀(names:List (Str×NameKind))(acc:List (Str×Addr)),(∀x∈names,x.2=.free->∃c,env.cells.lookup x.1=some c)->forIn names acc f=pure (Ga env names acc)
 |[],acc,_=>by rw[List.forIn_nil];rfl
 |(n,k)::r,acc,h=>by
   rw[List.forIn_cons,d];unfold Ga;by_cases b:(k==NameKind.free)=true;rw[Al b,Al b];obtain⟨c,j⟩:=h (n,k) BB (beq_iff_eq.mp b);have e:cellOf env n=pure c:=by unfold cellOf;rw[j]
   rw[e,j];exact Su f d r _ λx i=>h x (Co _ i);rw[Ak b,Ak b];exact Su f d r _ λx i=>h x (Co _ i)
variable {scope:Scope}{env:Env}
def Vs(h:∀x∈scope.names,x.2=.free->∃c,env.cells.lookup x.1=some c):closureFor scope env=pure (Ga env scope.names []):=by
 simp only[closureFor];rw[Su (env:=env) _ (λn k b=>by cases a:k==NameKind.free<;>simp[a]) scope.names [] h];rfl
theorem PL{env:Env}:∀{names:List (Str×NameKind)}{acc:List (Str×Addr)}{x:Str}{c:Addr},(x,c)∈Ga env names acc->(x,c)∈acc\/((x,NameKind.free)∈names/\c=(env.cells.lookup x).getD 0)
 |[],_,_,_,h=>.inl h
 |(n,k)::r,acc,x,c,h=>by
   unfold Ga at h;by_cases a:(k==NameKind.free)=true;rw[Al a] at h;rcases PL h with h|⟨h,e⟩;rcases Cj.mp h with h|h;cases h;rw[beq_iff_eq.mp a];exact .inr ⟨BB,rfl⟩;exact .inl h;exact .inr ⟨Co _ h,e⟩;rw[Ak a] at h;rcases PL h with h|⟨h,e⟩;exact .inl h;exact .inr ⟨Co _ h,e⟩
theorem Sv{env:Env}:∀{names:List (Str×NameKind)}{acc:List (Str×Addr)}{p:Str×Addr},p∈acc->p∈Ga env names acc
 |[],_,_,h=>h
 |(n,k)::r,acc,p,h=>by
   unfold Ga;by_cases a:(k==NameKind.free)=true;rw[Al a];exact Sv (Co _ h);rw[Ak a];exact Sv h
theorem Om{env:Env}:∀{names:List (Str×NameKind)}{acc:List (Str×Addr)}{x:Str},(x,NameKind.free)∈names->∃c,(x,c)∈Ga env names acc
 |(n,k)::r,acc,x,h=>by
   unfold Ga;rcases Cj.mp h with h|h;cases h;rw[Al (show(NameKind.free==NameKind.free)=true by rfl)];exact⟨_,Sv BB⟩;by_cases a:(k==NameKind.free)=true;rw[Al a];exact Om h;rw[Ak a];exact Om h
theorem Nf{α:Type}:∀{l:List (Str×α)}{x:Str}{c:α},(x,c)∈l->∃a,l.lookup x=some a
 |(n,d)::r,x,c,h=>by
   rw[MZ]
   cases b:x==n with
   |true=>exact⟨d,rfl⟩
   |false =>
     rcases Cj.mp h with h|h;cases h;simp at b;exact Nf h
theorem KL:∀(names:List (Str×NameKind))(n:Nat)(acc:List (Str×Addr)),cellsFrom n names acc=cellsFrom n names []++acc
 |[],_,_=>rfl
 |(x,k)::r,n,acc=>by
   unfold cellsFrom;by_cases a:(k==NameKind.cell)=true;rw[Al a,Al a,KL r (n+1) ((x,n)::acc),KL r (n+1) [(x,n)],F5];rfl;rw[Ak a,Ak a];exact KL r n acc
theorem PM:∀{names:List (Str×NameKind)}{n:Nat}{acc:List (Str×Addr)}{x:Str}{c:Addr},(x,c)∈cellsFrom n names acc->(x,c)∈acc\/(x,NameKind.cell)∈names
 |[],_,_,_,_,h=>.inl h
 |(y,k)::r,n,acc,x,c,h=>by
   unfold cellsFrom at h;by_cases a:(k==NameKind.cell)=true;rw[Al a] at h;rcases PM h with h|h;rcases Cj.mp h with h|h;cases h;rw[beq_iff_eq.mp a];exact .inr BB;exact .inl h;exact .inr (Co _ h);rw[Ak a] at h;rcases PM h with h|h;exact .inl h;exact .inr (Co _ h)
section
variable {M:Model} {A:Around} {E:D'} {s:Shared}
def YQ{a:List (Str×Addr)}{Q:Env->Shared->Prop}
 (b:Q (newEnv scope s.heap.objs.size env.globals (cellsFrom (s.heap.objs.size+1) scope.names a) env.qual none .none (some env) builtinsNs) {s with heap:=pushCells (s.heap.push {cls:=.type "dict",data:=.dict #[]}) scope.names}) :
 wpAny M A (newFunctionEnv scope env.globals a [] env.qual none .none (some env)) Q E s:=by
 simp only[newFunctionEnv,Option.isSome_some,if_true];refine Ad (wpAny_alloc ?_);refine Ad (wpAny_layCells _ (λname d e=>by cases c:d==NameKind.cell<;>simp[c]) _ _ _ _ ?_)
 rw[show({s with heap:=s.heap.push {cls:=.type "dict",data:=.dict #[]}}:Shared).heap.objs.size=s.heap.objs.size+1 from Heap.size_push ..]
 exact Ad (Aw (Aw b))
end
abbrev EN (X:Cx) (N:List Str) (scope:Scope) (cs:List (Str×Addr)) (C:Addr) (s:Shared) (H:Hp) (ex:List Addr):Cx where
 prog:=X.prog
 w:=X.w
 K:=X.K
 mg:=X.mg
 base:=X.base
 A:=X.A
 N:=N
 s₀:=s
 H₀:=H
 env:=compEnvC scope cs C X.env
 outer:=X.stack
 stack:=X.stack
 ex:=ex
 fn:=λx=>decide (scope.names.lookup x≠some .free)
 calm:=X.calm
 pn:=[]
 xe:=λζ ζ=>False
structure Av (psc:Scope) (PN:List Str) (scope:Scope) (N:List Str) (k:Nat) (caps:List Nat):Prop where
 kind:scope.kind=.function
 loc:∀x∈scope.names,x.2=.local->scope.names.lookup x.1=some .local
 ndn:(scope.names.map (·.1)).Nodup
 nd:N.Nodup
 len:N.length=k+caps.length
 free:∀x∈scope.names,x.2=.free->psc.names.lookup x.1=some .cell\/psc.names.lookup x.1=some .free
 cap:∀p∈(N.drop k).zip caps,PN[p.2]?=some p.1/\scope.names.lookup p.1=some .free
def EG (k:Nat) (caps:List Nat) (σ:St):St:=List.replicate k none++caps.map λj=>(σ[j]?).getD none
variable {caps:List Nat}{i:Nat}{v:V}
def Vt{k:Nat}(h:(EG k caps σ)[i]?=some (some v)):∃j,k<=i/\caps[i-k]?=some j/\σ[j]?=some (some v):=by
 unfold EG at h;by_cases b:i<k;rw[EJ (by simpa using b),List.getElem?_replicate,Al b] at h;cases h;rw[EW (by simpa using b),List.length_replicate,Bh] at h
 cases e:caps[i-k]? with
 |none=>rw[e] at h;cases h
 |some j =>
   rw[e] at h;have a:(σ[j]?).getD none=some v:=AO h;refine⟨j,by lia,rfl,?_⟩
   cases q:σ[j]? with
   |none=>rw[q] at a;cases a
   |some o=>rw[q] at a;exact BJ some a
def Vu{a:NameKind}(h:(relabel scope env).names.lookup x=some a):∃k,(x,k)∈scope.names/\(a=k\/(k=.free/\a=.cell)):=by
 have e:=Gj h;have f:(x,a)∈scope.names.map (λ(n,k)=>if(k==NameKind.free && env.scope.kind==.function && env.kindOf n==some .cell) then(n,NameKind.cell) else(n,k)):=e;obtain⟨⟨n,k⟩,d,b⟩:=A3.mp f;dsimp only at b
 by_cases c:(k==NameKind.free && env.scope.kind==.function && env.kindOf n==some .cell)=true;rw[Al c] at b;cases b;simp only[Bool.and_eq_true,beq_iff_eq] at c;exact⟨k,d,.inr ⟨c.1.1,rfl⟩⟩;rw[Ak c] at b;cases b;exact⟨a,d,.inl rfl⟩
theorem Vv{f:Str×NameKind->Str×NameKind}(b:∀n k,f (n,k)=(n,k)\/(k=.free/\f (n,k)=(n,NameKind.cell))):∀{names:List (Str×NameKind)}{x:Str},names.lookup x=some .free->(names.map f).lookup x=some .cell\/(names.map f).lookup x=some .free
 |[],_,h=>by simp at h
 |(n,k)::r,x,h=>by
   have d:=@Vv f b r x;rw[MZ] at h;rw[D9]
   cases a:x==n with
   |true =>
     rw[a] at h;cases h;rcases b n .free with e|⟨_,e⟩;right;rw[e,MZ,a];left;rw[e,MZ,a]
   |false =>
     rw[a] at h;have c:=d h;rcases b n k with e|⟨_,e⟩;rw[e,MZ,a];exact c;rw[e,MZ,a];exact c
def Vw(h:scope.names.lookup x=some .free):(relabel scope env).names.lookup x=some .cell\/(relabel scope env).names.lookup x=some .free:=by
 refine Vv (λn k=>?_) h;by_cases a:(k==NameKind.free && env.scope.kind==.function && env.kindOf n==some .cell)=true;right;refine⟨?_,Al a⟩;simp only[Bool.and_eq_true,beq_iff_eq] at a;exact a.1.1;left;exact Ak a
def PP{names:List (Str×NameKind)}(h:(names.map (·.1)).Nodup){k d:NameKind}(a:(x,k)∈names)(b:(x,d)∈names):k=d:=by
 induction names with
 |nil=>simp at a
 |cons p r g =>
   rw[D9] at h;obtain⟨e,i⟩:=Gw.mp h;rcases Cj.mp a with f|a<;>rcases Cj.mp b with c|b;rw[<-f] at c;exact(Prod.mk.inj c).2.symm;exact absurd (A3.mpr ⟨_,b,by rw[<-f]⟩) e;exact absurd (A3.mpr ⟨_,a,by rw[<-c]⟩) e;exact g i a b
variable {h1:Heap}{C:Addr}
def Un.but{fs ex:List Addr}{h f:Heap}(u:Un fs ex H H' h h1)(c:Heap.SameBut C h1 f)(g:h.objs.size<=C):Un fs ex H H' h f:=by
 have ne:∀b o,h.get? b=some o->b≠C:=λb o e=>CU (FO (A5 e) g);refine⟨λb o e n d a=>(c.2 b (ne b o e)).trans (u.keep b o e n d a),λb o e n d a=>?_,u.free,λb o e a=>?_,u.tups,u.frzs,u.tbls⟩;obtain⟨i,q⟩:=u.slot b o e n d a;exact⟨i,(c.2 b (ne b o e)).trans q⟩;obtain⟨j,q⟩:=u.there b o e a;exact⟨j,(c.2 b (ne b o e)).trans q⟩
def CZ.but{d:Heap}(x:CZ P w H h1)(g:Heap.SameBut C h1 d)(f:H C=none):CZ P w H d:=λb u e=>by
 refine(x b u e).stay (λc v a q=>(g.2 c ?_).trans q) (λζ q=>q) λζ ζ q=>q;rintro rfl;rcases a with rfl|a;rw[f] at e;cases e;rw[f] at a;cases a
section
variable {X:Cx} {scope:Scope} {N:List Str} {k:Nat} {caps:List Nat} {psc:Scope} {PN:List Str} {pins:B'} {σ:St} {H:Hp} {s:Shared}
abbrev DW (X:Cx) (scope:Scope) (C:Addr):List (Str×Addr):=cellsFrom (C+1) scope.names (Ga X.env scope.names [])
def Vx(I:Inv X pins σ H s)(S:Av X.env.scope X.N scope N k caps){c:Addr}(h:(x,c)∈DW X scope C) :
 (x,c)∈cellsFrom (C+1) scope.names []\/X.env.cells.lookup x=some c:=by
 unfold DW at h;rw[KL] at h;rcases BI.mp h with h|h;exact .inl h;rcases PL h with h|⟨h,e⟩;simp at h;obtain⟨b,a⟩:=I.ok.has x (S.free _ h rfl);rw[a] at e;exact .inr (by rw[a];exact BJ some e.symm)
def YR{t:List Addr}(I:Inv X pins σ H s)(S:Av X.env.scope X.N scope N k caps)(B:∀b∈t,Ec X pins H b)(ae:∀b∈t,∃o,s.heap.get? b=some o){D C:Nat}{t':Nat}(g:D=s.heap.objs.size)(J:C=D+1)
 (E:h1=pushCells ((s.heap.push {cls:=.type "list",data:=.seq #[]}).push {cls:=.type "dict",data:=.dict #[]}) scope.names) :
 Inv (EN X N scope (DW X scope C) C s H t) [] (EG k caps σ) (upd H D (.lst [])) {s with heap:=h1,toks:=t'}:=by
 have Z:(s.heap.push {cls:=.type "list",data:=.seq #[]}).objs.size=C:=(by rw[Heap.size_push,J,g]);have aa:((s.heap.push {cls:=.type "list",data:=.seq #[]}).push {cls:=.type "dict",data:=.dict #[]}).objs.size=C+1:=(by rw[Heap.size_push,Z])
 have G:∀b o,s.heap.get? b=some o->h1.get? b=some o:=λb o e=>by
  rw[E];exact pushCells_keeps _ _ b o (Be _ (Be _ e))
 have ak:h1.get? D=some {cls:=.type "list",data:=.seq #[]}:=by
  rw[E,g];exact pushCells_keeps _ _ _ _ (Be _ (B9 _ rfl))
 have af:h1.Ns C (λζ=>none):=by
  rw[E,<-Z];exact(Heap.Ns.new _ (.type "dict")).keeps (pushCells_keeps _ _)
 have ok:=cellsFrom_ok scope.names ((s.heap.push {cls:=.type "list",data:=.seq #[]}).push {cls:=.type "dict",data:=.dict #[]}) (C+1) [] ⟨λζ ζ d=>(nomatch d),List.Pairwise.nil⟩ (by rw[aa];exact AD _);rw[aa] at ok;have own:∀x c,(x,c)∈cellsFrom (C+1) scope.names []->h1.IsCell c none/\C+1<=c:=λx c h=>by rw[E];exact ok.empty x c h
 have P:∀x c,X.env.cells.lookup x=some c->c<D:=λx c e=>by
  obtain⟨v,q⟩:=I.cell x c e;rw[g];exact q.lt
 have Y:∀b∈t,b<D:=λb f=>by
  obtain⟨o,e⟩:=ae b f;rw[g];exact A5 e
 have ao:H C=none:=I.hok.fresh (by rw[J,g];exact Nat.le_succ _);have split:=λx c(h:(DW X scope C).lookup x=some c)=>Vx (C:=C) I S (Gj h);have T:∀b,b≠D->H b=none->(upd H D (.lst [])) b=none:=λb f e=>by rw[AE f];exact e
 have al:∀x,scope.names.lookup x=some .free->∃c,X.env.cells.lookup x=some c/\(DW X scope C).lookup x=some c:=λx w=>by
  have d:=Gj w;obtain⟨F,K⟩:=Om (env:=X.env) (acc:=[]) d;obtain⟨c,U⟩:=Nf (l:=DW X scope C) (x:=x) (c:=F) (by unfold DW;rw[KL];exact Dj _ K);refine⟨c,?_,U⟩;rcases split x c U with q|q;rcases PM q with z|z;simp at z;have:=PP S.ndn d z;cases this;exact q
 have ag:(EN X N scope (DW X scope C) C s H t).Ok:=by
  refine⟨I.ok.mod,S.kind,I.ok.glob,I.ok.blt,?above,?inj,?has,?cab,I.ok.hd,I.ok.frames,.inl rfl,?exf,λb o e=>I.bs b o e,Em I.ok.bsz I.sz,?noex,?exfs,I.stack,I.stkFree⟩
  case above =>
   show s.heap.objs.size<=C;rw[J,g];exact Nat.le_succ _
  case inj =>
   intro x y c L M;rcases split x c L with n|n<;>rcases split y c M with r|r;exact name_of_addr ok.apart n r;have h1:@LE.le Nat _ (C+1) c:=(own x c n).2;have a:@LT.lt Nat _ c D:=P y c r;exfalso;lia;have h1:@LE.le Nat _ (C+1) c:=(own y c r).2;have a:@LT.lt Nat _ c D:=P x c n;exfalso;lia;exact I.ok.inj x y c n r
  case has =>
   intro x w;have Q:(relabel scope X.env).names.lookup x=some .cell\/(relabel scope X.env).names.lookup x=some .free:=w
   have p:∃m,(x,m)∈scope.names/\(m=.cell\/m=.free):=by
    rcases Q with q|q;obtain⟨m,h1,a⟩:=Vu q;rcases a with a|⟨a,_⟩;exact⟨m,h1,.inl a.symm⟩;exact⟨m,h1,.inr a⟩;obtain⟨m,h1,a⟩:=Vu q;rcases a with a|⟨_,a⟩;exact⟨m,h1,.inr a.symm⟩;cases a
   obtain⟨m,d,p|p⟩:=p;subst p
   have q:=PySem.W.cellsFrom_some scope.names (C+1) (Ga X.env scope.names []) (x:=x) (.inl (by
    obtain⟨k2,A⟩:=Nf d
    rw[A,PP S.ndn (Gj A) d]))
   exact Option.isSome_iff_exists.mp q;subst p;obtain⟨F,K⟩:=Om (env:=X.env) (acc:=[]) d;exact Nf (c:=F) (by show(x,F)∈DW X scope C;unfold DW;rw[KL];exact Dj _ K)
  case cab =>
   intro x c w e;have Q:decide (scope.names.lookup x≠some .free)=true:=w;have ah:=Bi Q;show s.heap.objs.size<=c;have e':(DW X scope C).lookup x=some c:=e;have d:=Gj e';unfold DW at d;rw[KL] at d;rcases BI.mp d with z|z;have h1:@LE.le Nat _ (C+1) c:=(own x c z).2;have a:@LE.le Nat _ s.heap.objs.size c:=(by lia);exact a;rcases PL z with z|⟨z,_⟩;simp at z;obtain⟨k2,A⟩:=Nf z;exact absurd (by rw[A,PP S.ndn (Gj A) z]) ah
  case exf =>
   intro b f;refine⟨?_,λx c e z=>?_⟩;have h1:@LT.lt Nat _ b D:=Y b f;exact CU (show @LT.lt Nat _ b C by lia);rcases split x c e with q|q;have h1:@LE.le Nat _ (C+1) c:=(own x c q).2;have a:@LT.lt Nat _ b D:=Y b f;have V:@Eq Nat c b:=z;lia;exact(B b f).2.2.2.2.1 x c q z
  case noex =>
   intro b o e f;rcases(B b f).2.2.2.1 with q|q;exact I.ok.noex b o e q;exact absurd (FO (A5 e) (Em I.ok.bsz q)) (Gi _)
  case exfs =>
   intro b f z;have V:b∈EY X.stack:=z;rcases Cj.mp (I.stkSub b V) with q|q;exact(B b f).2.1 q;exact(B b f).2.2.1 q
 refine⟨ag,rfl,I.bare,Un.laid G (by rw[g];exact AD _) (I.hok.fresh (by rw[g];exact AD _)),⟨_,af,?loc⟩,?cell,T _ (show @Ne Nat C D by lia) ao,?freeC,λaq O=>absurd O (by simp),?hok,?len⟩
 case loc =>
  intro i x v L M e3;obtain⟨j,hi,hj,hv⟩:=Vt M
  have hz:(x,j)∈(N.drop k).zip caps:=by
   refine List.mem_iff_getElem?.mpr ⟨i-k,?_⟩;rw[List.getElem?_zip_eq_some];refine⟨?_,hj⟩;rw[List.getElem?_drop,show k+(i-k)=i by lia];exact L
  obtain⟨O,R⟩:=S.cap (x,j) hz;have p:=S.free (x,.free) (Gj R) rfl;obtain⟨ar,hn,hl⟩:=I.loc;obtain⟨u,ab,l⟩:=hl j x v O hv (by rcases p with q|q;exact .inr (.inl q);exact .inr (.inr q));refine⟨u,ab,?_⟩;obtain⟨c,ai,aj⟩:=al x R
  have an:s.heap.IsCell c (some u):=by
   rcases l with⟨q,_⟩|⟨_,c',n,r⟩;have W:X.env.scope.names.lookup x=some .local:=q;rcases p with z|z;rw[W] at z;cases z;rw[W] at z;cases z;rw[ai] at n;cases n;exact r
  exact .inr ⟨Vw R,c,aj,an.keeps G⟩
 case cell =>
  intro x c e;rcases split x c e with q|q;exact⟨_,(own x c q).1⟩;obtain⟨v,z⟩:=I.cell x c q;exact⟨v,z.keeps G⟩
 case freeC =>
  intro x c e;rcases split x c e with q|q;have h1:@LE.le Nat _ (C+1) c:=(own x c q).2;have a:@LE.le Nat _ s.heap.objs.size c:=(by lia);exact T c (show @Ne Nat c D by lia) (I.hok.fresh a);exact T c (CU (P x c q)) (I.freeC x c q)
 case hok =>
  exact I.hok.laid G (by rw[g];exact AD _) ⟨Cm _,[],0,.nil,ak⟩
 case len =>
  show(EG k caps σ).length=N.length;unfold EG;rw[AY,List.length_replicate,An,S.len]
def YS{a:List Addr}(I:Inv X pins σ H s)(S:Av X.env.scope X.N scope N k caps){p:B'}{σ':St}{Z:Shared}(P:∀x c,X.env.cells.lookup x=some c->c∉a)(T:s.heap.objs.size<=C)
 (J:Inv (EN X N scope (DW X scope C) C s H a) p σ' H' Z):Inv (EN X N scope (DW X scope C) C s H a) p (EG k caps σ) H' Z:=by
 obtain⟨m,t,_⟩:=id J.loc;refine⟨J.ok,J.os,J.bare,J.base,⟨m,t,λi x v w y U=>?_⟩,J.cell,J.free,J.freeC,J.pin,J.hok,?_⟩;obtain⟨j,V,A,B⟩:=Vt y
 have D:(x,j)∈(N.drop k).zip caps:=by
  refine List.mem_iff_getElem?.mpr ⟨i-k,?_⟩;rw[List.getElem?_zip_eq_some];refine⟨?_,A⟩;rw[List.getElem?_drop,show k+(i-k)=i by lia];exact w
 obtain⟨E,b⟩:=S.cap (x,j) D;have e:=S.free (x,.free) (Gj b) rfl;obtain⟨W,aa,F⟩:=I.loc;obtain⟨u,r,l⟩:=F j x v E B (by rcases e with q|q;exact .inr (.inl q);exact .inr (.inr q));refine⟨u,r,?_⟩
 have R:∃c,X.env.cells.lookup x=some c/\s.heap.IsCell c (some u):=by
  rcases l with⟨q,_⟩|⟨_,f,G,K⟩;have g:X.env.scope.names.lookup x=some .local:=q;rcases e with z|z;rw[g] at z;cases z;rw[g] at z;cases z;exact⟨f,G,K⟩
 obtain⟨c,d,o,L,hd⟩:=R
 have Q:(DW X scope C).lookup x=some c:=by
  have h:=Gj b;obtain⟨M,O⟩:=Om (env:=X.env) (acc:=[]) h;obtain⟨f,n⟩:=Nf (l:=DW X scope C) (x:=x) (c:=M) (by unfold DW;rw[KL];exact Dj _ O);rcases Vx (C:=C) I S (Gj n) with q|q;rcases PM q with z|z;simp at z;have:=PP S.ndn h z;cases this;rw[d] at q;cases q;exact n
 obtain⟨Y,q⟩:=J.base.any L (I.freeC x c d) (P x c d);exact .inr ⟨Vw b,c,Q,_,q,hd⟩;show(EG k caps σ).length=N.length;unfold EG;rw[AY,List.length_replicate,An,S.len]
end
def PF (X:Cx) (f:List Expr) (t:TT):Prop:=
 ∀(pins:B')(s:Shared)(σ:St)(H:Hp)(Q:Bool->Hp->Prop),Inv X pins σ H s->t σ H Q ->
  wpAny (model X.prog X.w) X.A (forIn f true λc r=>if r=true then do let ok <-isTrue c X.env (eval c X.env);pure (ForInStep.yield ok) else pure (ForInStep.yield r)) (TP X pins σ Q) X.xe s
def HE:TT:=λζ H Q=>Q true H
def IK:PF X [] HE:=λζ ζ ζ H ζ I h=>wpAny_tests_nil ⟨H,I,h⟩
def PQ{c:Expr}{t:TT}(h:PT X c t):PF X [c] t:=λpins s σ H Q I a=>wpAny_tests_one (h pins s σ H Q I a)
variable {l j:Expr}{f:List Expr}
def YT{prog:Program}{R:Result->Shared->Prop}{target:Expr}{d acc:Value}(I:Nat->Shared->Prop)
 (turn:∀n s,I n s->wpAny (model prog w) A (pyNext d) (λr b=>match r with
  |none=>R (.ok .next) b
  |some v=>wpAny (model prog w) A (letOwnedTupleGo target d v) (λζ b=>wpAny (model prog w) A (assign target env v) (λζ i =>
   wpAny (model prog w) A (forIn f true λc r=>if r=true then do let ok <-isTrue c env (eval c env);pure (ForInStep.yield ok) else pure (ForInStep.yield r)) (λok g =>
    if ok=true then wpAny (model prog w) A (eval l env) (λx k =>
     wpAny (model prog w) A (call (.builtin "list.append") [acc,x]) (λζ o=>∃m,m<n/\I m o) (λζ ζ=>False) k) (λζ ζ=>False) g
    else ∃m,m<n/\I m g) (λζ ζ=>False) i) (λζ ζ=>False) b) (λζ ζ=>False) b) (λζ ζ=>False) s)
 (n:Nat) (h:I n s) :
 codeAny (model prog w) A (.compLoop (.ListComp l [⟨target,j,f,0⟩] scope L) 0 d acc env) R s:=by
 refine codeAny_loop rfl I (λn s q=>?_) n h
 show wpAny _ A ((compTurn (.ListComp l [⟨target,j,f,0⟩] scope L) 0 d acc env).onRaise (λx=>do noteFrame x env;theTreesLotGoes x)) _ _ s
 refine wpAny_noted ?_;rw[compTurn_list];refine Ad (wpAny_standAt (Ad (FP (turn n s q) (λr b e=>?_) λζ ζ a=>a.elim)))
 cases r with
 |none=>exact Aw e
 |some v =>
   refine Ad (FP e (λζ b e=>?_) λζ ζ a=>a.elim);refine Ad (FP e (λζ i t=>Ad (FP t (λok g p=>?_) λζ ζ a=>a.elim)) λζ ζ a=>a.elim)
   cases ok with
   |false=>exact Aw ⟨rfl,p⟩
   |true =>
     exact Ad (Ad (FP p (λx k u=>Ad (FP u (λζ o y=>Aw (Aw ⟨rfl,y⟩)) λζ ζ a=>a.elim)) λζ ζ a=>a.elim))
def KN (k:Nat) (caps:List Nat) (wi:TI) (g:TG) (tc:TT) (te:TE):TE:=λσ H Q=>wi σ H λJ Y=>∀D,Y D=none->∃W:Nat->Nat->List V->Hp->Prop,(∃m,W 0 m [] (upd Y D (.lst [])))/\∀i m ys H2,W i m ys H2 ->
 (J.stop i H2/\Q (.ref D) H2)\/(J.go i H2/\∀x H3,J.yld i H2 x H3->g x (EG k caps σ) H3 λσ4 H4=>tc σ4 H4 λb H5 =>
  if b=true then te σ4 H5 λy H6=>H6 D=some (.lst ys)/\ys.length<sizeLine/\∃m',m'<m/\W (i+1) m' (ys++[y]) (upd H6 D (.lst (ys++[y]))) else ∃m',m'<m/\W (i+1) m' ys H5)
variable {tg:Expr}{N:List Str}{tc:TT}{te:TE}
def Vy{k:Nat}{E:D'}{Q:VK}
 {it:Addr} {d:List Addr} {G:Nat->Heap->Prop} {J:It} {R:Value->Addr->Result->Shared->Prop} (hc:X.calm=true) (S:Av X.env.scope X.N scope N k caps) (I:Inv X pins σ H s)
 (T:Fo X.prog X.w X.K tg J d it G) (st:G 0 s.heap) (r:∀b∈d,Ec X pins H b)
 (hg:∀K C s H ex,PG (EN X N scope K C s H ex) tg g) (ht:∀K C s H ex,PF (EN X N scope K C s H ex) f tc) (he:∀K C s H ex,PE (EN X N scope K C s H ex) l te)
 (q:∀D,H D=none->∃W:Nat->Nat->List V->Hp->Prop,(∃m,W 0 m [] (upd H D (.lst [])))/\∀i m ys M,W i m ys M ->
  (J.stop i M/\Q (.ref D) M)\/(J.go i M/\∀x t,J.yld i M x t->g x (EG k caps σ) t λσ4 H4=>tc σ4 H4 λb O =>
   if b=true then te σ4 O λy U=>U D=some (.lst ys)/\ys.length<sizeLine/\∃h,h<m/\W (i+1) h (ys++[y]) (upd U D (.lst (ys++[y]))) else ∃h,h<m/\W (i+1) h ys O))
 (an:∀D C H' Z m,C≠X.env.locals->(∀x c,X.env.cells.lookup x=some c->c≠C)->Z.heap.Ns C m->(∀h',Heap.SameBut C Z.heap h'->Inv X pins σ H' {Z with heap:=h'})->H' C=none->s.heap.objs.size<=C->Q (.ref D) H'->R (.ref D) C (.ok .next) Z) :
 wpAny (model X.prog X.w) X.A (newList []) (λacc s₃=>wpAny (model X.prog X.w) X.A (newFunctionEnv scope X.env.globals (Ga X.env scope.names []) [] X.env.qual none .none (some X.env)) (λai s₄ =>
  codeAny (model X.prog X.w) X.A (.compStart (.ListComp l [⟨tg,j,f,0⟩] scope L) 0 (.ref it) acc {ai with scope:=relabel scope X.env}) (R acc ai.locals) s₄) E s₃) E s:=by
 refine wpAny_newObj_type (YQ ?_);generalize p:s.heap.objs.size=D;have a0:(s.heap.push {cls:=.type "list",dict:=none,data:=.seq ([]:List Value).toArray}).objs.size=D+1:=(by rw[Heap.size_push,p]);dsimp only;rw[a0];have aa:∀b∈d,∃o,s.heap.get? b=some o:=λb a=>let ⟨o,e,_⟩:=T.obj 0 _ st b a;⟨o,e⟩;have ao:H D=none:=I.hok.fresh (by rw[p];exact AD _);have J0:=YR (t':=s.toks) I S r aa (D:=D) (C:=D+1) p.symm rfl rfl;have aq:∀x c,X.env.cells.lookup x=some c->c∉d:=λx c e a=>(r c a).2.2.2.2.1 x c e rfl
 have ab:∀{F:B'}{H':Hp},(∀b∈d,H' b=none)->F=[]->∀b∈d,Ec (EN X N scope (DW X scope (D+1)) (D+1) s H d) F H' b:=λ{F H'}hn hp b a=>by
  obtain⟨o,e⟩:=aa b a;have ar:@LT.lt Nat _ b D:=by rw[<-p];exact A5 e
  subst hp;refine⟨hn b a,?_,λz=>?_,.inl a,λx c e=>(J0.ok.exf b a).2 x c e,λa1 hp=>absurd hp (by simp)⟩;show @Ne Nat b (D+1);lia;have z':b∈EY X.stack:=z;rcases Cj.mp (I.stkSub b z') with w|w;exact(r b a).2.1 w;exact(r b a).2.2.1 w
 obtain⟨W,⟨m0,w0⟩,turn⟩:=q D ao;have af:G 0 (pushCells ((s.heap.push {cls:=.type "list",data:=.seq #[]}).push {cls:=.type "dict",data:=.dict #[]}) scope.names):=T.keep 0 _ _ st λb a o e=>pushCells_keeps _ _ b o (Be _ (Be _ e))
 have au:∀b∈d,(upd H D (.lst [])) b=none:=λb a=>by
  obtain⟨o,e⟩:=aa b a;have ar:@LT.lt Nat _ b D:=by rw[<-p];exact A5 e
  rw[AE (show @Ne Nat b D by lia)];exact(r b a).1
 have av:∀{H':Hp}{Z:Shared}{σ':St}{F:B'},Inv (EN X N scope (DW X scope (D+1)) (D+1) s H d) F σ' H' Z->Q (.ref D) H'->R (.ref D) (D+1) (.ok .next) Z:=λ{H' Z σ' F}J q=>by
  obtain⟨m,hn,_⟩:=id J.loc;refine an D (D+1) H' Z m (λz=>?_) (λx c e z=>?_) hn (λh' hs=>?_) J.free (by rw[p];exact Nat.le_succ _) q;have h1:@LT.lt Nat _ X.env.locals D:=by rw[<-p];exact I.lt
  have z':@Eq Nat (D+1) X.env.locals:=z;lia;obtain⟨v,y⟩:=I.cell x c e;have h1:@LT.lt Nat _ c D:=by rw[<-p];exact y.lt
  have z':@Eq Nat c (D+1):=z;lia;refine I.call' (ch:=d) J.os (J.base.but hs (by rw[p];exact Nat.le_succ _)) (J.hok.but hs J.free) J.bare λb a=>?_;exact⟨(r b a).2.2.2.1,(r b a).2.1,(r b a).2.2.2.2.1,(r b a).2.2.2.2.2⟩
 have aj:codeAny (model X.prog X.w) X.A (.compLoop (.ListComp l [⟨tg,j,f,0⟩] scope L) 0 (.ref it) (.ref D) (compEnvC scope (DW X scope (D+1)) (D+1) X.env)) (R (.ref D) (D+1))
  {s with heap:=pushCells ((s.heap.push {cls:=.type "list",data:=.seq #[]}).push {cls:=.type "dict",data:=.dict #[]}) scope.names}:=by
  refine YT (λn Z=>∃i ys H',Inv (EN X N scope (DW X scope (D+1)) (D+1) s H d) [] (EG k caps σ) H' Z/\G i Z.heap/\(∀b∈d,H' b=none)/\W i n ys H') ?_ m0 ⟨0,[],_,J0,af,au,w0⟩;rintro n s3 ⟨i,ys,t,I3,ag,ah,w3⟩;rcases turn i n ys t w3 with⟨stop,qn⟩|⟨go,step⟩
  . refine AS (T.done (EN X N scope (DW X scope (D+1)) (D+1) s H d) rfl rfl rfl hc i [] s3 _ t _ I3 (ab ah rfl) ag stop) λak s4⟨hr,I4⟩=>?_
    subst hr;exact av I4 qn
  refine AS (T.item (EN X N scope (DW X scope (D+1)) (D+1) s H d) rfl rfl rfl hc i [] s3 _ t _ I3 (ab ah rfl) ag go) λak s4⟨al,hr,h4⟩=>?_;subst hr;refine AS h4 λ_ s5⟨x,O,I5,r5,y5,ae,aw⟩=>?_;have ax:=I5.pinned (ab aw rfl) (T.obj _ _ ae)
  have again:∀{σ7:St}{u:Hp}{A:Shared}{h:Nat}{zs:List V},Inv (EN X N scope (DW X scope (D+1)) (D+1) s H d) ([]++NZ d s5.heap) σ7 u A->h<n->W (i+1) h zs u ->
   ∃m,m<n/\∃i ys H',Inv (EN X N scope (DW X scope (D+1)) (D+1) s H d) [] (EG k caps σ) H' A/\G i A.heap/\(∀b∈d,H' b=none)/\W i m ys H':=λ{σ7 u A h zs}B P w7=>by
   refine⟨h,P,i+1,zs,u,YS I S aq (by rw[p];exact Nat.le_succ _) B.unpinned,T.keep _ _ _ ae λb a o e=>(B.pin (b,o) (Dj _ (Dj _ (Px a e)))).1,λb a=>?_,w7⟩;obtain⟨o,e,a2⟩:=T.obj _ _ ae b a;exact(B.pin (b,o) (Dj _ (Dj _ (Px a e)))).2.1
  refine AS (hg _ _ _ _ _ _ s5 _ O x al _ ax r5 (step x O y5)) λ_ s6⟨σ6,U,I6,q6⟩=>?_;refine AS (ht _ _ _ _ _ _ s6 σ6 U _ I6 q6) λb A⟨u,B,Y⟩=>?_
  cases b with
  |false =>
    rw[Ak Cz] at Y ⊢;obtain⟨h,P,w7⟩:=Y;exact again B P w7
  |true =>
    rw[Al rfl] at Y ⊢;refine AS (he _ _ _ _ _ _ A σ6 u _ B Y) λy s8⟨yv,H8,I8,r8,ay,az,h,P,w8⟩=>?_;refine AS (Vg (X:=EN X N scope (DW X scope (D+1)) (D+1) s H d) _ s8 σ6 H8 (.ref D) [yv] (.ref D) [y] (λζ H9=>W (i+1) h (ys++[yv]) H9) I8 rfl (.cons r8 .nil) ⟨ys,ay,az,w8⟩) λ_ s9⟨_,H9,I9,_,w9⟩=>?_;exact again I9 P w9
 exact codeAny_compStart_list aj (T.self _ 0 _ _ _ af aj)
def G9{k:Nat}{b:TI}(c:X.calm=true)(S:Av X.env.scope X.N scope N k caps)(d:PI X tg j b)
 (i:∀a C s H ex,PG (EN X N scope a C s H ex) tg g) (n:∀a C s H ex,PF (EN X N scope a C s H ex) f tc) (o:∀a C s H ex,PE (EN X N scope a C s H ex) l te)
 (p:∀x,foldedSetIterable j X.env x=pure x:=by intro _;rfl):PE X (.ListComp l [⟨tg,j,f,0⟩] scope L) (KN k caps b g tc te):=by
 intro pins s σ H Q I h;have E:closureFor scope X.env=pure (Ga X.env scope.names []):=Vs λx r F=>I.ok.has x.1 (S.free x r F);rw[eval_ListComp];refine wpAny_comprehension_free (use:=none) rfl p E S.kind S.loc (AS (d pins s σ H _ I h) λv M h1=>AS h1 λW O t=>?_);obtain⟨P,R,U,J,V,e,u,T,G,w,q⟩:=t;subst e;refine Vy (Q:=Q) c S u T G w i n o q ?_;intro D C H' Z m _ _ y z _ _ A;exact⟨m,y,λB K=>⟨.ref D,H',z B K,rfl,A⟩⟩
def Vz{E:Pos}{k:Nat}{t:Pos}{u:TI}(F:X.N.Nodup)(aa:X.N[i]?=some x)(n:Loc X.env.scope x)
 (G:X.calm=true) (S:Av X.env.scope X.N scope N k caps) (J:PI X tg j u)
 (K:∀c C s H ex,PG (EN X N scope c C s H ex) tg g) (M:∀c C s H ex,PF (EN X N scope c C s H ex) f tc) (O:∀c C s H ex,PE (EN X N scope c C s H ex) l te)
 (ab:swapsWith (.ListComp l [⟨tg,j,f,0⟩] scope L) (some (.Name x t)) E.line X.env=pure true:=by rfl)
 (P:∀x,foldedSetIterable j X.env x=pure x:=by intro _;rfl) (ae:X.fn x=true\/X.env.scope.names.lookup x=some .local:=by first|exact .inl rfl|exact .inr rfl|assumption) :
 PS X (.Assign [.Name x t] (.ListComp l [⟨tg,j,f,0⟩] scope L) E) (Ja (KN k caps u g tc te) (Kz i)):=by
 intro pins s σ H D I h;have af:closureFor scope X.env=pure (Ga X.env scope.names []):=Vs λx n ag=>I.ok.has x.1 (S.free x n ag);rw[exec_Assign_Name_used _ _ _ _ ab];refine Ad (wpAny_standAt (Ad ?_))
 show wpAny _ _ (do let _ <-comprehension (.ListComp l [⟨tg,j,f,0⟩] scope L) scope X.env _ (newList []) false (eval j X.env) (some (assign (.Name x t) X.env))) _ _ s
 refine Ad (FP (wpAny_comprehension_free (use:=some (assign (.Name x t) X.env)) (Q:=λζ Z=>SP X pins D .next Z) rfl P af S.kind S.loc
  (AS (J pins s σ H _ I h) λv s1 h1=>AS h1 λau s2 R=>?_)) (λζ Z o=>Aw (Aw o)) λζ ζ e=>e)
 obtain⟨it,fp,tn,aq,H2,e,r,T,ah,U,q⟩:=R;subst e;refine Vy (Q:=λx Y=>Kz i x σ Y D.nx) G S r T ah U K M O q ?_;intro w C H' Z m y A W hI ai B o;have I3:=hI Z.heap (.refl ..);have aj:Inv X pins σ H' Z:=I3;refine wpAny_assign_Name (UT aj F aa n (show RelV (V.ref w) (.ref w) from rfl) (λak I4⟨a,al,d⟩=>?_) ae)
 have an:C≠a:=by
  rcases d with d|d;rw[d];exact y;exact Ne.symm (A x a d)
 refine⟨m,W.sameBut al an,λh' ao=>?_⟩;refine⟨_,H',?_,o⟩
 exact I4.turned (t':=ak.toks) (λb ar hb e=>(ao.2 b hb).trans e) ai y (.inr (Em r.sz B)) A λp hp z=>by
  have:=A5 (r.pin p hp).1;rw[z] at this;exact absurd (FO this B) (Gi _)
def BG (P:Program) (w:World) (K:Ah) (mg:Str->Option Value) (base:Heap) (x:Str) (k:Nat) (ps:List Str) (sp:Sp):Prop:=
 ∃f fd,Et P w K mg base IJ k f fd ps sp/\mg x=some (.ref f)/\PySem.W.keepIn K (.ref f)=true/\Binds K fd ps []
section
variable {X:Cx} {x:Str} {k:Nat} {ps:List Str} {sp:Sp} {e:Expr} {es:List Expr} {t:TA} {p L:Pos}
def A9(C:BG X.prog X.w X.K X.mg X.base x k ps sp)(a:PA X (e::es) t)(b:B1 k X.A:=by exact B1.mono (by assumption) (by decide))(c:Gl X x:=by rfl)(j:(x==("__debug__" : Str))=false:=by decide)
 (d:starEach (e::es) X.env=(false,eval e X.env)::starEach es X.env:=by rfl) (l:(backTo L (starEach es X.env)).any (·.1)=false:=by rfl):PE X (.Call (.Name x p) (e::es) [] L) (Ht sp [] E0 t):=by
 obtain⟨f,fd,F,g,h,i⟩:=C;exact Jf F b c g h i .nil Oi a j d l
end
def GC(n:String)(a:Gl X x)(b:X.mg x=none)(hv:bootBuiltins x=some (.type n))(c:x ≠ "__name__" :=by decide)(hd:(x==("__debug__" : Str))=false:=by decide):PE X (.Name x L) (tC (.ty n)):=IZ (v:=.ty n) a b hv rfl c hd
def HF{t u:TS}{σ:L2.St}(P:L2.St->Hp->Prop)(a:∀σ' H',P σ' H'->u D σ' H')(b:∀N:L2.St->Hp->Prop,(∀σ' H',P σ' H'->N σ' H')->t {D with nx:=N} σ H):Lj t u D σ H:=b (u D) a
def Ac.upd{H H':Hp}{D:Addr}{o:HO}(h:Ac H H')(a:H D=none):Ac H (upd H' D o):=λb u e=>by
 rw[AE (AK e a)];exact h b u e
def Ac.seqT{K:Ah}(e:Ac H H')(h:Ap K H a xs):Ap K H' a xs:=by
 rcases h with(h|⟨o,h⟩)|h;exact .inl (.inl (e _ _ h));exact .inl (.inr ⟨o,e _ _ h⟩);exact .inr h
def Sw{K:Ah}{k:Nat}{Y:Hp}{Q:Addr->Hp->Prop}(f:V->V)(z:xs.length<=sizeLine)(v:Ae K Y a xs)
 (w:∀(i:Nat)(x:V)(c:Hp)(D:Addr)(R:VK),xs[i]?=some x->Ac Y c->Y D=none->(∀d,Ac c d->R (f x) d)->g x (EG k caps σ) c λσ4 j=>te σ4 j R)
 (hd:∀(c:Hp)(D:Addr),Ac Y c->Y D=none->c D=some (.lst (xs.map f))->Q D c) :
 ∀D,Y D=none->∃W:Nat->Nat->List V->Hp->Prop,(∃m,W 0 m [] (upd Y D (.lst [])))/\∀i m ys c,W i m ys c ->
  ((Gz K a).stop i c/\Q D c)\/((Gz K a).go i c/\∀x d,(Gz K a).yld i c x d->g x (EG k caps σ) d λσ4 j=>HE σ4 j λb q =>
   if b=true then te σ4 q λy r=>r D=some (.lst ys)/\ys.length<sizeLine/\∃h,h<m/\W (i+1) h (ys++[y]) (upd r D (.lst (ys++[y]))) else ∃h,h<m/\W (i+1) h ys q):=by
 intro D l;refine⟨λi m ys c=>m=xs.length-i/\i<=xs.length/\ys=(xs.take i).map f/\Ac Y c/\c D=some (.lst ys),⟨xs.length,rfl,Cm _,rfl,(Ac.refl _).upd l,Aa⟩,?_⟩;rintro i m ys c ⟨rfl,A,rfl,n,o⟩;have p:=n.seq v;by_cases u:i<xs.length;refine .inr ⟨⟨xs,xs[i],p,by simp[u]⟩,λx d y=>?_⟩;obtain⟨rfl,y⟩:=y;have s:=y xs p;refine w i x d D _ s n l λj t=>?_;refine⟨t _ _ o,by rw[An,FN];lia,xs.length-(i+1),by lia,rfl,u,?_,(n.trans t).upd l,Aa⟩;rw[DV,s,Br];rfl;have e:i=xs.length:=(by lia);subst e;rw[Ej] at o;exact .inl ⟨⟨xs,p,AD _⟩,hd c D n l o⟩
def Fq (ns:List Int) (k:Int):Int:=(ns[k.toNat]?).getD 0
def Sx{u:TS}(h:u D (σ.set i (some v)) H):Lj (Ja (tC v) (Kz i)) u D σ H:=h
def Sy{k:Int}(a:0<=k)(h1:k<n):Hu n k=some k.toNat:=by
 unfold Hu;rw[Al a,Al h1]
def YU(xs:List V)(n:Nat):EM xs (some (n:Int)) none=xs.drop n:=by
 unfold EM;rw[HT.sIx_none,HT.sIx_nat];by_cases h:n<=xs.length;rw[Nat.min_eq_left h,List.take_of_length_le (by rw[Ks];exact AD _)];rw[Nat.min_eq_right (by lia),List.drop_of_length_le (AD _),List.drop_of_length_le (by lia)]
 simp
def YV(xs:List V)(a b:Nat)(e:a<=b):EM xs (some (a:Int)) (some (b:Int))=(xs.drop a).take (b-a):=by
 unfold EM;rw[HT.sIx_nat,HT.sIx_nat];by_cases c:a<=xs.length;rw[Nat.min_eq_left c];by_cases d:b<=xs.length;rw[Nat.min_eq_left d];rw[Nat.min_eq_right (show xs.length<=b by lia),List.take_of_length_le (by rw[Ks];exact AD _),List.take_of_length_le (by rw[Ks];lia)];rw[Nat.min_eq_right (show xs.length<=a by lia),List.drop_of_length_le (AD _),List.drop_of_length_le (show xs.length<=a by lia)]
 simp
def Bf{p:Addr}{o:HO}(h:H p=none):Ac H (upd H p o):=(Ac.refl H).upd h
def AU{σ:L2.St}{N:L2.St->Hp->Prop}(h:N (σ.set i (some v)) H):Kz i v σ H N:=h
section
variable {X:Cx}
def EH:KD X "list.append" Vf:=Vg
def Oo:KD X "list.extend" Vh:=YA
def YW:KD X "list.reverse" Vi:=YB
def YX:KD X "list.clear" Hy:=YC
end
section
variable {X:Cx}
def Jn (neg:Bool):R2:=λx y H Q=>∃a o,y=.ref a/\Dq H a x o/\Q (.bl (o.isSome != neg)) H
def VA(b:X.A.units+1<cLine):Dc X (compareOp .In) (Jn false):=by
 intro pins s σ H x y v u Q I c d h;obtain⟨a,o,rfl,g,q⟩:=h;cases d;refine Sm b I g c λZ e=>⟨.bl _,H,e,?_,q⟩;cases o<;>rfl
def YY:V->V->V->Hp->(Hp->Prop)->Prop:=λo i v H Q=>∃a H',o=.ref a/\HB H a i v H'/\Q H'
def YZ(b:X.A.units+1<cLine):I7 X YY:=by
 intro pins s σ H o i v j k u Q I c d e h;obtain⟨a,H',rfl,g,q⟩:=h;cases c;exact YE b I g d e λZ f=>⟨H',f,q⟩
def Jo{a:Expr}{b:TE}(c:PE X a b)(d:∀whole,isTrue a X.env whole=(do let v <-whole;standAt a.pos;holding [v] (truthy v)):=by intro _;rfl) :
 PT X a (λσ H Q=>b σ H λx Y=>∃p xs,x=.ref p/\Ae X.K Y p xs/\Q (!xs.isEmpty) Y):=by
 intro pins s σ H Q I e;refine isTrue_plain (AS (c pins s σ H _ I e) λv f⟨x,Y,g,h,i⟩=>?_) (d _);obtain⟨p,xs,rfl,j,q⟩:=i;exact Lw pins f σ Y _ v Q g h ⟨_,Or.inl ⟨xs,j,rfl⟩,q⟩
end
section
variable {prog:Program} {w:World} {A:Around} {R:Result->Shared->Prop} {It:Addr} {fp r:List Addr} {G:Array GenState->Array GenState->Prop} {n:Nat} {Pn:Nat->Value->Prop} {Sn:Nat->Shared->Prop}
end
section
variable {prog:Program} {w:World} {A:Around} {E:D'} {s:Shared}
end
section
variable {X:Cx}
end
open PySem.SeqAt
inductive Dt where
 |non|bl (b:Bool)|int (i:Int)|str (x:Str)|tup (l:List Dt)|lst (l:List Dt)
mutual
inductive Ar (K:Ah) (H:Hp):V->Dt->Prop where
 | non:Ar K H .non .non
 | bl (b:Bool):Ar K H (.bl b) (.bl b)
 | int (i:Int):Ar K H (.int i) (.int i)
 | str (x:Str):Ar K H (.str x) (.str x)
 | tup {a:Addr} {vs:List V} {ds:List Dt} (h:Ap K H a vs) (t:Aj K H vs ds):Ar K H (.ref a) (.tup ds)
 | lst {a:Addr} {vs:List V} {ds:List Dt} (h:Ae K H a vs) (t:Aj K H vs ds):Ar K H (.ref a) (.lst ds)
inductive Aj (K:Ah) (H:Hp):List V->List Dt->Prop where
 | nil:Aj K H [] []
 | cons {v:V} {d:Dt} {vs:List V} {ds:List Dt} (h:Ar K H v d) (t:Aj K H vs ds):Aj K H (v :: vs) (d :: ds)
end
mutual
theorem Ar.same {K:Ah}{H H':Hp} (e:Ac H H') {v:V} {d:Dt} (h:Ar K H v d):Ar K H' v d:=by
 cases h with
 | non=>exact .non
 | bl b=>exact .bl b
 | int i=>exact .int i
 | str x=>exact .str x
 | tup h t=>exact .tup (e.seqT h) (Aj.same e t)
 | lst h t=>exact .lst (e.seq h) (Aj.same e t)
theorem Aj.same {K:Ah}{H H':Hp} (e:Ac H H') {vs:List V} {a:List Dt} (h:Aj K H vs a):Aj K H' vs a:=by
 cases h with
 | nil=>exact .nil
 | cons h t=>exact .cons (Ar.same e h) (Aj.same e t)
end
theorem Aj.length{K:Ah}{H:Hp}:∀{vs:List V}{a:List Dt},Aj K H vs a->vs.length=a.length
 |_,_,.nil=>rfl
 |_,_,.cons _ t=>BJ (·+1) t.length
theorem Aj.get{K:Ah}{H:Hp}:∀{vs:List V}{a:List Dt}{i:Nat}{v:V},Aj K H vs a->vs[i]?=some v->∃d,a[i]?=some d/\Ar K H v d
 |_,_,_,_,.nil,e=>by simp at e
 |_,_,0,_,.cons h _,e=>by simp at e;subst e;exact⟨_,rfl,h⟩
 |_,_,i+1,v,.cons _ t,e=>by
   obtain⟨d,h1,b⟩:=Aj.get (i:=i) (v:=v) t (by simpa using e);exact⟨d,by simpa using h1,b⟩
theorem Aj.get'{K:Ah}{H:Hp}:∀{vs:List V}{a:List Dt}{i:Nat}{d:Dt},Aj K H vs a->a[i]?=some d->∃v,vs[i]?=some v/\Ar K H v d
 |_,_,_,_,.nil,e=>by simp at e
 |_,_,0,_,.cons h _,e=>by simp at e;subst e;exact⟨_,rfl,h⟩
 |_,_,i+1,v,.cons _ t,e=>by
   obtain⟨d,h1,b⟩:=Aj.get' (i:=i) (d:=v) t (by simpa using e);exact⟨d,by simpa using h1,b⟩
theorem Aj.strs{K:Ah}{H:Hp}:∀(xs:List Str),Aj K H (xs.map V.str) (xs.map Dt.str)
 |[]=>.nil
 |x::xs=>.cons (.str x) (Aj.strs xs)
section
variable {X:Cx} {pins:B'} {σ:St} {H:Hp} {s:Shared}
def Inv.not_both(I:Inv X pins σ H s){ys:List V}(h:Ae X.K H a xs)(h':Ap X.K H a ys):False:=by
 obtain⟨_,_,⟨o,n,e,c,_⟩,_⟩:=I.list h;obtain⟨_,_,⟨f,b,d,_⟩,_⟩:=I.tuple h';rw[e] at b;cases b;rw[c] at d;exact absurd d (by decide)
mutual
theorem Ar.inj (I:Inv X pins σ H s) {v:V} {d e:Dt} (h:Ar X.K H v d) (h':Ar X.K H v e):d=e:=by
 cases h with
 | non=>cases h';rfl
 | bl _=>cases h';rfl
 | int _=>cases h';rfl
 | str _=>cases h';rfl
 | tup h t=>cases h' with
   | tup h' a =>
     have e:=I.tuple_inj h h';subst e;rw[Aj.inj I t a]
   | lst h' _=>exact(I.not_both h' h).elim
 | lst h t=>cases h' with
   | lst h' a =>
     have e:=I.list_inj h h';subst e;rw[Aj.inj I t a]
   | tup h' _=>exact(I.not_both h h').elim
theorem Aj.inj (I:Inv X pins σ H s) {vs:List V} {a es:List Dt} (h:Aj X.K H vs a) (h':Aj X.K H vs es):a=es:=by
 cases h with
 | nil=>cases h';rfl
 | cons h t=>cases h' with
   | cons h' b=>rw[Ar.inj I h h',Aj.inj I t b]
end
end
def Dt.kd:Dt->Nat
 |.non=>0|.bl _=>1|.int _=>2|.str _=>3|.tup _=>4|.lst _=>5
def Ha (a b:Nat):Bool:=a != b && !(a==1 && b==2) && !(a==2 && b==1)
mutual
inductive Ed:Nat->Dt->Dt->Prop where
 | non {n:Nat}:Ed n .non .non
 | bl {n:Nat} (a b:Bool):Ed n (.bl a) (.bl b)
 | int {n:Nat} (a b:Int):Ed n (.int a) (.int b)
 | str {n:Nat} (a b:Str):Ed n (.str a) (.str b)
 | tup {n:Nat} {ds es:List Dt} (t:By n ds es):Ed (n+1) (.tup ds) (.tup es)
 | lst {n:Nat} {ds es:List Dt} (t:By n ds es):Ed (n+1) (.lst ds) (.lst es)
 | apart {n:Nat} {d e:Dt} (h:Ha d.kd e.kd=true):Ed (n+1) d e
inductive By:Nat->List Dt->List Dt->Prop where
 | nil {n:Nat} (es:List Dt):By n [] es
 | nil' {n:Nat} (ds:List Dt):By n ds []
 | cons {n:Nat} {d e:Dt} {ds es:List Dt} (h:Ed n d e) (t:By n ds es):By n (d :: ds) (e :: es)
end
theorem By.of{n:Nat}:∀{a es:List Dt},(∀d∈a,∀e∈es,Ed n d e)->By n a es
 |[],es,_=>.nil es
 |d::a,[],_=>.nil' _
 |d::a,e::es,h=>.cons (h d (by simp) e (by simp)) (By.of λx b y c=>h x (by simp[b]) y (by simp[c]))
open Classical in
noncomputable def dec (p:Prop):Bool:=decide p
variable {p:Prop}
def Fs(h:p):dec p=true:=@A7 p (Classical.propDecidable p) h
def Gb(h:¬p):dec p=false:=@Do p (Classical.propDecidable p) h
def Ft:dec p=true↔p:=⟨λh=>@Bi p (Classical.propDecidable p) h,Fs⟩
def Ng{q:Prop}(h:p↔q):dec p=dec q:=by rw[propext h]
def Sz{α:Type} [BEq α] [LawfulBEq α]{a b:α}(h:p↔a=b):(a==b)=dec p:=by
 by_cases e:a=b;subst e;rw[Fs (h.mpr rfl)];exact beq_self_eq_true _;rw[Gb λq=>e (h.mp q)];exact beq_false_of_ne e
variable {ds es:List Dt}
def Y0(b:ds.length=es.length)(h:∀i,i<ds.length->ds[i]?=es[i]?):ds=es:=List.ext_getElem? λi=>by
 by_cases a:i<ds.length;exact h i a;rw[Fh (by lia),Fh (by lia)]
section
variable {X:Cx} {pins:B'} {σ:St} {H:Hp} {s:Shared}
def HG(A:Around):A.in1.units=A.units+1:=rfl
def VB(I:Inv X pins σ H s){vs us:List V}{a b:List Value}(c:As vs a)(f:As us b)(O:Aj X.K H vs ds)(n:Aj X.K H us es)
 (o:∀(i:Nat)(d e:Dt)(v u:V)(x y:Value),ds[i]?=some d->es[i]?=some e->RelV v x->RelV u y->Ar X.K H v d->Ar X.K H u e->EqAt A s x y (dec (d=e))) :
 ∀j(h1:j<a.toArray.size)(g:j<b.toArray.size),EqAt A s a.toArray[j] b.toArray[j] (dec (ds[j]?=es[j]?)):=by
 intro j h1 g;have C:=c.length;have D:=f.length;have z:j<a.length:=(by simpa using h1);have B:j<b.length:=(by simpa using g);obtain⟨x,h,r⟩:=c.get (i:=j) (x:=vs[j]'(by lia)) (AC (by lia));obtain⟨y,l,t⟩:=f.get (i:=j) (x:=us[j]'(by lia)) (AC (by lia));obtain⟨d,hd,k⟩:=O.get (i:=j) (v:=vs[j]'(by lia)) (AC (by lia));obtain⟨e,m,te⟩:=n.get (i:=j) (v:=us[j]'(by lia)) (AC (by lia))
 have ex:a.toArray[j]=x:=by
  rw[AC z] at h;simpa using h
 have w:b.toArray[j]=y:=by
  rw[AC B] at l;simpa using l
 rw[ex,w,hd,m];have:=o j d e _ _ x y hd m r t k te;rw[Ng (p:=some d=some e) (q:=d=e) (by simp)];exact this
def VC(a:n=ds.length)(b:ds.length=es.length):(List.range n).all (λj=>dec (ds[j]?=es[j]?))=dec (ds=es):=by
 subst a;by_cases h:ds=es;subst h;rw[Fs rfl,List.all_eq_true];exact λi ζ=>Fs rfl;rw[Gb h,Bool.eq_false_iff];intro q;rw[List.all_eq_true] at q;exact h (Y0 b λi c=>Ft.mp (q i (List.mem_range.mpr c)))
variable {d e:Dt}{u:V}{y:Value}
def Y1(I:Inv X pins σ H s){x:Value}(h:Ha d.kd e.kd=true)(k:Ar X.K H v d)(te:Ar X.K H u e)(j:RelV v x)(f:RelV u y)(c:A.units<cLine):EqAt A s x y false/\RcAt A s x y false/\RcNeAt A s x y true:=by
 cases k with
 |non =>
   cases j
   cases te with
   |non=>exact absurd h (by simp[Ha,Dt.kd])
   |bl b =>
     cases f;exact⟨EqAt.none_bool _,RcAt.none_bool _,RcNeAt.none_bool _⟩
   |int b =>
     obtain⟨i,rfl⟩:=f;exact⟨EqAt.none_int _ _,RcAt.none_int _ _,RcNeAt.none_int _ _⟩
   |str b =>
     obtain⟨i,rfl⟩:=f;exact⟨EqAt.none_str _ _,RcAt.none_str _ _,RcNeAt.none_str _ _⟩
   |tup g i =>
     cases f;obtain⟨_,_,J,_⟩:=I.tuple g;exact⟨EqAt.none_tuple J c,RcAt.none_tuple J c,RcNeAt.none_tuple J c⟩
   |lst g i =>
     cases f;obtain⟨_,_,J,_⟩:=I.list g;have J:=J.isList;exact⟨EqAt.none_list J c,RcAt.none_list J c,RcNeAt.none_list J c⟩
 |bl a =>
   cases j
   cases te with
   |non =>
     cases f;exact⟨EqAt.bool_none _,RcAt.bool_none _,RcNeAt.bool_none _⟩
   |bl b=>exact absurd h (by simp[Ha,Dt.kd])
   |int b=>exact absurd h (by simp[Ha,Dt.kd])
   |str b =>
     obtain⟨i,rfl⟩:=f;exact⟨EqAt.bool_str _ _ _,RcAt.bool_str _ _ _,RcNeAt.bool_str _ _ _⟩
   |tup g i =>
     cases f;obtain⟨_,_,J,_⟩:=I.tuple g;exact⟨EqAt.bool_tuple _ J c,RcAt.bool_tuple _ J c,RcNeAt.bool_tuple _ J c⟩
   |lst g i =>
     cases f;obtain⟨_,_,J,_⟩:=I.list g;have J:=J.isList;exact⟨EqAt.bool_list _ J c,RcAt.bool_list _ J c,RcNeAt.bool_list _ J c⟩
 |int a =>
   obtain⟨t,rfl⟩:=j
   cases te with
   |non =>
     cases f;exact⟨EqAt.int_none _ _,RcAt.int_none _ _,RcNeAt.int_none _ _⟩
   |bl b=>exact absurd h (by simp[Ha,Dt.kd])
   |int b=>exact absurd h (by simp[Ha,Dt.kd])
   |str b =>
     obtain⟨i,rfl⟩:=f;exact⟨EqAt.int_str _ _ _ _,RcAt.int_str _ _ _ _,RcNeAt.int_str _ _ _ _⟩
   |tup g i =>
     cases f;obtain⟨_,_,J,_⟩:=I.tuple g;exact⟨EqAt.int_tuple _ _ J c,RcAt.int_tuple _ _ J c,RcNeAt.int_tuple _ _ J c⟩
   |lst g i =>
     cases f;obtain⟨_,_,J,_⟩:=I.list g;have J:=J.isList;exact⟨EqAt.int_list _ _ J c,RcAt.int_list _ _ J c,RcNeAt.int_list _ _ J c⟩
 |str a =>
   obtain⟨t,rfl⟩:=j
   cases te with
   |non =>
     cases f;exact⟨EqAt.str_none _ _,RcAt.str_none _ _,RcNeAt.str_none _ _⟩
   |bl b =>
     cases f;exact⟨EqAt.str_bool _ _ _,RcAt.str_bool _ _ _,RcNeAt.str_bool _ _ _⟩
   |int b =>
     obtain⟨i,rfl⟩:=f;exact⟨EqAt.str_int _ _ _ _,RcAt.str_int _ _ _ _,RcNeAt.str_int _ _ _ _⟩
   |str b=>exact absurd h (by simp[Ha,Dt.kd])
   |tup g i =>
     cases f;obtain⟨_,_,J,_⟩:=I.tuple g;exact⟨EqAt.str_tuple _ _ J c,RcAt.str_tuple _ _ J c,RcNeAt.str_tuple _ _ J c⟩
   |lst g i =>
     cases f;obtain⟨_,_,J,_⟩:=I.list g;have J:=J.isList;exact⟨EqAt.str_list _ _ J c,RcAt.str_list _ _ J c,RcNeAt.str_list _ _ J c⟩
 |tup h1 l =>
   cases j;obtain⟨_,_,p,_⟩:=I.tuple h1
   cases te with
   |non =>
     cases f;exact⟨EqAt.tuple_none p c,RcAt.tuple_none p c,RcNeAt.tuple_none p c⟩
   |bl b =>
     cases f;exact⟨EqAt.tuple_bool _ p c,RcAt.tuple_bool _ p c,RcNeAt.tuple_bool _ p c⟩
   |int b =>
     obtain⟨i,rfl⟩:=f;exact⟨EqAt.tuple_int _ _ p c,RcAt.tuple_int _ _ p c,RcNeAt.tuple_int _ _ p c⟩
   |str b =>
     obtain⟨i,rfl⟩:=f;exact⟨EqAt.tuple_str _ _ p c,RcAt.tuple_str _ _ p c,RcNeAt.tuple_str _ _ p c⟩
   |tup g i=>exact absurd h (by simp[Ha,Dt.kd])
   |lst g i =>
     cases f;obtain⟨_,_,J,_⟩:=I.list g;have J:=J.isList;exact⟨EqAt.tuple_list p J c,RcAt.tuple_list p J c,RcNeAt.tuple_list p J c⟩
 |lst h1 l =>
   cases j;obtain⟨_,_,p,_⟩:=I.list h1;have p:=p.isList
   cases te with
   |non =>
     cases f;exact⟨EqAt.list_none p c,RcAt.list_none p c,RcNeAt.list_none p c⟩
   |bl b =>
     cases f;exact⟨EqAt.list_bool _ p c,RcAt.list_bool _ p c,RcNeAt.list_bool _ p c⟩
   |int b =>
     obtain⟨i,rfl⟩:=f;exact⟨EqAt.list_int _ _ p c,RcAt.list_int _ _ p c,RcNeAt.list_int _ _ p c⟩
   |str b =>
     obtain⟨i,rfl⟩:=f;exact⟨EqAt.list_str _ _ p c,RcAt.list_str _ _ p c,RcNeAt.list_str _ _ p c⟩
   |tup g i =>
     cases f;obtain⟨_,_,J,_⟩:=I.tuple g;exact⟨EqAt.list_tuple p J c,RcAt.list_tuple p J c,RcNeAt.list_tuple p J c⟩
   |lst g i=>exact absurd h (by simp[Ha,Dt.kd])
def VD(I:Inv X pins σ H s){x:Value}(k:Ar X.K H v d)(te:Ar X.K H u e)(b:RelV v x)(i:RelV u y)(h:RcAt A s x y (dec (d=e))):EqAt A s x y (dec (d=e)):=by
 by_cases g:x=y;subst g;have j:=b.inj i;subst j;rw[Fs (Ar.inj I k te)];exact EqAt.same _;intro f w E Q c;unfold eqBool;refine Fl ?_;refine wpAny_ite_split (λl=>absurd (eq_of_beq l) g) (λζ=>?_)
 cases k with
 |non=>cases b;exact Ad (h f w E _ (FI c))
 |bl a=>cases b;exact Ad (h f w E _ (FI c))
 |int a=>obtain⟨t,rfl⟩:=b;exact Ad (h f w E _ (FI c))
 |str a=>obtain⟨t,rfl⟩:=b;exact Ad (h f w E _ (FI c))
 |tup _ _=>cases b;exact Ad (h f w E _ (FI c))
 |lst _ _=>cases b;exact Ad (h f w E _ (FI c))
def Op(h:Ha d.kd e.kd=true):¬d=e:=λz=>by
 subst z;simp[Ha] at h
set_option tactic.hygienic true in
mutual
theorem SA (I:Inv X pins σ H s) {n:Nat} {d e:Dt} {v u:V} {x y:Value} {A:Around} (c:Ed n d e) (k:Ar X.K H v d) (te:Ar X.K H u e) (g:RelV v x) (i:RelV u y) (O:A.units+n<cLine):RcAt A s x y (dec (d=e))/\RcNeAt A s x y (!dec (d=e)):=by
 cases c with
 | non =>
   cases k;cases te;cases g;cases i;rw[Fs rfl];exact⟨RcAt.none_none,RcNeAt.none_none⟩
 | bl a b =>
   cases k;cases te;cases g;cases i;rw[<-Sz (a:=a) (b:=b) (by simp)];exact⟨RcAt.bool_bool a b,RcNeAt.bool_bool a b⟩
 | int a b =>
   cases k;cases te;obtain⟨t,rfl⟩:=g;obtain⟨f,rfl⟩:=i;rw[<-Sz (a:=a) (b:=b) (by simp)];exact⟨RcAt.int_int a t b f,RcNeAt.int_int a t b f⟩
 | str a b =>
   cases k;cases te;obtain⟨t,rfl⟩:=g;obtain⟨f,rfl⟩:=i;rw[<-Sz (a:=a) (b:=b) (by simp)];exact⟨RcAt.str_str a t b f,RcNeAt.str_str a t b f⟩
 | @tup n ds es c =>
   cases k;cases te;rename_i a F h t b G D f;cases g;cases i;obtain⟨m,r,p,_⟩:=I.tuple h;obtain⟨o,w,l,_⟩:=I.tuple D;have J:=r.length;have K:=w.length;have L:=t.length;have M:=f.length;have B:=VB (A:=A.in1) I r w t f (LP I c (by rw[HG];lia))
   have e:dec (Dt.tup ds=Dt.tup es)=((List.range (min m.toArray.size o.toArray.size)).all (fun j=>dec (ds[j]?=es[j]?)) && m.toArray.size == o.toArray.size):=by
    rw[Ng (p:=Dt.tup ds=Dt.tup es) (q:=ds=es) (by simp)];simp only[Ck];by_cases C:ds.length=es.length
    rw[show(m.length == o.length)=true from beq_iff_eq.mpr (by lia),Bool.and_true,VC (by lia) C]
    rw[show(m.length == o.length)=false from beq_false_of_ne (by lia),Bool.and_false,Gb fun z=>C (by rw[z])]
   rw[e];exact⟨RcAt.tuples (A:=A) p l (by lia) B,RcNeAt.tuples (A:=A) p l (by lia) B⟩
 | @lst n ds es c =>
   cases k;cases te;rename_i a F h t b G D f;cases g;cases i;obtain⟨m,r,p,_⟩:=I.list h;obtain⟨o,w,l,_⟩:=I.list D;have J:=r.length;have K:=w.length;have L:=t.length;have M:=f.length;by_cases C:ds.length=es.length;have B:=VB (A:=A.in1) I r w t f (LP I c (by rw[HG];lia));rw[Ng (p:=Dt.lst ds=Dt.lst es) (q:=ds=es) (by simp),<-VC (n:=m.toArray.size) (by simp only[Ck];lia) C];exact⟨RcAt.lists (A:=A) p.isList l.isList (by simp only[Ck];lia) (by lia) B,RcNeAt.lists (A:=A) p.isList l.isList (by simp only[Ck];lia) (by lia) B⟩
   rw[Gb (show ¬Dt.lst ds=Dt.lst es from fun z=>C (by cases z;rfl))]
   have E:(m.toArray.size != o.toArray.size)=true:=by simp only[Ck];rw[bne_iff_ne];lia
   exact⟨RcAt.lists_lengths p.isList l.isList E (by lia),RcNeAt.lists_lengths p.isList l.isList E (by lia)⟩
 | apart h =>
   obtain⟨_,h1,N⟩:=Y1 (A:=A) I h k te g i (by lia);rw[Gb (Op h)];exact⟨h1,N⟩
theorem LP (I:Inv X pins σ H s) {n:Nat} {ds es:List Dt} {A:Around} (c:By n ds es) (f:A.units+n<cLine)
 (i:Nat) (d e:Dt) (v u:V) (x y:Value) (h:ds[i]?=some d) (h':es[i]?=some e) (a:RelV v x) (b:RelV u y) (k:Ar X.K H v d) (te:Ar X.K H u e):EqAt A s x y (dec (d=e)):=by
 cases c with
 | nil=>simp at h
 | nil'=>simp at h'
 | cons c t=>cases i with
   | zero =>
     simp at h h';subst h;subst h';have g:=SA (A:=A) I c k te a b f;exact VD I k te a b g.1
   | succ i=>exact LP I t f i d e v u x y (by simpa using h) (by simpa using h') a b k te
end
def VE(I:Inv X pins σ H s){x:Value}(c:Ed n d e)(k:Ar X.K H v d)(te:Ar X.K H u e)(a:RelV v x)(b:RelV u y)(f:A.units+n<cLine):EqAt A s x y (dec (d=e)):=
 VD I k te a b (SA I c k te a b f).1
end
section
variable {X:Cx}
def SD (K:Ah):R2:=λx y H Q=>∃n d e,Ed n d e/\n<=60/\Ar K H x d/\Ar K H y e/\Q (.bl (dec (d=e))) H
def LQ(f:X.A.units+64<cLine):Dc X (compareOp .Eq) (SD X.K):=by
 intro pins s σ H x y v u Q I a b h;obtain⟨n,d,e,c,g,k,te,q⟩:=h;exact(SA (A:=X.A) I c k te a b (by lia)).1 _ _ _ _ ⟨.bl _,H,I,rfl,q⟩
def SE (K:Ah):R2:=λx y H Q=>∃n d ds a vs,(∀e∈ds,Ed n e d)/\n<=60/\Ar K H x d/\y=.ref a/\Ae K H a vs/\Aj K H vs ds/\Q (.bl (dec (d∈ds))) H
def Jp (K:Ah):R2:=λx y H Q=>∃n d ds a vs,(∀e∈ds,Ed n e d)/\n<=60/\Ar K H x d/\y=.ref a/\Ae K H a vs/\Aj K H vs ds/\Q (.bl (!dec (d∈ds))) H
def VF(I:Inv X pins σ H s){d:Dt}{vs:List V}{b:List Value}{x:Value}(r:As vs b)(t:Aj X.K H vs ds)(C:∀e∈ds,Ed n e d)(k:Ar X.K H v d)(D:RelV v x)(E:A.units+n<cLine) :
 (∀y,y∈b.toArray->EqAt A s y x (dec (∃u,RelV u y/\Ar X.K H u d)))/\b.toArray.any (λy=>dec (∃u,RelV u y/\Ar X.K H u d))=dec (d∈ds):=by
 have L:=r.length;have lt:=t.length
 have one:∀y,y∈b->∃e∈ds,∃u,RelV u y/\Ar X.K H u e:=λy a=>by
  obtain⟨i,g,e⟩:=Pj.mp a;obtain⟨M,B,j⟩:=r.get (i:=i) (x:=vs[i]'(by lia)) (AC (by lia));obtain⟨F,c,te⟩:=t.get (i:=i) (v:=vs[i]'(by lia)) (AC (by lia));rw[AC g,e] at B;cases B;exact⟨F,Bl c,_,j,te⟩
 refine⟨λy a=>?_,?_⟩;obtain⟨e,c,u,f,te⟩:=one y (by simpa using a);have:=VE (A:=A) I (C e c) te k f D E
 rw[Ng (p:=∃u,RelV u y/\Ar X.K H u d) (q:=e=d) ⟨λ⟨G,m,o⟩=>by
  have l:=f.inj m;subst l
  exact Ar.inj I te o,λz=>⟨u,f,by rw[<-z];exact te⟩⟩]
 exact this;by_cases h:d∈ds;rw[Fs h,Array.any_eq_true];obtain⟨i,g,e⟩:=Pj.mp h;obtain⟨u,K,te⟩:=t.get' (i:=i) (d:=d) (by rw[AC g,e]);obtain⟨y,a,j⟩:=r.get K;have w:i<b.length:=(A8.mp a).1;refine⟨i,by simpa using w,?_⟩
 have:b.toArray[i]'(by simpa using w)=y:=by
  rw[AC w] at a;simpa using a
 rw[this];exact Fs ⟨u,j,te⟩;rw[Gb h,Bool.eq_false_iff];intro q;obtain⟨i,g,q⟩:=Array.any_eq_true.mp q;obtain⟨u,f,te⟩:=Ft.mp q;obtain⟨e,c,G,m,o⟩:=one (b.toArray[i]) (by simp);have l:=f.inj m;subst l;have J:=Ar.inj I te o;subst J;exact h c
def LR(i:X.A.units+64<cLine):Dc X (compareOp .In) (SE X.K):=by
 intro pins s σ H x y v u Q I b c h;obtain⟨n,d,ds,a,j,e,l,k,rfl,f,t,q⟩:=h;cases c;obtain⟨m,r,p,_⟩:=I.list f;obtain⟨h1,g⟩:=VF (A:=X.A.in1) I r t e k b (by rw[HG];lia);exact in_listAt _ p.isList h1 (by rw[g];exact⟨.bl _,H,I,rfl,q⟩)
def Y2(i:X.A.units+64<cLine):Dc X (compareOp .NotIn) (Jp X.K):=by
 intro pins s σ H x y v u Q I b c h;obtain⟨n,d,ds,a,j,e,l,k,rfl,f,t,q⟩:=h;cases c;obtain⟨m,r,p,_⟩:=I.list f;obtain⟨h1,g⟩:=VF (A:=X.A.in1) I r t e k b (by rw[HG];lia);exact notIn_listAt _ p.isList h1 (by rw[g];exact⟨.bl _,H,I,rfl,q⟩)
end
end L2
namespace Ord
variable {α:Type} [DecidableEq α]
def nodup_sub_length{l m:List α}(h:l.Nodup)(a:∀x∈l,x∈m):l.length<=m.length:=by
 induction l generalizing m with
 |nil=>simp
 |cons x r f =>
   have b:=a x (by simp);have c:=(Gw.mp h)
   have:r.length<=(m.erase x).length:=f c.2 (λy d=>by
    have g:=a y (by simp[d]);have ne:y≠x:=λe=>c.1 (e▸d)
    exact(List.mem_erase_of_ne ne).mpr g)
   rw[List.length_erase_of_mem b] at this;have i:0<m.length:=List.length_pos_of_mem b
   simp;lia
end Ord
namespace War
end War
namespace Ord
variable {α:Type} [DecidableEq α]
end Ord
namespace L2
open PySem PySem.Spec PyProof.Rows Ord
abbrev VG (p:Str×Str):Dt:=.tup [.str p.1,.str p.2]
def HH:([]:List V).length+1<=sizeLine:=by decide
def Ca:([]:List V).length+1+1<=sizeLine:=by decide
theorem Aj.of_get{K:Ah}{H:Hp}:∀{vs:List V}{a:List Dt},vs.length=a.length->(∀(n:Nat)v d,vs[n]?=some v->a[n]?=some d->Ar K H v d)->Aj K H vs a
 |[],[],_,_=>.nil
 |v::vs,d::a,b,h=>.cons (h 0 v d rfl rfl) (Aj.of_get (by simpa using b) λn x y c e=>h (n+1) x y (by simpa using c) (by simpa using e))
structure Cb (H:Hp) (ts:List Addr) (ps:A'):Prop where
 len:ts.length=ps.length
 at_:∀(n:Nat)t p,ts[n]?=some t->ps[n]?=some p->H t=some (.tup [.str p.1,.str p.2])
variable {H:Hp}
def Cb.nil:Cb H [] []:=⟨rfl,λn t p h=>by simp at h⟩
variable {ts:List Addr}{ps:A'}
def Cb.same{H':Hp}(e:Ac H H')(h:Cb H ts ps):Cb H' ts ps:=⟨h.len,λn t p a b=>e _ _ (h.at_ n t p a b)⟩
def Cb.dts{K:Ah}(h:Cb H ts ps):Aj K H (ts.map V.ref) (ps.map VG):=by
 refine Aj.of_get (by simpa using h.len) λn v d a b=>?_;rw[Bh] at a b;obtain⟨t,c,rfl⟩:=EX.mp a;obtain⟨p,e,rfl⟩:=EX.mp b;exact .tup (Ap.of (h.at_ n t p c e)) (.cons (.str _) (.cons (.str _) .nil))
def Cb.snoc{t:Addr}{p:Str×Str}(h:Cb H ts ps)(e:H t=some (.tup [.str p.1,.str p.2])):Cb H (ts++[t]) (ps++[p]):=by
 refine⟨by rw[AY,AY,h.len];rfl,λn d f a b=>?_⟩;by_cases c:n<ts.length;rw[EJ c] at a;rw[EJ (by rw[<-h.len];exact c)] at b;exact h.at_ n d f a b
 have g:n=ts.length:=by
  have:=(A8.mp a).1;rw[AY,DJ] at this;lia
 subst g;rw[EW (AD _)] at a;rw[EW (by rw[h.len];exact AD _)] at b;simp at a;simp[h.len] at b;subst a;subst b;exact e
variable {a:Addr}
def SF{K:Ah}{xs:List V}{k:Nat}{r:List Nat}{g:TG}{te:TE}{σ:St}{Y:Hp}{Q:Addr->Hp->Prop}(Pv:Addr->Nat->List V->Hp->Prop)
 (s:∀D,Y D=none->Pv D 0 [] (upd Y D (.lst []))) (t:∀D i ys c,Pv D i ys c->Ae K c a xs)
 (u:∀D i x ys c(R:VK),Y D=none->xs[i]?=some x->Pv D i ys c->(∀y d,d D=some (.lst ys)->ys.length<sizeLine->Pv D (i+1) (ys++[y]) (upd d D (.lst (ys++[y])))->R y d)->g x (EG k r σ) c λσ4 j=>te σ4 j R)
 (hd:∀D ys c,Y D=none->Pv D xs.length ys c->Q D c) :
 ∀D,Y D=none->∃W:Nat->Nat->List V->Hp->Prop,(∃m,W 0 m [] (upd Y D (.lst [])))/\∀i m ys c,W i m ys c ->
  ((Gz K a).stop i c/\Q D c)\/((Gz K a).go i c/\∀x h,(Gz K a).yld i c x h->g x (EG k r σ) h λσ4 j=>HE σ4 j λb o =>
   if b=true then te σ4 o λy d=>d D=some (.lst ys)/\ys.length<sizeLine/\∃f,f<m/\W (i+1) f (ys++[y]) (upd d D (.lst (ys++[y]))) else ∃f,f<m/\W (i+1) f ys o):=by
 intro D l;refine⟨λi m ys c=>m=xs.length-i/\i<=xs.length/\Pv D i ys c,⟨xs.length,rfl,Cm _,s D l⟩,?_⟩;rintro i m ys c ⟨rfl,C,p⟩;have n:=t D i ys c p;by_cases q:i<xs.length;refine .inr ⟨⟨xs,xs[i],n,by simp[q]⟩,λx h y=>?_⟩;obtain⟨rfl,y⟩:=y;have w:=y xs n;refine u D i x ys h _ l w p λv d z A B=>?_;exact⟨z,A,xs.length-(i+1),by lia,rfl,q,B⟩;have e:i=xs.length:=(by lia);subst e;exact .inl ⟨⟨xs,n,AD _⟩,hd D ys c l p⟩
def AB.ex{P:Program}{w:World}{h:Heap}{o:HO}(x:AB P w H h a o):∃u,h.get? a=some u:=by
 cases o with
 |lst b=>obtain⟨_,_,_,_,e⟩:=x;exact⟨_,e⟩
 |tup b=>obtain⟨_,_,_,u,e,_⟩:=x;exact⟨u,e⟩
 |dK c=>obtain⟨_,_,_,_,u,_,_,e,_⟩:=x;exact⟨u,e⟩
 |dT c=>obtain⟨_,_,_,_,u,_,_,e,_⟩:=x;exact⟨u,e⟩
 |set S n=>obtain⟨u,_,_,_,e,_⟩:=x;exact⟨u,e⟩
 |ins C d fs=>obtain⟨_,_,_,e,_⟩:=x;exact⟨_,e⟩
 |own y=>exact x
 |xd fs=>obtain⟨_,⟨u,_,_,e,_⟩,_⟩:=x;exact⟨u,e⟩
 |rng lo g=>obtain⟨_,_,_,e⟩:=x;exact⟨_,e⟩
 |frz i u=>obtain⟨e,_⟩:=x;exact⟨_,e⟩
 |tbl ps=>exact⟨_,(show h.get? a=some _ from x)⟩
 |met f y=>exact⟨_,(show h.get? a=some _ from x)⟩
 |ext φ=>exact x.2.1
def Inv.freshN{X:Cx}{pins:B'}{σ:L2.St}{s:Shared}(I:Inv X pins σ H s)(d:∀b u,s.heap.get? b=some u->b≠a):H a=none:=by
 cases e:H a with
 |none=>rfl
 |some o =>
   obtain⟨u,c⟩:=(I.hok a o e).ex;exact absurd rfl (d a u c)
def Inv.laidN{X:Cx}{pins:B'}{σ:L2.St}{s:Shared}{h':Heap}{o:HO}{t':Nat}(I:Inv X pins σ H s)(k:∀b u,s.heap.get? b=some u->h'.get? b=some u)(h:∀b u,s.heap.get? b=some u->b≠a)(i:AB X.prog X.w (upd H a o) h' a o) :
 Inv X pins σ (upd H a o) {s with heap:=h',toks:=t'}:=by
 have d:=I.freshN h;refine I.un ⟨λb u q ζ ζ ζ=>k b u q,λb u q ζ ζ ζ=>⟨u.slots,k b u q⟩,λb u q n ζ=>by rw[AE (h b u q)];exact n,λb u q ζ=>⟨u,k b u q⟩,λb f q=>by rw[AE (AK q d)];exact q,λb u f q=>by rw[AE (AK q d)];exact q,λb ps q=>⟨#[],by rw[AE (AK q d),q];simp⟩⟩ λb u e=>?_;by_cases g:b=a;subst g;rw[Aa] at e;cases e;exact i;rw[AE g] at e;exact(I.hok b u e).stay (λc v ζ q=>k c v q) (λc q=>by rw[AE (AK q d)];exact q) λc f q=>by rw[AE (AK q d)];exact q
section
variable {prog:Program} {w:World} {A:Around} {E:D'} {s:Shared}
end
section
variable {X:Cx}
end
end L2
namespace HT
open PySem PyProof.Rows
section
open PySem.SeqAt
open PySem.AutoSeq1 (wpAny_loadPart')
open PySem.MeetsSeq PySem.MeetsSeq2 PySem.MeetsSeq3
end
section
variable {prog:Program} {w:World} {A:Around} {E:D'} {s:Shared}
end
end HT
namespace L2
open PySem PySem.Spec PyProof.Rows
section
variable {X:Cx}
def Y3{ss:List Str}:∀{us:List Value},As (ss.map V.str) us->StrsAre us ss:=by
 induction ss with
 |nil=>intro us h;cases h;exact .nil
 |cons x r c =>
   intro us h
   cases h with
   |cons a b =>
     obtain⟨t,rfl⟩:=a;exact .cons _ _ (c b)
end
end L2
namespace L2
end L2
namespace KasM
open PySem PySem.W PyProof.Rows
set_option autoImplicit false
def Tw {α:Type} (lt:Nat->Nat->Bool) (n:Nat):KasT α->(α->Prop)->Prop
 |.ret a,Q=>Q a
 |.ask i j k,Q=>i<n/\j<n/\Tw lt n (k (lt i j)) Q
theorem Nh{α β:Type}{lt:Nat->Nat->Bool}{n:Nat}{f:α->KasT β}{Q:β->Prop}:∀(t:KasT α),Tw lt n t (λa=>Tw lt n (f a) Q)->Tw lt n (t.bind f) Q
 |.ret _,h=>h
 |.ask _ _ k,⟨b,c,d⟩=>⟨b,c,Nh (k _) d⟩
theorem Tw_mono{α:Type}{lt:Nat->Nat->Bool}{n:Nat}{Q b:α->Prop}(c:∀a,Q a->b a):∀(t:KasT α),Tw lt n t Q->Tw lt n t b
 |.ret a,h=>c a h
 |.ask _ _ k,⟨d,e,f⟩=>⟨d,e,Tw_mono c (k _) f⟩
theorem Tw_wp{α:Type}{lt:Nat->Nat->Bool}{n:Nat}{c:Nat->Nat->(Bool->Shared->Prop)->Shared->Prop}{s:Shared}{Q:α->Shared->Prop}(b:∀i j C,i<n->j<n->C (lt i j) s->c i j C s) :
 ∀(t:KasT α),Tw lt n t (λa=>Q a s)->t.kasWp c Q s
 |.ret _,h=>h
 |.ask _ _ k,⟨d,e,f⟩=>b _ _ _ d e (Tw_wp b (k _) f)
section
variable {O:KeyOrd} {key:Nat->O.α} {n:Nat}
def K (key:Nat->O.α) (p:Array Nat) (i:Nat):O.α:=key (p.getD i 0)
def Asc (key:Nat->O.α) (p:Array Nat) (k:Nat):Prop:=∀i,i+1<k->O.kle (K key p i) (K key p (i+1))
def Oq (key:Nat->O.α) (p:Array Nat) (k:Nat):Prop:=∀i,i+1<k->O.kle (K key p (i+1)) (K key p i)
def Pm (n:Nat) (p:Array Nat):Prop:=p.Perm (List.range n).toArray
def Pm.size{p:Array Nat}(h:Pm n p):p.size=n:=by have:=h.size_eq;simpa using this
variable {p:Array Nat}
def Pm.lt(h:Pm n p)(b:0<n)(i:Nat):p.getD i 0<n:=by
 by_cases a:i<p.size;have e:p.getD i 0=p[i]:=(by simp[Array.getD,a]);rw[e];have:p[i]∈p:=Array.getElem_mem a;have c:=h.mem_iff.mp this;simpa using c;have e:p.getD i 0=0:=(by simp[Array.getD,a]);rw[e];exact b
variable {i j:Nat}
def Y4(a:j<=p.size)(k:Nat):(kas_rev p i j).getD k 0=if i<=k/\k<j then p.getD (i+j-1-k) 0 else p.getD k 0:=by
 unfold kas_rev;simp only[Array.getD_eq_getD_getElem?];rw[getElem?_mirror_all a];split<;>rfl
def Y5{k l:Nat}(a:k<p.size)(b:l<=k)(t:Nat):(bubble p k (k-l)).getD t 0=if t=l then p.getD k 0 else if l<t/\t<=k then p.getD (t-1) 0 else p.getD t 0:=by
 simp only[Array.getD_eq_getD_getElem?];rw[getElem?_bubble a _ (by lia)];rw[show k-(k-l)=l by lia];split;rfl;split<;>rfl
def Pm.rev(h:Pm n p)(i j:Nat):Pm n (kas_rev p i j):=(mirror_perm _ _ _ _).trans h
def Pm.bub(h:Pm n p)(i j:Nat):Pm n (bubble p i j):=(bubble_perm _ _ _).trans h
def VH(a:j<=p.size)(k:Nat):K key (kas_rev p i j) k=if i<=k/\k<j then K key p (i+j-1-k) else K key p k:=by
 unfold K;rw[Y4 a];split<;>rfl
def SG(b:j<=p.size)(a:∀k,i<=k->k<j->K key p k=K key p (j-1))(k:Nat):K key (kas_rev p i j) k=K key p k:=by
 rw[VH b];split;rw[a _ (by lia) (by lia),a k (by lia) (by lia)];rfl
def Y6{k l:Nat}(a:k<p.size)(b:l<=k)(t:Nat):K key (bubble p k (k-l)) t=if t=l then K key p k else if l<t/\t<=k then K key p (t-1) else K key p t:=by
 unfold K;rw[Y5 a b];split;rfl;split<;>rfl
theorem Asc.le{p:Array Nat}{k:Nat}(h:Asc key p k){i:Nat}:∀(d:Nat),i+d<k->O.kle (K key p i) (K key p (i+d))
 |0,_=>KeyOrd.kle_refl _
 |d+1,hd=>KeyOrd.kle_trans (h.le d (by lia)) (h (i+d) (by lia))
def Asc.le'{k:Nat}(h:Asc key p k)(b:i<=j)(a:j<k):O.kle (K key p i) (K key p j):=by
 have:=h.le (i:=i) (j-i) (by lia)
 rwa [show i+(j-i)=j by lia] at this
abbrev lt (O:KeyOrd) (key:Nat->O.α) (i j:Nat):Bool:=O.blt (key i) (key j)
theorem SH{p:Array Nat}(b:Pm n p)(c:0<n):∀(f a:Nat),1<=a->Tw (lt O key) n (kas_asc p f a) λm=>a<=m/\m<=a+f/\(∀i,a-1<=i->i+1<m->O.kle (K key p i) (K key p (i+1)))/\(m<a+f->O.klt (K key p m) (K key p (m-1)))
 |0,a,_=>⟨AD _,AD _,λi d g=>by lia,λh=>by lia⟩
 | f + 1,a,q=>by
   refine⟨b.lt c _,b.lt c _,?_⟩
   cases j:lt O key (p.getD a 0) (p.getD (a-1) 0) with
   |true =>
     simp only[if_true];exact⟨AD _,by lia,λi d g=>by lia,λζ=>j⟩
   |false =>
     simp only[Fk,if_false];refine Tw_mono ?_ _ (SH b c f (a+1) (by lia));rintro m ⟨d,g,k,l⟩;refine⟨by lia,by lia,λi r o=>?_,λh=>l (by lia)⟩;by_cases e:i=a-1;subst e;rw[show a-1+1=a by lia];exact j;exact k i (by lia) o
theorem PR(c:0<n):∀(f:Nat)(p:Array Nat)(a q:Nat),Pm n p->a+f<=n->Oq key p a->q+1<=a->(∀k,a-(q+1)<=k->k<a->K key p k=K key p (a-1)) ->
 Tw (lt O key) n (kas_desc f p a q) λr=>Pm n r.1/\a<=r.2.1/\r.2.1<=a+f/\Oq key r.1 r.2.1/\r.2.2+1<=r.2.1/\(∀k,r.2.1-(r.2.2+1)<=k->k<r.2.1->K key r.1 k=K key r.1 (r.2.1-1))
 |0,p,a,q,b,_,hd,o,d=>⟨b,AD _,AD _,hd,o,d⟩
 | f + 1,p,a,q,b,F,hd,o,d=>by
   have hz:=b.size;refine⟨b.lt c _,b.lt c _,?_⟩
   cases u:lt O key (p.getD a 0) (p.getD (a-1) 0) with
   |true =>
     have t:O.klt (K key p a) (K key p (a-1)):=u
     have A:Oq key p (a+1):=λi s=>by
      by_cases e:i+1=a;rw[e];have:i=a-1:=by lia
      rw[this];exact KeyOrd.kle_of_klt t;exact hd i (by lia)
     simp only[if_true];by_cases B:q > 0;rw[Al B];have v:=SG (key:=key) (p:=p) (i:=a-(q+1)) (j:=a) (by lia) d;refine Tw_mono ?_ _ (PR c f _ (a+1) 0 (b.rev _ _) (by lia) (λi s=>by rw[v,v];exact A i s) (by lia) (λk w x=>by rw[show k=a+1-1 by lia]));rintro r ⟨g,y,z,h,l,m⟩;exact⟨g,by lia,by lia,h,l,m⟩;rw[Ak B];refine Tw_mono ?_ _ (PR c f _ (a+1) 0 b (by lia) A (by lia) (λk w x=>by rw[show k=a+1-1 by lia]));rintro r ⟨g,y,z,h,l,m⟩;exact⟨g,by lia,by lia,h,l,m⟩
   |false =>
     have t:O.kle (K key p (a-1)) (K key p a):=u;simp only[Fk,if_false];refine⟨b.lt c _,b.lt c _,?_⟩
     cases E:lt O key (p.getD (a-1) 0) (p.getD a 0) with
     |true =>
       simp only[if_true];exact⟨b,AD _,Nat.le_add_right _ _,hd,o,d⟩
     |false =>
       have C:O.kle (K key p a) (K key p (a-1)):=E;have D:K key p a=K key p (a-1):=KeyOrd.kle_antisymm C t;simp only[Fk,if_false];refine Tw_mono ?_ _ (PR c f _ (a+1) (q+1) b (by lia) (λi s=>?_) (by lia) (λk w x=>?_));rintro r ⟨g,y,z,h,l,m⟩;exact⟨g,by lia,by lia,h,l,m⟩;by_cases e:i+1=a;rw[e];have:i=a-1:=by lia
       rw[this];exact C;exact hd i (by lia);rw[show a+1-1=a by lia];by_cases e:k=a;rw[e];rw[d k (by lia) (by lia),D]
abbrev SI (key:Nat->O.α) (n:Nat) (r:Nat×Array Nat):Prop:=Pm n r.2/\1<=r.1/\r.1<=n/\Asc key r.2 r.1
def VI(d:0<n){a:Nat}(b:Pm n p)(f:1<=a)(l:a<=n)(hd:Oq key p a):Tw (lt O key) n (kas_tail3 a n p) (SI key n):=by
 unfold kas_tail3;have o:=b.size;have c:=VH (key:=key) (p:=p) (i:=0) (j:=a) (by lia);refine Nh _ (Tw_mono ?_ _ (SH (O:=O) (key:=key) (b.rev 0 a) d (n-a) a f));rintro m ⟨q,r,g,_⟩;refine⟨b.rev _ _,by show 1<=m;lia,by show m<=n;lia,λi h=>?_⟩;have k:i+1<m:=h;by_cases e:a-1<=i;exact g i e k;show O.kle (K key (kas_rev p 0 a) i) (K key (kas_rev p 0 a) (i+1));rw[c,c,Al (by lia),Al (by lia)];have:=hd (0+a-1-(i+1)) (by lia)
 rwa [show 0+a-1-(i+1)+1=0+a-1-i by lia] at this
def VJ(c:0<n){a:Nat}(g:Pm n p)(h:1<=a)(u:a+1<=n)(hd:Oq key p (a+1)):Tw (lt O key) n (kas_descPart a n p) (SI key n):=by
 unfold kas_descPart;refine Nh _ (Tw_mono ?_ _ (PR (O:=O) (key:=key) c (n-(a+1)) p (a+1) 0 g (by lia) hd (by lia) (λk h v=>by rw[show k=a+1-1 by lia])));rintro⟨l,m,q⟩ ⟨b,o,r,d,s,e⟩;dsimp only at b o r d s e ⊢;have w:=b.size;split;have f:=SG (key:=key) (p:=l) (i:=m-(q+1)) (j:=m) (by lia) e;exact VI c (b.rev _ _) (by lia) (by lia) λi t=>by rw[f,f];exact d i t
 exact VI c b (by lia) (by lia) d
def Y7(b:0<n)(a:Pm n p):Tw (lt O key) n (kas_count n p) (SI key n):=by
 unfold kas_count;have x:=a.size;refine Nh _ (Tw_mono ?_ _ (SH (O:=O) (key:=key) a b (n-1) 1 (AD _)));rintro m ⟨c,y,s,t⟩;have d:Asc key p m:=λi f=>s i (by lia) f;by_cases g:(m==n)=true;rw[Al g];exact⟨a,c,by show m<=n;lia,d⟩;rw[Ak g]
 have z:m<n:=by
  have:m≠n:=λq=>g (by rw[q];exact beq_self_eq_true _);lia
 have l:=t (by lia);by_cases o:m > 1;rw[Al o];refine⟨a.lt b _,a.lt b _,?_⟩
 cases u:lt O key (p.getD 0 0) (p.getD (m-1) 0) with
 |true =>
   simp only[if_true];exact⟨a,c,by show m<=n;lia,d⟩
 |false =>
   have w:O.kle (K key p (m-1)) (K key p 0):=u;simp only[Fk,if_false]
   have h:∀k,0<=k->k<m->K key p k=K key p (m-1):=λk ζ v =>
    KeyOrd.kle_antisymm (d.le' (by lia) (by lia)) (KeyOrd.kle_trans w (d.le' (by lia) v))
   have r:=SG (key:=key) (p:=p) (i:=0) (j:=m) (by lia) h;refine VJ b (a.rev _ _) c (by lia) λi f=>?_;rw[r,r];by_cases e:i+1=m;rw[e,show i=m-1 by lia];exact KeyOrd.kle_of_klt l;rw[h i (by lia) (by lia),h (i+1) (by lia) (by lia)];exact KeyOrd.kle_refl _
 rw[Ak o];refine VJ b a c (by lia) λi f=>?_;have:m=1:=(by lia);subst this;obtain rfl:i=0:=by lia
 exact KeyOrd.kle_of_klt l
theorem SJ(c:0<n){p:Array Nat}{k:Nat}(d:Pm n p)(g:Asc key p k):∀(f l r:Nat),r-l<=f->l<=r->r<=k->(∀i,i<l->O.kle (K key p i) (K key p k))->(∀i,r<=i->i<k->O.klt (K key p k) (K key p i)) ->
 Tw (lt O key) n (kas_place p k f l r) λm=>m<=k/\(∀i,i<m->O.kle (K key p i) (K key p k))/\(∀i,m<=i->i<k->O.klt (K key p k) (K key p i))
 |0,l,r,t,u,q,h,j=>⟨by lia,h,λi a b=>j i (by lia) b⟩
 | f + 1,l,r,t,u,q,h,j=>by
   unfold kas_place;by_cases e:l ≥ r;rw[Al e];exact⟨by lia,h,λi a b=>j i (by lia) b⟩;rw[Ak e];refine⟨d.lt c _,d.lt c _,?_⟩
   cases s:lt O key (p.getD k 0) (p.getD ((l+r)/2) 0) with
   |true =>
     have o:O.klt (K key p k) (K key p ((l+r)/2)):=s;simp only[if_true];exact SJ c d g f l ((l+r)/2) (by lia) (by lia) (by lia) h λi a b=>KeyOrd.klt_of_klt_of_kle o (g.le' a b)
   |false =>
     have o:O.kle (K key p ((l+r)/2)) (K key p k):=s;simp only[Fk,if_false];exact SJ c d g f ((l+r)/2+1) r (by lia) (by lia) q (λi a=>KeyOrd.kle_trans (g.le' (by lia) (by lia)) o) j
theorem HI (h0:0<n):∀ (f:Nat) (p:Array Nat) (k:Nat),Pm n p->k+f=n->Asc key p k->Tw (lt O key) n (kas_bin f p k) fun p'=>Pm n p'/\Asc key p' n
 | 0, p, k, hp, hk, ha => ⟨hp, by have : k = n := by lia
                                  rw[<-this];exact ha⟩
 |f+1,p,k,hp,hk,ha=>by
   have hz:=hp.size;unfold kas_bin;refine Nh _ (Tw_mono ?_ _ (SJ (O:=O) (key:=key) h0 hp ha k 0 k (by lia) (by lia) (AD _) (λi h=>by lia) λi a b=>by lia));rintro l ⟨b1,b2,b3⟩;have kk:=Y6 (key:=key) (p:=p) (k:=k) (l:=l) (by lia) b1;refine HI h0 f _ (k+1) (hp.bub _ _) (by lia) λi hi=>?_;rw[kk,kk];by_cases e1:i=l;rw[Al e1,Ak (by lia)];by_cases e2:i+1<=k;rw[Al (by lia)];exact KeyOrd.kle_of_klt (b3 (i+1-1) (by lia) (by lia));lia;rw[Ak e1];by_cases e2:i+1=l;rw[Al e2,Ak (by lia)];exact b2 i (by lia);rw[Ak e2];by_cases e3:l<i;rw[Al (by lia),Al (by lia)];have:=ha (i-1) (by lia)
   rwa [show i-1+1=i+1-1 by lia] at this
   rw[Ak (by lia),Ak (by lia)];exact ha i (by lia)
def sort_ok(h0:0<n):Tw (lt O key) n (kas_sort n) λp=>Pm n p/\Asc key p n:=by
 unfold kas_sort;refine Nh _ (Tw_mono ?_ _ (Y7 (O:=O) (key:=key) h0 (Array.Perm.refl _)));rintro⟨m,p⟩ ⟨b1,b2,b3,b4⟩;dsimp only at b1 b2 b3 b4 ⊢;split;rw[show max m 1=m by lia];exact HI h0 _ _ _ b1 (by lia) b4
 exact ⟨b1, by have : m = n := by lia
               rw[<-this];exact b4⟩
end
end KasM
namespace L2
open PySem PySem.Spec PyProof.Rows
section
variable {prog:Program} {w:World} {A:Around} {E:D'} {s:Shared}
def Y8{O:KeyOrd}{key:Nat->O.α}{κ:SortKind}{a:Addr}{vs:List Value}{n:Nat}{P:PySem.Fin->Shared->Prop}(f:s.heap.get? a=some (seqObj "list" vs.toArray n))(L:vs.length<64)
 (T:2<=vs.length->∀(h':Heap),(∀b o,b≠a->s.heap.get? b=some o->h'.get? b=some o)->∀(Q:SortKind->Shared->Prop),Q κ {s with heap:=h'}->wpAny (model prog w) A (keyKind' vs.toArray) Q (λζ ζ=>False) {s with heap:=h'})
 (N:∀(h':Heap),(∀b o,b≠a->s.heap.get? b=some o->h'.get? b=some o)->∀(i j:Nat)(C:Bool->Shared->Prop),i<vs.length->j<vs.length->C (O.blt (key i) (key j)) {s with heap:=h'}->PySem.W.kas_ask prog w A κ vs i j C {s with heap:=h'})
 (h:∀d:List Nat,d.Perm (List.range vs.length)->(∀i,i+1<d.length->O.kle (key (d.getD i 0)) (key (d.getD (i+1) 0)))->P (.done (.ret .none)) {s with heap:=sortedHeap s.heap a vs (d.map λi=>vs.getD i Value.none).toArray}) :
 wpAny (model prog w) A (Builtin.«list.sort» ⟨[.ref a],[]⟩) P E s:=by
 rw[list_sort_plain];have v:a<s.heap.objs.size:=A5 f;have V:vs.toArray.size=vs.length:=(by simp);refine Ad (listItems_at f rfl ?_);refine Ad (listUpdate_at f rfl ?_ (by rw[Ck,sizeLine_eq];lia) (Cm _));obtain⟨r,z⟩:∃r,(s.heap.update a (Obj.mapSeq λζ=>#[])).get? a=some (seqObj "list" #[] r):=⟨_,get?_update_seq f (λζ=>#[])⟩;refine Ad (seqEpoch_at z rfl ?_);refine Ad (wpAny_newTuple ?_ (by show vs.length<=_;rw[sizeLine_eq];lia));refine Ad (wpAny_newList ?_ (Cm _));refine Fl ?_
 have l:(((s.heap.update a (Obj.mapSeq λζ=>#[])).push (seqObj "tuple" vs.toArray 0)).push (seqObj "list" #[] 0)).get? a=some (seqObj "list" #[] r):=by
  rw[Heap.get?_push_ne _ _ _ (by rw[size_push',Heap.size_update];exact CU (Nat.lt_succ_of_lt v)),Heap.get?_push_ne _ _ _ (by rw[Heap.size_update];exact CU v)];exact z
 have keep:∀b o,b≠a->s.heap.get? b=some o->(((s.heap.update a (Obj.mapSeq λζ=>#[])).push (seqObj "tuple" vs.toArray 0)).push (seqObj "list" #[] 0)).get? b=some o:=λb o D q=>by
  refine Be _ (Be _ ?_);rw[Heap.get?_update_ne _ _ _ _ D];exact q
 show wpAny (model prog w) A _ P E {s with heap:=((s.heap.update a (Obj.mapSeq λζ=>#[])).push (seqObj "tuple" vs.toArray 0)).push (seqObj "list" #[] 0)};dsimp only;by_cases g:vs.toArray.size<2;rw[Al g,Al g];refine Ad (Aw ?_);rw[StateT.run_pure];refine Ad (Aw ?_);dsimp only;refine Ad (seqEpoch_at l rfl ?_);refine Ad (listUpdate_at l rfl ?_ (Cm _) (by rw[Array.size_map];show(pairsOf vs).size<=_;rw[pairsOf_size,sizeLine_eq];lia));simp only[bne_self_eq_false,Fk,if_false];have:=h (List.range vs.length) (List.Perm.refl _) (λi t=>by rw[List.length_range] at t;lia)
 have e:((List.range vs.length).map λi=>vs.getD i Value.none).toArray=(arrOf (SortSt.mk' general' (vs.toArray.zip vs.toArray) #[] 7 none)).map (·.2):=by
  apply Array.toList_inj.mp;show(List.range vs.length).map (λi=>vs.getD i Value.none)=((vs.toArray.zip vs.toArray).map (·.2)).toList;apply List.ext_getElem?;intro k;by_cases y:k<vs.length;simp[y,B0];simp[y]
 rw[e] at this;exact Aw this;rw[Ak g,Ak g];have B:2<=vs.length:=(by lia);refine Ad (FP (T B _ keep (λκ' Z=>κ'=κ/\Z=_) ⟨rfl,rfl⟩) ?_ λζ ζ x=>x.elim);rintro κ' Z ⟨rfl,rfl⟩
 refine Ad (FP (PySem.W.kat_run (Q:=λm Z=>∃p:Array Nat,arrOf m=p.map (PySem.W.kas_item (vs.toArray.zip vs.toArray))/\failedOf m=none/\KasM.Pm vs.length p/\KasM.Asc key p vs.length/\Z={s with heap:=((s.heap.update a (Obj.mapSeq λζ=>#[])).push (seqObj "tuple" vs.toArray 0)).push (seqObj "list" #[] 0)})
  (G:=λp Z=>KasM.Pm vs.length p/\KasM.Asc key p vs.length/\Z={s with heap:=((s.heap.update a (Obj.mapSeq λζ=>#[])).push (seqObj "tuple" vs.toArray 0)).push (seqObj "list" #[] 0)})
  rfl B L (λF m Z U H I u=>⟨F,H,I,u.1,u.2.1,u.2.2⟩)
  (KasM.Tw_wp (lt:=KasM.lt O key) (n:=vs.length) (N _ keep) _ (KasM.Tw_mono (λp c=>⟨c.1,c.2,rfl⟩) _ (KasM.sort_ok (O:=O) (key:=key) (by lia))))) ?_ λζ ζ e=>e)
 rintro⟨⟨⟩,m⟩ Z ⟨p,M,J,c,R,rfl⟩;dsimp only;have S:=PySem.W.kat_snds (ks:=vs) (vs:=vs) rfl M;rw[S];refine Ad (seqEpoch_at l rfl ?_);refine Ad (listUpdate_at l rfl ?_ (Cm _) (by rw[Ck,An,Array.length_toList,c.size,sizeLine_eq];lia));rw[J];simp only[bne_self_eq_false,Fk,if_false];refine Aw (h p.toList (by have:=Array.perm_iff_toList_perm.mp c;simpa using this) λi t=>?_);have K:=c.size;have:=R i (by simpa [K] using t);simpa [KasM.K,Array.getD_eq_getD_getElem?,B0] using this
def SK{O:KeyOrd}{key:Nat->O.α}{κ:SortKind}{l:Addr}{vs:List Value}{Q:D'}(g:s.heap.IsList l vs.toArray)(v:vs.length<64)
 (y:2<=vs.length->∀(h':Heap),(∀b o,s.heap.get? b=some o->h'.get? b=some o)->∀(Q:SortKind->Shared->Prop),Q κ {s with heap:=h'}->wpAny (model prog w) A.in1.in1 (keyKind' vs.toArray) Q (λζ ζ=>False) {s with heap:=h'})
 (x:∀(h':Heap),(∀b o,s.heap.get? b=some o->h'.get? b=some o)->∀(i j:Nat)(C:Bool->Shared->Prop),i<vs.length->j<vs.length->C (O.blt (key i) (key j)) {s with heap:=h'}->PySem.W.kas_ask prog w A.in1.in1 κ vs i j C {s with heap:=h'})
 (h:∀(D:Addr)(h':Heap)(n:Nat)(a:List Nat),(∀b o,s.heap.get? b=some o->h'.get? b=some o)->(∀b o,s.heap.get? b=some o->b≠D)->a.Perm (List.range vs.length)->(∀i,i+1<a.length->O.kle (key (a.getD i 0)) (key (a.getD (i+1) 0))) ->
  h'.get? D=some (seqObj "list" (a.map λi=>vs.getD i Value.none).toArray n)->Q (.ref D) {s with heap:=h'}) :
 wpAny (model prog w) A (call (.builtin "sorted") [.ref l]) Q E s:=by
 refine Calls.call_function_entry kind_sorted plain_sorted entry_sorted (args_sorted1 _) ?_;unfold Builtin.«sorted»;refine Ad (m:=checkCount "sorted" 1 1 _) (Aw ?_);refine Ad (collect_list g ?_ (by rw[sizeLine_eq];lia));refine Ad (wpAny_newList ?_ (by rw[sizeLine_eq];lia))
 have d:((s.heap.push (seqObj "list" #[] 0)).update s.heap.objs.size (Obj.mapSeq (·++vs.toArray))).objs.size=s.heap.objs.size+1:=by
  rw[Heap.size_update,size_push']
 have e:(((s.heap.push (seqObj "list" #[] 0)).update s.heap.objs.size (Obj.mapSeq (·++vs.toArray))).push (seqObj "list" vs.toArray 0)).get? (s.heap.objs.size+1)=some (seqObj "list" vs.toArray 0):=by
  rw[<-d];exact B9 _ rfl
 have keep:∀b o,s.heap.get? b=some o->(((s.heap.push (seqObj "list" #[] 0)).update s.heap.objs.size (Obj.mapSeq (·++vs.toArray))).push (seqObj "list" vs.toArray 0)).get? b=some o:=λb o q=>by
  have f:b<s.heap.objs.size:=A5 q;rw[Heap.get?_push_ne _ _ _ (by rw[d];exact CU (Nat.lt_succ_of_lt f)),Heap.get?_update_ne _ _ _ _ (CU f),Heap.get?_push_ne _ _ _ (CU f)];exact q
 have c:∀b o,s.heap.get? b=some o->b≠s.heap.objs.size+1:=λb o q=>CU (Nat.lt_succ_of_lt (A5 q));show wpAny _ _ _ _ _ {s with heap:=((s.heap.push (seqObj "list" #[] 0)).update s.heap.objs.size (Obj.mapSeq (·++vs.toArray))).push (seqObj "list" vs.toArray 0)};rw[d];refine Ad (Fl (wpAny_call_entry slot_list_sort ⟨_,e,rfl⟩ entry_list_sort ?body (args_list_sort _)))
 case body =>
  refine Y8 (s:={s with heap:=((s.heap.push (seqObj "list" #[] 0)).update s.heap.objs.size (Obj.mapSeq (·++vs.toArray))).push (seqObj "list" vs.toArray 0)}) (key:=key) (κ:=κ) e v
   (λp h' k=>y p h' λb o q=>k b o (c b o q) (keep b o q)) (λh' k=>x h' λb o q=>k b o (c b o q) (keep b o q)) λa r t=>?_
  obtain⟨n,u⟩:=sortedHeap_at (vs:=vs) (out:=(a.map λi=>vs.getD i Value.none).toArray) e;refine⟨_,rfl,Aw ⟨_,rfl,h (s.heap.objs.size+1) _ n a (λb o q=>?_) c r t u⟩⟩;show(sortedHeap (((s.heap.push (seqObj "list" #[] 0)).update s.heap.objs.size (Obj.mapSeq (·++vs.toArray))).push (seqObj "list" vs.toArray 0)) (s.heap.objs.size+1) vs _).get? b=some o;rw[sortedHeap_old (c b o q) (A5 (keep b o q))];exact keep b o q
end
@[reducible] def BN (O P:KeyOrd):KeyOrd where
 α:=O.α×P.α
 blt x y:=O.blt x.1 y.1 || (!O.blt y.1 x.1 && P.blt x.2 y.2)
 irrefl x:=by simp[O.irrefl,P.irrefl]
 trans x y z h1 h2:=by
  simp only[Bool.or_eq_true,Bool.and_eq_true,Bool.not_eq_true'] at h1 h2 ⊢;rcases h1 with h1|⟨h1,k1⟩<;>rcases h2 with h2|⟨h2,k2⟩;exact .inl (O.trans _ _ _ h1 h2);exact .inl (KeyOrd.klt_of_klt_of_kle h1 h2);exact .inl (KeyOrd.klt_of_kle_of_klt h1 h2);exact .inr ⟨KeyOrd.kle_trans (O:=O) h1 h2,P.trans _ _ _ k1 k2⟩
 negTrans x y z h:=by
  simp only[Bool.or_eq_true,Bool.and_eq_true,Bool.not_eq_true'] at h ⊢;rcases h with h|⟨h,k⟩;rcases O.negTrans _ y.1 _ h with h|h;exact .inl (.inl h);exact .inr (.inl h)
  cases e1:O.blt x.1 y.1 with
  |true=>exact .inl (.inl rfl)
  |false =>
    cases e2:O.blt y.1 z.1 with
    |true=>exact .inr (.inl rfl)
    |false =>
      have a1:O.kle y.1 x.1:=e1;have a2:O.kle z.1 y.1:=e2;have a3:O.kle x.1 z.1:=h;have b1:O.blt y.1 x.1=false:=KeyOrd.kle_trans (O:=O) a3 a2;have b2:O.blt z.1 y.1=false:=KeyOrd.kle_trans (O:=O) a1 a3;rcases P.negTrans _ y.2 _ k with k|k;exact .inl (.inr ⟨b1,k⟩);exact .inr (.inr ⟨b2,k⟩)
 total x y h1 h2:=by
  simp only[Bool.or_eq_false_iff,Bool.and_eq_false_iff,Bool.not_eq_false'] at h1 h2;have e1:x.1=y.1:=O.total _ _ h1.1 h2.1;have e2:x.2=y.2:=P.total _ _ (by rcases h1.2 with z|z;exact absurd (h2.1.symm.trans z) (by simp);exact z) (by rcases h2.2 with z|z;exact absurd (h1.1.symm.trans z) (by simp);exact z);exact Prod.ext e1 e2
@[reducible] def Dd:KeyOrd where
 α:=Str
 blt a b:=decide (a.cps.toList<b.cps.toList)
 irrefl a:=by simpa using List.lt_irrefl a.cps.toList
 trans a b c h1 h2:=by simp only[decide_eq_true_eq] at *;exact List.lt_trans h1 h2
 negTrans a b c h:=by
  simp only[decide_eq_true_eq] at *
  by_cases hab:a.cps.toList<b.cps.toList;exact .inl hab;exact .inr (List.lt_of_le_of_lt (List.not_lt.mp hab) h)
 total a b h1 h2:=by simp only[decide_eq_false_iff_not] at *;exact ext_toList (List.le_antisymm (List.not_lt.mp h2) (List.not_lt.mp h1))
@[reducible] def Jq:KeyOrd where
 α:=Int
 blt a b:=decide (a<b)
 irrefl a:=by simp
 trans a b c h1 h2:=by simp only[decide_eq_true_eq] at *;lia
 negTrans a b c h:=by simp only[decide_eq_true_eq] at *;lia
 total a b h1 h2:=by simp only[decide_eq_false_iff_not] at *;lia
structure IL where
 O:KeyOrd
 val:O.α->V
 dflt:O.α
 T:Value
 tT:(T==T)=true
 tN:(T != Value.type "tuple")=true
 look:∀(M:Model)(h:Heap)(a:O.α)(u:Value),RelV (val a) u->PySem.W.Looks M h (typeOf u) T
 eqB:∀(prog:Program)(w:World)(A:Around)(E:D')(s:Shared)(a b:O.α)(u v:Value)(Q:Bool->Shared->Prop),RelV (val a) u->RelV (val b) v->(∀e:Bool,(e=true↔a=b)->Q e s)->wpAny (model prog w) A (eqBool u v) Q E s
 ltB:∀(prog:Program)(w:World)(A:Around)(E:D')(s:Shared)(a b:O.α)(u v:Value)(Q:Bool->Shared->Prop),RelV (val a) u->RelV (val b) v->Q (O.blt a b) s->wpAny (model prog w) A (oneLt' true u v) Q E s
 ltC:∀(prog:Program)(w:World)(A:Around)(E:D')(s:Shared)(a b:O.α)(u v:Value)(Q:Bool->Shared->Prop),RelV (val a) u->RelV (val b) v->Q (O.blt a b) s->wpAny (model prog w) A (oneLt' false u v) Q E s
@[reducible] def EO:IL where
 O:=Dd
 val:=V.str
 dflt:=default
 T:=.type "str"
 tT:=by decide
 tN:=by decide
 look M h a u r:=by obtain⟨t,rfl⟩:=r;exact PySem.W.Looks.of_pure rfl
 eqB prog w A E s a b u v Q r r' h:=by
  obtain⟨t,rfl⟩:=r;obtain⟨t',rfl⟩:=r';exact eqBool_str (h _ (by simp))
 ltB prog w A E s a b u v Q r r' h:=by
  obtain⟨t,rfl⟩:=r;obtain⟨t',rfl⟩:=r';exact oneLt_str h
 ltC prog w A E s a b u v Q r r' h:=by
  obtain⟨t,rfl⟩:=r;obtain⟨t',rfl⟩:=r';exact PySem.W.kat_one _ _ (PySem.P.lt_str h)
@[reducible] def Jr:IL where
 O:=Jq
 val:=V.int
 dflt:=0
 T:=.type "int"
 tT:=by decide
 tN:=by decide
 look M h a u r:=by obtain⟨t,rfl⟩:=r;exact PySem.W.Looks.of_pure rfl
 eqB prog w A E s a b u v Q r r' h:=by
  obtain⟨t,rfl⟩:=r;obtain⟨t',rfl⟩:=r';exact wpAny_eqBool_int (h _ (by simp))
 ltB prog w A E s a b u v Q r r' h:=by
  obtain⟨t,rfl⟩:=r;obtain⟨t',rfl⟩:=r';exact oneLt_int h
 ltC prog w A E s a b u v Q r r' h:=by
  obtain⟨t,rfl⟩:=r;obtain⟨t',rfl⟩:=r';exact PySem.W.kat_one _ _ (PySem.P.lt_int h)
variable {c d:IL}
def Js(x y:(BN c.O d.O).α)(e:x.1=y.1):(BN c.O d.O).blt x y=d.O.blt x.2 y.2:=by
 show(c.O.blt x.1 y.1 || (!c.O.blt y.1 x.1 && d.O.blt x.2 y.2))=_;rw[e,c.O.irrefl];rfl
def Jt(x y:(BN c.O d.O).α)(e:x.1≠y.1):(BN c.O d.O).blt x y=c.O.blt x.1 y.1:=by
 show(c.O.blt x.1 y.1 || (!c.O.blt y.1 x.1 && d.O.blt x.2 y.2))=_
 cases a:c.O.blt x.1 y.1 with
 |true=>rfl
 |false =>
   cases b:c.O.blt y.1 x.1 with
   |true=>rfl
   |false=>exact absurd (c.O.total _ _ a b) e
section
variable {prog:Program} {w:World} {A:Around} {E:D'} {s:Shared}
def Y9(c d:IL){x y:Addr}{p q:(BN c.O d.O).α}{b f g i:Value}{Q:Bool->Shared->Prop}(r:IsTup s.heap x #[b,f])(t:IsTup s.heap y #[g,i])(j:RelV (c.val p.1) b)(k:RelV (d.val p.2) f)(l:RelV (c.val q.1) g)(o:RelV (d.val q.2) i)
 (h:Q ((BN c.O d.O).blt p q) s):wpAny (model prog w) A (keyLt' (tuples' true) (.ref x) (.ref y)) Q E s:=by
 obtain⟨F,B,_,n,u⟩:=r;obtain⟨G,C,_,m,v⟩:=t;refine PySem.W.kat_lt B u C v (PySem.W.kat_cons (c.eqB _ _ _ _ _ _ _ _ _ _ j l λe a=>?_))
 cases e with
 |false =>
   have D:p.1≠q.1:=λz=>Cz (a.mpr z);rw[Jt _ _ D] at h;exact PySem.W.kat_no (c.ltB _ _ _ _ _ _ _ _ _ _ j l h)
 |true =>
   rw[Js _ _ (a.mp rfl)] at h;refine PySem.W.kat_yes (PySem.W.kat_cons (d.eqB _ _ _ _ _ _ _ _ _ _ k o λe a=>?_))
   cases e with
   |false=>exact PySem.W.kat_no (d.ltC _ _ _ _ _ _ _ _ _ _ k o h)
   |true =>
     refine PySem.W.kat_yes (PySem.W.kat_nil ?_);rw[a.mp rfl,d.O.irrefl] at h;exact h
end
theorem PU{α:Type}{R:α->α->Prop}(tr:∀a b c,R a b->R b c->R a c):∀(l:List α),(∀i a b,l[i]?=some a->l[i+1]?=some b->R a b)->l.Pairwise R
 |[],_=>.nil
 |[x],_=>by simp
 |x::y::r,h=>by
   have f:=PU tr (y::r) λi a b j k=>h (i+1) a b (by simpa using j) (by simpa using k);have g:R x y:=h 0 x y rfl rfl;refine List.pairwise_cons.mpr ⟨λz d=>?_,f⟩;rcases Cj.mp d with e|d;rw[e];exact g;exact tr _ _ _ g ((List.pairwise_cons.mp f).1 z d)
section
variable {X:Cx}
abbrev Row (c d:IL):Type:=V×(BN c.O d.O).α
def LS (X:Cx) (c d:IL):List V->Hp->VK->Prop:=λvs H Q=>∃(l:Addr)(zs:List (Row c d)),vs=[.ref l]/\Ae X.K H l (zs.map (·.1))/\zs.length<64 /\
 (∀z∈zs,∃t,z.1=.ref t/\Ap X.K H t [c.val z.2.1,d.val z.2.2])/\∀(D:Addr)(zs':List (Row c d)),zs'.Perm zs->(zs'.map (·.2)).Pairwise (BN c.O d.O).kle->H D=none->Q (.ref D) (upd H D (.lst (zs'.map (·.1))))
def HR (c d:IL) (h:Heap) (z:Row c d) (v:Value):Prop:=∃t u1 u2,z.1=.ref t/\v=.ref t/\IsTup h t #[u1,u2]/\RelV (c.val z.2.1) u1/\RelV (d.val z.2.2) u2
def HR.keeps{c d:IL}{h h':Heap}{z:Row c d}{v:Value}(k:∀b o,h.get? b=some o->h'.get? b=some o)(x:HR c d h z v):HR c d h' z v:=by
 obtain⟨t,a,e,f,g,i,j⟩:=x;exact⟨t,a,e,f,g,i.keeps k,j⟩
def Ju{h:Heap}(zs:List (Row c d))(f:List Value)(g:Paired (HR c d h) zs f):∃fs,PySem.W.KatTups h f fs/\fs.length=zs.length/\∀v∈fs,∃a,RelV (c.val a) v:=by
 induction g with
 |nil=>exact⟨[],.nil,rfl,λζ x=>by cases x⟩
 |cons i r j =>
   obtain⟨t,k,z,A,l,⟨o,m,p,n,q⟩,s,B⟩:=i;obtain⟨fs,u,w,y⟩:=j;subst l;refine⟨k::fs,.cons m p q rfl u,by simp[w],λv b=>?_⟩;rcases Cj.mp b with e|b;exact⟨_,e▸s⟩;exact y v b
def Ot{α β:Type}{R:α->β->Prop}{xs:List α}{ys:List β}(h:Paired R xs ys):∀(i:Nat)(b:α)(c:β),i<xs.length->R (xs.getD i b) (ys.getD i c):=by
 induction h with
 |nil=>intro i b c h;simp at h
 |cons a r d =>
   intro i b c h
   cases i with
   |zero=>exact a
   |succ i=>simpa using d i b c (by simpa using h)
theorem PV{α β γ:Type}{R:α->β->Prop}{f:γ->α}{g:γ->β}:∀(l:List γ),(∀x∈l,R (f x) (g x))->Paired R (l.map f) (l.map g)
 |[],_=>.nil
 |x::l,h=>.cons (h x BB) (PV l λy a=>h y (Co _ a))
theorem KO{c d:IL}{pins:B'}{σ:L2.St}{H:Hp}{s:Shared}(I:Inv X pins σ H s):∀(zs:List (Row c d))(f:List Value),As (zs.map (·.1)) f->(∀z∈zs,∃t,z.1=.ref t/\Ap X.K H t [c.val z.2.1,d.val z.2.2])->Paired (HR c d s.heap) zs f
 |[],f,r,_=>by cases r;exact .nil
 | z :: zs,f,r,h=>by
   cases r with
   |cons a b =>
     obtain⟨t,e,j⟩:=h z BB;obtain⟨n,g,k,_⟩:=I.tuple j
     cases g with
     |cons g i =>
       cases i with
       |cons i l =>
         cases l;dsimp only at a;rw[e] at a;exact .cons ⟨t,_,_,e,a,k,g,i⟩ (KO I zs _ b λy m=>h y (Co _ m))
theorem VL(c d:IL):Ba X (.builtin "sorted") (LS X c d):=by
 intro ar s σ H vs us ak I r h;obtain⟨l,b,rfl,Q,aq,R,q⟩:=h;obtain⟨u,rfl,S⟩:=Fp r;obtain rfl:u=Value.ref l:=S;obtain⟨g,U,W,_⟩:=I.list Q;have m:=KO I b g U R;have N:b.length=g.length:=m.length
 let e:Row c d:=(V.non,(c.dflt,d.dflt))
 refine SK (O:=BN c.O d.O) (key:=λi=>(b.getD i e).2) (κ:=tuples' true) (vs:=g) (by obtain⟨o,n,w,p,F,A⟩:=W;exact⟨o,w,p,n,A⟩) (by lia) (λB C k Q' Y=>?_) (λC k i j al z hj Z=>?_) λD C n f kk G M ae hg=>?_;have af:Paired (HR c d C) b g:=Paired.mapP m λζ ζ x=>x.keeps k;obtain⟨fs,k1,k2,k3⟩:=Ju _ _ af;refine PySem.W.kat_kind (T:=c.T) k1 (by lia) (λv E=>?_) c.tT (by rw[c.tN];exact Y);obtain⟨a,ha⟩:=k3 v E;exact c.look _ _ a v ha;obtain⟨t,u1,u2,w,p,F,A,a5⟩:=(Ot m i e Value.none (by lia)).keeps k;obtain⟨t',ao,v2,b1,b2,b3,b4,b5⟩:=(Ot m j e Value.none (by lia)).keeps k;unfold PySem.W.kas_ask;rw[p,b2];exact Y9 c d F b3 A a5 b4 b5 Z
 have ag:∀i∈f,i<b.length:=λi z=>by
  have:=M.mem_iff.mp z;rw[N];simpa using this
 have aj:(List.range b.length).map (λi=>b.getD i e)=b:=by
  apply List.ext_getElem?;intro k;by_cases J:k<b.length;simp[J,B0];simp[J]
 have P:(f.map λi=>b.getD i e).Perm b:=by
  have:=M.map (λi=>b.getD i e)
  rwa [<-N,aj] at this
 have E:As ((f.map λi=>b.getD i e).map (·.1)) (f.map λi=>g.getD i Value.none):=by
  rw[DK];refine PV f λi z=>?_;obtain⟨t,u1,u2,w,p,_⟩:=Ot m i e Value.none (ag i z);show RelV (b.getD i e).1 (g.getD i Value.none);rw[w,p];exact rfl
 have ah:((f.map λi=>b.getD i e).map (·.2)).Pairwise (BN c.O d.O).kle:=by
  refine PU (λζ ζ ζ=>KeyOrd.kle_trans) _ λi a an K B=>?_;rw[DK,Bh,EX] at K B;obtain⟨x,e1,rfl⟩:=K;obtain⟨y,L,rfl⟩:=B;obtain⟨ai,_⟩:=A8.mp L;have:=ae i ai;have aa:f.getD i 0=x:=by rw[B0,e1];rfl
  have ab:f.getD (i+1) 0=y:=by rw[B0,L];rfl
  rw[aa,ab] at this;exact this
 exact⟨.ref D,upd H D (.lst ((f.map λi=>b.getD i e).map (·.1))),I.laidN (t':=s.toks) kk G ⟨by rw[An,P.length_eq];exact Dm (BK (by lia)),_,n,E,hg⟩,rfl,q D _ P ah (I.freshN G)⟩
end
open Ord
abbrev GD (p:Str×Int):Dt:=.tup [.str p.1,.int p.2]
abbrev Cr:Type:=List (Str×Int)×List Str
abbrev KP (s:Cr):Dt:=.tup [.lst (s.1.map GD),.lst (s.2.map Dt.str)]
def De (K:Ah) (H:Hp) (a:Addr) (gs:List (Str×Int)):Prop:=∃vs,Ae K H a vs/\Aj K H vs (gs.map GD)
def HJ (K:Ah) (H:Hp) (a:Addr) (ss:List Cr):Prop:=∃vs,Ae K H a vs/\Aj K H vs (ss.map KP)
def De.same{K:Ah}{H H':Hp}{a:Addr}{gs:List (Str×Int)}(e:Ac H H')(h:De K H a gs):De K H' a gs:=by
 obtain⟨b,c,d⟩:=h;exact⟨b,e.seq c,d.same e⟩
theorem VM{K:Ah}{H:Hp}:∀{vs:List V}{xs:List Str},Aj K H vs (xs.map Dt.str)->vs=xs.map V.str
 |_,[],.nil=>rfl
 |_,_::_,.cons h t=>by cases h;rw[VM t];rfl
variable {H:Hp}{v:V}{p:Str×Int}
def PX{K:Ah}(h:Ar K H v (GD p)):∃t,v=.ref t/\Ap K H t [.str p.1,.int p.2]:=by
 cases h with
 | tup h t =>
   cases t with
   |cons a t =>
     cases t with
     |cons b t =>
       cases t;cases a;cases b;exact⟨_,rfl,h⟩
variable {vs:List V}{gs:List (Str×Int)}{i:Nat}
def Aj.goes_get{K:Ah}(h:Aj K H vs (gs.map GD))(hv:vs[i]?=some v):∃p t,gs[i]?=some p/\v=.ref t/\Ap K H t [.str p.1,.int p.2]:=by
 obtain⟨d,hd,a⟩:=h.get hv;rw[Bh] at hd
 cases e:gs[i]? with
 |none=>rw[e] at hd;cases hd
 |some p =>
   rw[e] at hd;cases hd;obtain⟨t,b,c⟩:=PX a;exact⟨p,t,rfl,b,c⟩
def FQ{K:Ah}{s:Cr}(h:Ar K H v (KP s)):∃t g e,v=.ref t/\Ap K H t [.ref g,.ref e]/\De K H g s.1/\Ae K H e (s.2.map V.str):=by
 cases h with
 | tup h t =>
   cases t with
   |cons b t =>
     cases t with
     |cons c t =>
       cases t
       cases b with
       |lst d f =>
         cases c with
         |lst a i =>
           rw[VM i] at a;exact⟨_,_,_,rfl,h,⟨_,d,f⟩,a⟩
variable {α:Type}
def Aj.len_map{K:Ah}{f:α->Dt}{xs:List α}(h:Aj K H vs (xs.map f)):vs.length=xs.length:=by
 have:=h.length
 rwa [An] at this
def Za{b:List Value}{ss:List Str}(c:StrsAre b ss)(a:2<=b.length):keyKind' b.toArray=pure oneType':=by
 match b,c,a with
 |[],_,a=>simp at a
 |[_],_,a=>simp at a
 |d::e::j,c,_=>exact keyKind_strs c
section
variable {X:Cx}
def LV (X:Cx):List V->Hp->VK->Prop:=λvs H Q=>∃(l:Addr)(ss:List Str),vs=[.ref l]/\Ae X.K H l (ss.map V.str)/\ss.length<64/\∀(D:Addr)(ss':List Str),ss'.Perm ss->ss'.Pairwise Dd.kle->H D=none->Q (.ref D) (upd H D (.lst (ss'.map V.str)))
theorem Zb:Ba X (.builtin "sorted") (LV X):=by
 intro ai s σ H vs us ab I r h;obtain⟨l,a,rfl,F,ah,q⟩:=h;obtain⟨u,rfl,G⟩:=Fp r;obtain rfl:u=Value.ref l:=G;obtain⟨g,m,J,_⟩:=I.list F;have K:=Y3 m;have C:a.length=g.length:=by have:=m.length;rwa [An] at this
 have p:∀i,i<a.length->∃t,g.getD i Value.none=.str (a.getD i default) t:=λi c=>by
  have:=Ot m i V.non Value.none (by rw[An];exact c)
  have e:(a.map V.str).getD i V.non=V.str (a.getD i default):=by
   rw[B0,Bh,B0,AC c];rfl
  rw[e] at this;exact this
 refine SK (O:=Dd) (key:=λi=>a.getD i default) (κ:=oneType') (vs:=g) J.isList (by lia) (λd v k Q' L=>?_) (λv k i j ae c hj M=>?_) λD v n b N w B U P=>?_;rw[Za K d];exact Aw L;obtain⟨t,o⟩:=p i (by lia);obtain⟨t',f⟩:=p j (by lia);unfold PySem.W.kas_ask;rw[o,f,keyLt'_oneType];exact oneLt_str M
 have W:∀i∈b,i<a.length:=λi c=>by
  have:=B.mem_iff.mp c;rw[C];simpa using this
 have aa:(List.range a.length).map (λi=>a.getD i default)=a:=by
  apply List.ext_getElem?;intro k;by_cases z:k<a.length;simp[z,B0];simp[z]
 have E:(b.map λi=>a.getD i default).Perm a:=by
  have:=B.map (λi=>a.getD i default)
  rwa [<-C,aa] at this
 have Q:As ((b.map λi=>a.getD i default).map V.str) (b.map λi=>g.getD i Value.none):=by
  rw[DK];exact PV b λi c=>p i (W i c)
 have Y:(b.map λi=>a.getD i default).Pairwise Dd.kle:=by
  refine PU (R:=Dd.kle) (λζ ζ ζ h k=>KeyOrd.kle_trans (O:=Dd) h k) _ λi af ag A d=>?_;rw[Bh,EX] at A d;obtain⟨x,o,rfl⟩:=A;obtain⟨y,f,rfl⟩:=d;obtain⟨Z,_⟩:=A8.mp f;have:=U i Z;have S:b.getD i 0=x:=by rw[B0,o];rfl
  have T:b.getD (i+1) 0=y:=by rw[B0,f];rfl
  rw[S,T] at this;exact this
 exact⟨.ref D,upd H D (.lst ((b.map λi=>a.getD i default).map V.str)),I.laidN (t':=s.toks) N w ⟨by rw[An,E.length_eq];exact Dm (BK (by lia)),_,n,Q,P⟩,rfl,q D _ E Y (I.freshN w)⟩
end
abbrev PY (K:Ah) (H:Hp) (z:Row EO Jr):Prop:=∃t,z.1=.ref t/\Ap K H t [V.str z.2.1,V.int z.2.2]
theorem SM{K:Ah}{H:Hp}:∀{ts:List Addr}{gs:List (Str×Int)},ts.length=gs.length->(∀(n:Nat)(a:Addr)(p:Str×Int),ts[n]?=some a->gs[n]?=some p->H a=some (.tup [.str p.1,.int p.2])) ->
 ∃zs:List (Row EO Jr),zs.map (·.1)=ts.map V.ref/\zs.map (·.2)=gs/\∀z∈zs,PY K H z
 |[],[],_,_=>⟨[],rfl,rfl,λz hz=>by cases hz⟩
 |[],_::_,h,_=>by simp at h
 |_::_,[],h,_=>by simp at h
 |a::ts,p::gs,h,k=>by
   obtain⟨zs,b,c,d⟩:=SM (K:=K) (H:=H) (ts:=ts) (gs:=gs) (by simpa using h) λn a p b c=>k (n+1) a p (by simpa using b) (by simpa using c);refine⟨(V.ref a,p)::zs,by rw[D9,b];rfl,by rw[D9,c],λz hz=>?_⟩;rcases Cj.mp hz with e|hz;rw[e];exact⟨a,rfl,Ap.of (k 0 a p rfl rfl)⟩;exact d z hz
theorem SN{K:Ah}{H:Hp}:∀(zs:List (Row EO Jr)),(∀z∈zs,PY K H z)->Aj K H (zs.map (·.1)) ((zs.map (·.2)).map GD)
 |[],_=>.nil
 |z::zs,h=>by
   obtain⟨t,e,a⟩:=h z BB;refine .cons ?_ (SN zs λy b=>h y (Co _ b));show Ar K H z.1 (GD z.2);rw[e];exact .tup a (.cons (.str _) (.cons (.int _) .nil))
variable {a D:Addr}{o:HO}{xs:List V}
def Ae.updN{K:Ah}(b:a≠D)(h:Ae K H a xs):Ae K (upd H D o) a xs:=by
 rcases h with(h|⟨u,h⟩)|h;exact .inl (.inl (by rw[AE b];exact h));exact .inl (.inr ⟨u,by rw[AE b];exact h⟩);exact .inr h
def Ap.updL{K:Ah}{ys:List V}(b:H D=some (.lst ys))(h:Ap K H a xs):Ap K (upd H D o) a xs:=by
 rcases h with(h|⟨u,h⟩)|h;exact .inl (.inl (by rw[AE λz=>by rw[z,b] at h;cases h];exact h));exact .inl (.inr ⟨u,by rw[AE λz=>by rw[z,b] at h;cases h];exact h⟩);exact .inr h
theorem VN{K:Ah}{H:Hp}{D:Addr}{o:HO}{ys:List V}(b:H D=some (.lst ys)):∀{vs:List V}{gs:List (Str×Int)},Aj K H vs (gs.map GD)->Aj K (upd H D o) vs (gs.map GD)
 |_,[],.nil=>.nil
 |_,p::gs,.cons h t=>by
   obtain⟨a,e,c⟩:=PX h;subst e;exact .cons (.tup (c.updL b) (.cons (.str _) (.cons (.int _) .nil))) (VN b t)
def De.updL{K:Ah}{ys:List V}(b:H D=some (.lst ys))(c:a≠D)(h:De K H a gs):De K (upd H D o) a gs:=by
 obtain⟨vs,d,e⟩:=h;exact⟨vs,d.updN c,VN b e⟩
structure A1 (K:Ah) (F:Addr->Prop) (H:Hp) (D:Addr) (us:List Addr) (rs:List Cr):Prop where
 len:us.length=rs.length
 at_:∀(i:Nat)(u:Addr)(r:Cr),us[i]?=some u->rs[i]?=some r->∃G E xs,H u=some (.tup [.ref G,.ref E])/\De K H G r.1/\H G=some (.lst xs)/\H E=some (.lst (r.2.map V.str))/\G≠D/\E≠D/\F G/\F E
variable {F:Addr->Prop}
def A1.nil{K:Ah}:A1 K F H D [] []:=⟨rfl,λi u r h=>by simp at h⟩
def A1.same{K:Ah}{F:Addr->Prop}{H H':Hp}{D:Addr}{us:List Addr}{a:List Cr}(e:Ac H H')(h:A1 K F H D us a):A1 K F H' D us a:=by
 refine⟨h.len,λi u r b c=>?_⟩;obtain⟨G,E,xs,d,f,g,j,k,l,m⟩:=h.at_ i u r b c;exact⟨G,E,xs,e _ _ d,f.same e,e _ _ g,e _ _ j,k,l,m⟩
def A1.updL{K:Ah}{F:Addr->Prop}{H:Hp}{D:Addr}{o:HO}{ys:List V}{us:List Addr}{c:List Cr}(d:H D=some (.lst ys))(h:A1 K F H D us c):A1 K F (upd H D o) D us c:=by
 refine⟨h.len,λi u r f g=>?_⟩;obtain⟨G,E,xs,a,j,k,l,b,e,m⟩:=h.at_ i u r f g;exact⟨G,E,xs,by rw[AE λz=>by rw[z,d] at a;cases a];exact a,j.updL d b,by rw[AE b];exact k,by rw[AE e];exact l,b,e,m⟩
variable {u G E:Addr}{us:List Addr}{rs:List Cr}
def A1.snoc{K:Ah}{r:Cr}(h:A1 K F H D us rs)(d:H u=some (.tup [.ref G,.ref E]))(f:De K H G r.1)(g:H G=some (.lst xs))(j:H E=some (.lst (r.2.map V.str)))(k:G≠D)(l:E≠D)(m:F G)(n:F E):A1 K F H D (us++[u]) (rs++[r]):=by
 refine⟨by rw[AY,AY,h.len];rfl,λi v q a b=>?_⟩;rcases Nat.lt_or_ge i us.length with c|p;rw[EJ c] at a;rw[EJ (by rw[<-h.len];exact c)] at b;exact h.at_ i v q a b;have o:i<(us++[u]).length:=(A8.mp a).1;rw[AY,DJ] at o;have e:i=us.length:=(by lia);subst e;rw[EW (AD _),Nat.sub_self] at a;rw[EW (by rw[h.len];exact AD _),h.len,Nat.sub_self] at b;cases a;cases b;exact⟨G,E,xs,d,f,g,j,k,l,m,n⟩
def Jv:([]:List V).length+1+1+1<=sizeLine:=by decide
theorem A1.dts{K:Ah}{F:Addr->Prop}{H:Hp}{D:Addr}:∀{us:List Addr}{rs:List Cr},A1 K F H D us rs->Aj K H (us.map V.ref) (rs.map KP)
 |[],[],_=>.nil
 |[],_::_,h=>by have:=h.len;simp at this
 |_::_,[],h=>by have:=h.len;simp at this
 |u::us,r::rs,h=>by
   obtain⟨G,E,xs,a,⟨g,b,f⟩,j,c,_⟩:=h.at_ 0 u r rfl rfl;refine .cons (.tup (Ap.of a) (.cons (.lst b f) (.cons (.lst (Ae.of c) (Aj.strs _)) .nil))) ?_;exact A1.dts (D:=D) ⟨by simpa using h.len,λi v q d e=>h.at_ (i+1) v q (by simpa using d) (by simpa using e)⟩
def A1.stts{K:Ah}(e:H a=some (.lst (us.map V.ref)))(h:A1 K F H a us rs):HJ K H a rs:=⟨_,Ae.of e,h.dts⟩
variable {O:KeyOrd}
def LW{l m:List O.α}(h:l.Perm m)(c:l.Pairwise O.kle)(d:m.Pairwise O.kle):l=m:=
 h.eq_of_pairwise (λa b ζ ζ x y=>KeyOrd.kle_antisymm x y) c d
def LX(p q:Str×Int):Ed 2 (GD p) (GD q):=.tup (.cons (.str _ _) (.cons (.int _ _) (.nil _)))
structure GT (H:Hp) (ts:List Addr) (gs:List (Str×Int)):Prop where
 len:ts.length=gs.length
 at_:∀(n:Nat)(t:Addr)(p:Str×Int),ts[n]?=some t->gs[n]?=some p->H t=some (.tup [.str p.1,.int p.2])
def GT.nil:GT H [] []:=⟨rfl,λn t p h=>by simp at h⟩
variable {H':Hp}{ts:List Addr}
def GT.same(e:Ac H H')(h:GT H ts gs):GT H' ts gs:=⟨h.len,λn t p a b=>e _ _ (h.at_ n t p a b)⟩
def GT.updL(b:H a=some (.lst xs))(h:GT H ts gs):GT (upd H a o) ts gs:=⟨h.len,λn t p c d=>by
 have:=h.at_ n t p c d;rw[AE λz=>by rw[z,b] at this;cases this]
 exact this⟩
def GT.snoc{t:Addr}(h:GT H ts gs)(e:H t=some (.tup [.str p.1,.int p.2])):GT H (ts++[t]) (gs++[p]):=by
 refine⟨by rw[AY,AY,h.len];rfl,λn v q a b=>?_⟩;rcases Nat.lt_or_ge n ts.length with c|g;rw[EJ c] at a;rw[EJ (by rw[<-h.len];exact c)] at b;exact h.at_ n v q a b;have f:n<(ts++[t]).length:=(A8.mp a).1;rw[AY,DJ] at f;have d:n=ts.length:=(by lia);subst d;rw[EW (AD _),Nat.sub_self] at a;rw[EW (by rw[h.len];exact AD _),h.len,Nat.sub_self] at b;cases a;cases b;exact e
def GT.dts{K:Ah}(h:GT H ts gs):Aj K H (ts.map V.ref) (gs.map GD):=by
 obtain⟨a,b,c,d⟩:=SM (K:=K) h.len h.at_;rw[<-b,<-c];exact SN a d
variable {g:TG}{te:TE}{σ:St}{n:Nat}
def SO{k:Nat}{q:List Nat}{Y:Hp}{Q:Addr->Hp->Prop}{lo:Int}(Pv:Addr->Nat->List V->Hp->Prop)
 (r:∀D,Y D=none->Pv D 0 [] (upd Y D (.lst [])))
 (s:∀(D:Addr)(i:Nat)(ys:List V)(a:Hp)(R:VK),Y D=none->i<n->Pv D i ys a->(∀y c,c D=some (.lst ys)->ys.length<sizeLine->Pv D (i+1) (ys++[y]) (upd c D (.lst (ys++[y])))->R y c)->g (.int (lo+i)) (EG k q σ) a λσ4 h=>te σ4 h R)
 (hd:∀D ys a,Y D=none->Pv D n ys a->Q D a) :
 ∀D,Y D=none->∃W:Nat->Nat->List V->Hp->Prop,(∃m,W 0 m [] (upd Y D (.lst [])))/\∀i m ys a,W i m ys a ->
  ((IF lo n).stop i a/\Q D a)\/((IF lo n).go i a/\∀x f,(IF lo n).yld i a x f->g x (EG k q σ) f λσ4 h=>HE σ4 h λb o =>
   if b=true then te σ4 o λy c=>c D=some (.lst ys)/\ys.length<sizeLine/\∃d,d<m/\W (i+1) d (ys++[y]) (upd c D (.lst (ys++[y]))) else ∃d,d<m/\W (i+1) d ys o):=by
 intro D j;refine⟨λi m ys a=>m=n-i/\i<=n/\Pv D i ys a,⟨n,rfl,Cm _,r D j⟩,?_⟩;rintro i m ys a ⟨rfl,z,p⟩;by_cases l:i<n;refine .inr ⟨l,λx f y=>?_⟩;obtain⟨rfl,rfl⟩:=y;refine s D i ys f _ j l p λv c t u w=>?_;exact⟨t,u,n-(i+1),by lia,rfl,l,w⟩;have e:i=n:=(by lia);subst e;exact .inl ⟨AD _,hd D ys a j p⟩
structure Keeps (M:Addr->Prop) (H H':Hp):Prop where
 at_:∀x o,H x=some o->¬M x->H' x=some o
 ls:∀x o,M x->H x=some o->∃xs,o=HO.lst xs
section
variable {K:Ah} {M:Addr->Prop} {H H':Hp}
def Keeps.refl(h:∀x o,M x->H x=some o->∃xs,o=HO.lst xs):Keeps M H H:=⟨λζ ζ e ζ=>e,h⟩
def Keeps.set(k:Keeps M H H')(a:M D):Keeps M H (upd H' D o):=⟨λx u e n=>by
 have b:x≠D:=λz=>n (by rw[z];exact a)
 rw[AE b];exact k.at_ x u e n,k.ls⟩
def Keeps.one(a:H D=some (.lst xs)):Keeps (·=D) H (upd H D o):=
 ⟨λx u e n=>by rw[AE n];exact e,λx u m e=>by rw[m,a] at e;exact⟨xs,(AO e).symm⟩⟩
def Keeps.same{a:Hp}(k:Keeps M H H')(s:Ac H' a):Keeps M H a:=⟨λx o e n=>s _ _ (k.at_ x o e n),k.ls⟩
def Keeps.noT(k:Keeps M H H')(h:H a=some (.tup xs)):¬M a:=λm=>by
 obtain⟨_,e⟩:=k.ls _ _ m h;cases e
def Keeps.tup(k:Keeps M H H'){a:Addr}{xs:List V}(h:H a=some (.tup xs)):H' a=some (.tup xs):=k.at_ _ _ h (k.noT h)
def Keeps.tups(k:Keeps M H H'){ps:A'}(h:Cb H ts ps):Cb H' ts ps:=⟨h.len,λn t p a b=>k.tup (h.at_ n t p a b)⟩
end
def PZ{K:Ah}{k:Nat}{s:List Nat}{tc:TT}{Y:Hp}{Q:Addr->Hp->Prop}(Pv:Addr->Nat->List V->Hp->Prop)
 (t:∀D,Y D=none->Pv D 0 [] (upd Y D (.lst []))) (u:∀D i ys c,Pv D i ys c->Ae K c a xs)
 (w:∀D i x ys c(R:VK)(r:Hp->Prop),Y D=none->xs[i]?=some x->Pv D i ys c->(∀y f,f D=some (.lst ys)->ys.length<sizeLine->Pv D (i+1) (ys++[y]) (upd f D (.lst (ys++[y])))->R y f)->(∀d,Pv D (i+1) ys d->r d)->g x (EG k s σ) c λσ4 l=>tc σ4 l λb d=>if b=true then te σ4 d R else r d)
 (hd:∀D ys c,Y D=none->Pv D xs.length ys c->Q D c) :
 ∀D,Y D=none->∃W:Nat->Nat->List V->Hp->Prop,(∃m,W 0 m [] (upd Y D (.lst [])))/\∀i m ys c,W i m ys c ->
  ((Gz K a).stop i c/\Q D c)\/((Gz K a).go i c/\∀x j,(Gz K a).yld i c x j->g x (EG k s σ) j λσ4 l=>tc σ4 l λb d =>
   if b=true then te σ4 d λy f=>f D=some (.lst ys)/\ys.length<sizeLine/\∃h,h<m/\W (i+1) h (ys++[y]) (upd f D (.lst (ys++[y]))) else ∃h,h<m/\W (i+1) h ys d):=by
 intro D n;refine⟨λi m ys c=>m=xs.length-i/\i<=xs.length/\Pv D i ys c,⟨xs.length,rfl,Cm _,t D n⟩,?_⟩;rintro i m ys c ⟨rfl,F,p⟩;have o:=u D i ys c p;by_cases q:i<xs.length;refine .inr ⟨⟨xs,xs[i],o,by simp[q]⟩,λx j y=>?_⟩;obtain⟨rfl,y⟩:=y;have z:=y xs o;refine w D i x ys j _ _ n z p (λv f A B C=>?_) (λd E=>?_);exact⟨A,B,xs.length-(i+1),by lia,rfl,q,C⟩;exact⟨xs.length-(i+1),by lia,rfl,q,E⟩;have e:i=xs.length:=(by lia);subst e;exact .inl ⟨⟨xs,o,AD _⟩,hd D ys c n p⟩
structure FR (K:Ah) (F:Addr->Prop) (H:Hp) (t:Addr) (rs:List Cr) (n:Int) (ord:A'):Prop where
 ex:∃(a o:Addr)(us:List Addr)(ts:List Addr),H t=some (.tup [.ref a,.int n,.ref o])/\F a/\F o/\a≠o/\H a=some (.lst (us.map V.ref))/\A1 K F H a us rs/\H o=some (.lst (ts.map V.ref))/\Cb H ts ord
def FR.same{K:Ah}{F:Addr->Prop}{H H':Hp}{t:Addr}{rs:List Cr}{n:Int}{ord:A'}(s:Ac H H')(h:FR K F H t rs n ord):FR K F H' t rs n ord:=by
 obtain⟨a,o,us,ts,b,c,d,e,f,g,i,j⟩:=h.ex;exact⟨a,o,us,ts,s _ _ b,c,d,e,s _ _ f,g.same s,s _ _ i,j.same s⟩
section
variable {X:Cx}
end
abbrev CW:C'->Dt
 |none=>.non
 |some p=>GD p
def Hb (K:Ah) (H:Hp) (a:Addr) (as:List (C')):Prop:=∃vs,Ae K H a vs/\Aj K H vs (as.map CW)
abbrev Qu:Type:=Int×Int×List Str
abbrev VO (q:Qu):Dt:=.tup [.int q.1,.int q.2.1,.tup (q.2.2.map Dt.str)]
section
variable {K:Ah} {H H':Hp} {a:Addr}
def Hb.same{as:List (C')}(e:Ac H H')(h:Hb K H a as):Hb K H' a as:=by
 obtain⟨vs,b,c⟩:=h;exact⟨vs,e.seq b,c.same e⟩
def LY{o:C'}(h:Ar K H v (CW o)):(o=none/\v=.non)\/∃p t,o=some p/\v=.ref t/\Ap K H t [.str p.1,.int p.2]:=by
 cases o with
 |none=>cases h;exact .inl ⟨rfl,rfl⟩
 |some p =>
   obtain⟨t,e,a⟩:=PX h;exact .inr ⟨p,t,rfl,e,a⟩
def Hb.get{as:List (C')}(h:Hb K H a as){k:Nat}(f:k<as.length):∃vs v,Ae K H a vs/\vs[k]?=some v/\((as[k]?=some none/\v=.non)\/∃p t,as[k]?=some (some p)/\v=.ref t/\Ap K H t [.str p.1,.int p.2]):=by
 obtain⟨vs,g,j⟩:=h;have b:=AC f;obtain⟨v,l,hd⟩:=j.get' (i:=k) (d:=CW as[k]) (by rw[Bh,b];rfl);refine⟨vs,v,g,l,?_⟩;rcases LY hd with⟨c,e⟩|⟨p,t,c,e,m⟩;exact .inl ⟨by rw[b,c],e⟩;exact .inr ⟨p,t,by rw[b,c],e,m⟩
def De.get(h:De K H a gs){k:Nat}(b:gs[k]?=some p):∃vs t,Ae K H a vs/\vs[k]?=some (.ref t)/\Ap K H t [.str p.1,.int p.2]:=by
 obtain⟨vs,c,e⟩:=h;obtain⟨v,f,hd⟩:=e.get' (i:=k) (d:=GD p) (by rw[Bh,b];rfl);obtain⟨t,rfl,g⟩:=PX hd;exact⟨vs,t,c,f,g⟩
end
structure QT (H:Hp) (ts:List Addr) (qs:List Qu):Prop where
 len:ts.length=qs.length
 at_:∀(n:Nat)(t:Addr)(q:Qu),ts[n]?=some t->qs[n]?=some q->∃u,H t=some (.tup [.int q.1,.int q.2.1,.ref u])/\H u=some (.tup (q.2.2.map V.str))
def QT.nil:QT H [] []:=⟨rfl,λn t p h=>by simp at h⟩
variable {qs:List Qu}
def QT.same(e:Ac H H')(h:QT H ts qs):QT H' ts qs:=⟨h.len,λn t p a b=>by
 obtain⟨u,c,d⟩:=h.at_ n t p a b
 exact⟨u,e _ _ c,e _ _ d⟩⟩
variable {M:Addr->Prop}
def QT.keeps(k:Keeps M H H')(h:QT H ts qs):QT H' ts qs:=⟨h.len,λn t p a b=>by
 obtain⟨u,c,d⟩:=h.at_ n t p a b
 exact⟨u,k.tup c,k.tup d⟩⟩
def GT.keeps(k:Keeps M H H')(h:GT H ts gs):GT H' ts gs:=⟨h.len,λn t p a b=>k.tup (h.at_ n t p a b)⟩
def QT.snoc{t:Addr}{q:Qu}(h:QT H ts qs)(e:H t=some (.tup [.int q.1,.int q.2.1,.ref u]))(d:H u=some (.tup (q.2.2.map V.str))):QT H (ts++[t]) (qs++[q]):=by
 refine⟨by rw[AY,AY,h.len];rfl,λn v f a b=>?_⟩;rcases Nat.lt_or_ge n ts.length with c|j;rw[EJ c] at a;rw[EJ (by rw[<-h.len];exact c)] at b;exact h.at_ n v f a b;have i:n<(ts++[t]).length:=(A8.mp a).1;rw[AY,DJ] at i;have g:n=ts.length:=(by lia);subst g;rw[EW (AD _),Nat.sub_self] at a;rw[EW (by rw[h.len];exact AD _),h.len,Nat.sub_self] at b;cases a;cases b;exact⟨u,e,d⟩
def QT.dts{K:Ah}(h:QT H ts qs):Aj K H (ts.map V.ref) (qs.map VO):=by
 refine Aj.of_get (by simpa using h.len) λn v d a b=>?_;rw[Bh] at a b;obtain⟨t,c,rfl⟩:=EX.mp a;obtain⟨q,e,rfl⟩:=EX.mp b;obtain⟨u,f,g⟩:=h.at_ n t q c e;exact .tup (Ap.of f) (.cons (.int _) (.cons (.int _) (.cons (.tup (Ap.of g) (Aj.strs _)) .nil)))
def Ee (ths:List (Str×Int)) (as:List (C')) (q:Int):Str×Int:=match as[q.toNat]? with
 |some (some p)=>if p.1=("thing" : Str) then(match ths[p.2.toNat]? with
   |some k=>if k.1=("part" : Str) then("to",k.2) else("no",0)
   |none=>("no",0)) else("no",0)
 |some none=>("open",q)
 |none=>("no",0)
def Dr (ths:List (Str×Int)) (as:List (C')) (p:Str×Int):Str×Int:=
 if p.1=("part" : Str) then("to",p.2) else if p.1=("sort" : Str) then Ee ths as p.2 else("no",0)
structure GF (ths:List (Str×Int)) (as:List (C')):Prop where
 q:∀p∈ths,p.1=("sort" : Str)->0<=p.2/\p.2<as.length
 t:∀p,some p∈as->p.1=("thing" : Str)->0<=p.2/\p.2<ths.length
variable {ths:List (Str×Int)}{as:List (C')}
def Zc(h:as[n]?=some none):Ee ths as (n:Int)=(("open" : Str),(n:Int)):=by
 unfold Ee;rw[Bo,h]
def Zd(h:as[n]?=some (some p))(a:p.1≠("thing" : Str)):Ee ths as (n:Int)=(("no" : Str),0):=by
 unfold Ee;rw[Bo,h];exact Ak a
variable {m:Nat}
def Ze{k:Str×Int}(h:as[n]?=some (some p))(a:p.1=("thing" : Str))(b:p.2=(m:Int))(c:ths[m]?=some k)(d:k.1=("part" : Str)):Ee ths as (n:Int)=(("to" : Str),k.2):=by
 unfold Ee;rw[Bo,h]
 show(if p.1=("thing" : Str) then _ else _)=_
 rw[Al a,b,Bo,c];exact Al d
def Zf{k:Str×Int}(h:as[n]?=some (some p))(a:p.1=("thing" : Str))(b:p.2=(m:Int))(c:ths[m]?=some k)(d:k.1≠("part" : Str)):Ee ths as (n:Int)=(("no" : Str),0):=by
 unfold Ee;rw[Bo,h]
 show(if p.1=("thing" : Str) then _ else _)=_
 rw[Al a,b,Bo,c];exact Ak d
variable {L:Pos}{x:Str}
def VP{X:Cx}{e:Expr}{op:Operator}{a:R2}{t:Pos}(b:X.N.Nodup)(c:X.N[i]?=some x)(d:Loc X.env.scope x)(f:PE X e te)(g:Dc X (inplaceOp op) a)(h:X.fn x=true\/X.env.scope.names.lookup x=some .local:=by first|exact .inl rfl|exact .inr rfl|assumption) :
 PS X (.AugAssign (.Name x t) op e L) (NU i te a):=Lo b c d f g h
abbrev B8:Type:=Str×Str×Int
abbrev GW (p:B8):List V:=[.str p.1,.str p.2.1,.int p.2.2]
abbrev DO:Type:=Str×Str×Str×Int
abbrev GX (p:DO):List V:=[.str p.1,.str p.2.1,.str p.2.2.1,.int p.2.2.2]
abbrev Ou (p:B8):Dt:=.tup [.str p.1,.str p.2.1,.int p.2.2]
abbrev Ov (p:DO):Dt:=.tup [.str p.1,.str p.2.1,.str p.2.2.1,.int p.2.2.2]
section
variable {α:Type} {f:α->List V} {H H':Hp} {ts:List Addr} {rs:List α}
structure RT (f:α->List V) (H:Hp) (ts:List Addr) (rs:List α):Prop where
 len:ts.length=rs.length
 at_:∀(n:Nat)(t:Addr)(r:α),ts[n]?=some t->rs[n]?=some r->H t=some (.tup (f r))
def RT.nil:RT f H [] []:=⟨rfl,λn t p h=>by simp at h⟩
def RT.same(e:Ac H H')(h:RT f H ts rs):RT f H' ts rs:=⟨h.len,λn t p a b=>e _ _ (h.at_ n t p a b)⟩
def RT.keeps(k:Keeps M H H')(h:RT f H ts rs):RT f H' ts rs:=⟨h.len,λn t p a b=>k.tup (h.at_ n t p a b)⟩
def RT.snoc{t:Addr}{r:α}(h:RT f H ts rs)(e:H t=some (.tup (f r))):RT f H (ts++[t]) (rs++[r]):=by
 refine⟨by rw[AY,AY,h.len];rfl,λn v q a b=>?_⟩;rcases Nat.lt_or_ge n ts.length with c|i;rw[EJ c] at a;rw[EJ (by rw[<-h.len];exact c)] at b;exact h.at_ n v q a b;have g:n<(ts++[t]).length:=(A8.mp a).1;rw[AY,DJ] at g;have d:n=ts.length:=(by lia);subst d;rw[EW (AD _),Nat.sub_self] at a;rw[EW (by rw[h.len];exact AD _),h.len,Nat.sub_self] at b;cases a;cases b;exact e
def RT.dts{K:Ah}{g:α->Dt}(c:∀(r:α)(t:Addr),H t=some (.tup (f r))->Ar K H (.ref t) (g r))(h:RT f H ts rs):Aj K H (ts.map V.ref) (rs.map g):=by
 refine Aj.of_get (by simpa using h.len) λn v d a b=>?_;rw[Bh] at a b;obtain⟨t,e,rfl⟩:=EX.mp a;obtain⟨q,i,rfl⟩:=EX.mp b;exact c q t (h.at_ n t q e i)
end
def LZ{K:Ah}(r:B8)(t:Addr)(h:H t=some (.tup (GW r))):Ar K H (.ref t) (Ou r):=.tup (Ap.of h) (.cons (.str _) (.cons (.str _) (.cons (.int _) .nil)))
def L0{K:Ah}(r:DO)(t:Addr)(h:H t=some (.tup (GX r))):Ar K H (.ref t) (Ov r):=.tup (Ap.of h) (.cons (.str _) (.cons (.str _) (.cons (.str _) (.cons (.int _) .nil))))
abbrev Bk:Type:=List B8×List DO
abbrev HK (s:Bk):Dt:=.tup [.lst (s.1.map Ou),.lst (s.2.map Ov)]
structure Hc (H:Hp) (u G E:Addr) (s:Bk):Prop where
 u:H u=some (.tup [.ref G,.ref E])
 g:∃ts:List Addr,H G=some (.lst (ts.map V.ref))/\RT GW H ts s.1
 e:∃ts:List Addr,H E=some (.lst (ts.map V.ref))/\RT GX H ts s.2
def Hc.same{H H':Hp}{u G E:Addr}{s:Bk}(e:Ac H H')(h:Hc H u G E s):Hc H' u G E s:=by
 obtain⟨a,⟨ts,b,c⟩,⟨us,d,f⟩⟩:=h;exact⟨e _ _ a,⟨ts,e _ _ b,c.same e⟩,⟨us,e _ _ d,f.same e⟩⟩
def Hc.keeps{M:Addr->Prop}{H H':Hp}{u G E:Addr}{s:Bk}(k:Keeps M H H')(b:¬M G)(c:¬M E)(h:Hc H u G E s):Hc H' u G E s:=by
 obtain⟨a,⟨ts,d,e⟩,⟨us,f,g⟩⟩:=h;exact⟨k.tup a,⟨ts,k.at_ _ _ d b,e.keeps k⟩,⟨us,k.at_ _ _ f c,g.keeps k⟩⟩
variable {s:Bk}
def Hc.dt{K:Ah}(h:Hc H u G E s):Ar K H (.ref u) (HK s):=by
 obtain⟨a,⟨ts,b,c⟩,⟨us,d,e⟩⟩:=h;exact .tup (Ap.of a) (.cons (.lst (Ae.of b) (c.dts LZ)) (.cons (.lst (Ae.of d) (e.dts L0)) .nil))
structure Df (H:Hp) (D:Addr) (us Gs Es:List Addr) (ss:List Bk):Prop where
 top:H D=some (.lst (us.map V.ref))
 lu:us.length=ss.length
 lg:Gs.length=ss.length
 le:Es.length=ss.length
 at_:∀(i:Nat)(u G E:Addr)(s:Bk),us[i]?=some u->Gs[i]?=some G->Es[i]?=some E->ss[i]?=some s->Hc H u G E s
def Df.same{H H':Hp}{D:Addr}{us a b:List Addr}{ss:List Bk}(e:Ac H H')(h:Df H D us a b ss):Df H' D us a b ss:=
 ⟨e _ _ h.top,h.lu,h.lg,h.le,λi u G E s c d f g=>(h.at_ i u G E s c d f g).same e⟩
variable {Gs Es:List Addr}{ss:List Bk}
def Df.get(h:Df H D us Gs Es ss)(a:i<ss.length) :
 ∃u G E,us[i]?=some u/\Gs[i]?=some G/\Es[i]?=some E/\ss[i]?=some ss[i]/\Hc H u G E ss[i]:=by
 have b:us[i]?=some (us[i]'(by rw[h.lu];exact a)):=AC _;have c:Gs[i]?=some (Gs[i]'(by rw[h.lg];exact a)):=AC _;have d:Es[i]?=some (Es[i]'(by rw[h.le];exact a)):=AC _;exact⟨_,_,_,b,c,d,AC a,h.at_ i _ _ _ _ b c d (AC a)⟩
def Df.dts{K:Ah}(h:Df H D us Gs Es ss):Aj K H (us.map V.ref) (ss.map HK):=by
 refine Aj.of_get (by simpa using h.lu) λn v d a b=>?_;rw[Bh] at a b;obtain⟨u,g,rfl⟩:=EX.mp a;obtain⟨s,c,rfl⟩:=EX.mp b;have i:n<ss.length:=(A8.mp c).1;obtain⟨k,G,E,e,l,m,f,j⟩:=h.get i;rw[g] at e;cases e;rw[c] at f;rw[AO f];exact j.dt
def Df.step(h:Df H D us Gs Es ss)(q:(D::(Gs++Es)).Nodup){t:Addr}{p:B8}(g:i<ss.length)(b:Gs[i]?=some G)(r:H G=some (.lst (ts.map V.ref)))(T:RT GW H ts ss[i].1)(v:H t=some (.tup (GW p))) :
 Df (upd H G (.lst (ts.map V.ref++[.ref t]))) D us Gs Es (ss.set i (ss[i].1++[p],ss[i].2)):=by
 have k:Keeps (·=G) H (upd H G (.lst (ts.map V.ref++[.ref t]))):=Keeps.one r;obtain⟨w,I⟩:=Gw.mp q;obtain⟨x,ne,J⟩:=List.nodup_append.mp I;have l:G∈Gs:=Bl b;refine⟨k.at_ _ _ h.top λz=>w (z▸Ek _ l),by rw[F4];exact h.lu,by rw[F4];exact h.lg,by rw[F4];exact h.le,λj u m E s n c f d=>?_⟩;have o:E≠G:=λz=>J G l E (Bl f) z.symm;by_cases e:i=j;subst e;rw[b] at c;cases c;rw[List.getElem?_set_self g] at d;cases d;obtain⟨a,_,⟨y,A,B⟩⟩:=h.at_ i u G E _ n b f (AC g);exact⟨k.tup a,⟨ts++[t],by rw[Aa,Br];rfl,(T.keeps k).snoc (k.tup v)⟩,⟨y,k.at_ _ _ A o,B.keeps k⟩⟩;rw[List.getElem?_set_ne e] at d
 have K:m≠G:=λz=>by
  subst z;obtain⟨L,C⟩:=A8.mp c;obtain⟨M,F⟩:=A8.mp b;exact e ((List.getElem_inj x).mp (F.trans C.symm))
 exact(h.at_ j u m E s n c f d).keeps k K o
def Df.alive(h:Df H D us Gs Es ss):∀x∈Gs++Es,∃xs,H x=some (.lst xs):=λx a=>by
 rcases BI.mp a with a|a;obtain⟨j,b⟩:=List.getElem?_of_mem a;have f:j<ss.length:=by rw[<-h.lg];exact(A8.mp b).1
 obtain⟨g,i,k,l,c,d,m,⟨_,⟨n,e,_⟩,_⟩⟩:=h.get f;rw[b] at c;cases c;exact⟨_,e⟩;obtain⟨j,b⟩:=List.getElem?_of_mem a;have f:j<ss.length:=by rw[<-h.le];exact(A8.mp b).1
 obtain⟨g,i,k,l,c,d,m,⟨_,_,⟨n,e,_⟩⟩⟩:=h.get f;rw[b] at d;cases d;exact⟨_,e⟩
def Df.nil(h:H D=some (.lst [])):Df H D [] [] [] []:=⟨h,rfl,rfl,rfl,λi u G E s a=>by simp at a⟩
def Df.snoc(h:Df H D us Gs Es ss)(g:Hc H u G E s)(j:G≠D)(l:E≠D)(f:∀x∈Gs++Es,x≠D) :
 Df (upd H D (.lst (us.map V.ref++[.ref u]))) D (us++[u]) (Gs++[G]) (Es++[E]) (ss++[s]):=by
 have k:Keeps (·=D) H (upd H D (.lst (us.map V.ref++[.ref u]))):=Keeps.one h.top;refine⟨by rw[Aa,Br];rfl,by simp[h.lu],by simp[h.lg],by simp[h.le],λi m n o Z d a b c=>?_⟩;rcases Nat.lt_or_ge i ss.length with e|r;rw[EJ (by rw[h.lu];exact e)] at d;rw[EJ (by rw[h.lg];exact e)] at a;rw[EJ (by rw[h.le];exact e)] at b;rw[EJ e] at c;exact(h.at_ i m n o Z d a b c).keeps k (f _ (Ek _ (Bl a))) (f _ (Dj _ (Bl b)));have q:i<(ss++[s]).length:=(A8.mp c).1;rw[AY,DJ] at q;have p:i=ss.length:=(by lia);subst p;rw[EW (by rw[h.lu];exact AD _),h.lu,Nat.sub_self] at d;rw[EW (by rw[h.lg];exact AD _),h.lg,Nat.sub_self] at a;rw[EW (by rw[h.le];exact AD _),h.le,Nat.sub_self] at b;rw[EW (AD _),Nat.sub_self] at c;cases d;cases a;cases b;cases c;exact g.keeps k j l
def Zg(a:(D::(Gs++Es)).Nodup)(b:G∉D::(Gs++Es))(c:E∉D::(Gs++Es))(d:G≠E):(D::((Gs++[G])++(Es++[E]))).Nodup:=by
 have p:(D::((Gs++[G])++(Es++[E]))).Perm (G::E::(D::(Gs++Es))):=by
  have e:(D::((Gs++[G])++(Es++[E]))).Perm (E::(D::((Gs++[G])++Es))):=by
   have:(D::((Gs++[G])++(Es++[E])))=(D::((Gs++[G])++Es))++[E]:=(by simp);rw[this];exact List.perm_append_singleton _ _
  have J:(D::((Gs++[G])++Es)).Perm (G::(D::(Gs++Es))):=by
   have:(D::((Gs++[G])++Es))=(D::Gs)++G::Es:=(by simp);rw[this];exact List.perm_middle
  exact(e.trans (J.cons E)).trans (List.Perm.swap _ _ _)
 rw[p.nodup_iff,Gw,Gw];refine⟨λz=>?_,c,a⟩;rcases Cj.mp z with z|z;exact d z;exact b z
def BO (ths:List (Str×Int)) (as:List (C')) (p:B8):Str×Int:=
 if p.2.1=("to" : Str) then("to",p.2.2) else match as[p.2.2.toNat]? with
 |some (some w)=>if w.1=("thing" : Str) then(match ths[w.2.toNat]? with
   |some k=>Dr ths as k
   |none=>("no",0)) else("no",0)
 |some none=>("open",p.2.2)
 |none=>("no",0)
def Zh{p:B8}(h:p.2.1=("to" : Str)):BO ths as p=(("to" : Str),p.2.2):=Al h
def Zi{p:B8}(h:p.2.1≠("to" : Str))(a:p.2.2=(n:Int))(b:as[n]?=some none):BO ths as p=(("open" : Str),p.2.2):=by
 unfold BO;rw[Ak h,a,Bo,b]
def Zj{p:B8}{w:Str×Int}(h:p.2.1≠("to" : Str))(a:p.2.2=(n:Int))(b:as[n]?=some (some w))(c:w.1≠("thing" : Str)):BO ths as p=(("no" : Str),0):=by
 unfold BO;rw[Ak h,a,Bo,b];exact Ak c
def Zk{p:B8}{w k:Str×Int}(h:p.2.1≠("to" : Str))(a:p.2.2=(n:Int))(b:as[n]?=some (some w))(c:w.1=("thing" : Str))(d:w.2=(m:Int))(e:ths[m]?=some k):BO ths as p=Dr ths as k:=by
 unfold BO;rw[Ak h,a,Bo,b]
 show(if w.1=("thing" : Str) then _ else _)=_
 rw[Al c,d,Bo,e]
section
variable {X:Cx}
end
def FS (s q:Int) (p:Str×Int):Prop:=(p.1=("plain" : Str)/\p.2=0)\/(p.1=("part" : Str)/\0<=p.2/\p.2<s)\/(p.1=("sort" : Str)/\0<=p.2/\p.2<q)
def Fu (s q:Int) (p:B8):Prop:=(p.2.1=("to" : Str)/\0<=p.2.2/\p.2.2<s)\/(p.2.1=("by" : Str)/\0<=p.2.2/\p.2.2<q)
def Fv (t q:Int) (p:DO):Prop:=(p.2.2.1=("thing" : Str)/\0<=p.2.2.2/\p.2.2.2<t)\/(p.2.2.1=("by" : Str)/\0<=p.2.2.2/\p.2.2.2<q)
structure Fw (H:Hp) (S T R:Addr) (us Gs Es ts qt:List Addr) (ss:List Bk) (gs:List (Str×Int)) (qs:List Qu):Prop where
 sc:Df H S us Gs Es ss
 et:H T=some (.lst (ts.map V.ref))
 tg:GT H ts gs
 er:H R=some (.lst (qt.map V.ref))
 tq:QT H qt qs
def Fw.same{H H':Hp}{S T R:Addr}{us Gs Es ts a:List Addr}{ss:List Bk}{gs:List (Str×Int)}{qs:List Qu}(e:Ac H H')(h:Fw H S T R us Gs Es ts a ss gs qs):Fw H' S T R us Gs Es ts a ss gs qs:=
 ⟨h.sc.same e,e _ _ h.et,h.tg.same e,e _ _ h.er,h.tq.same e⟩
abbrev HL (ss:List Bk) (gs:List (Str×Int)) (qs:List Qu):Dt:=.tup [.lst (ss.map HK),.lst (gs.map GD),.lst (qs.map VO)]
def Fw.dt{K:Ah}{a S T R:Addr}{b:List Addr}(h:Fw H S T R us Gs Es ts b ss gs qs)(e:H a=some (.tup [.ref S,.ref T,.ref R])):Ar K H (.ref a) (HL ss gs qs):=
 .tup (Ap.of e) (.cons (.lst (Ae.of h.sc.top) h.sc.dts) (.cons (.lst (Ae.of h.et) h.tg.dts) (.cons (.lst (Ae.of h.er) h.tq.dts) .nil)))
def Jw(s r:Bk):Ed 4 (HK s) (HK r):=by
 refine .tup (.cons (.lst (By.of λd hd e a=>?_)) (.cons (.lst (By.of λd hd e a=>?_)) (.nil _)));obtain⟨p,_,rfl⟩:=A3.mp hd;obtain⟨q,_,rfl⟩:=A3.mp a;exact .tup (.cons (.str _ _) (.cons (.str _ _) (.cons (.int _ _) (.nil _))));obtain⟨p,_,rfl⟩:=A3.mp hd;obtain⟨q,_,rfl⟩:=A3.mp a;exact .tup (.cons (.str _ _) (.cons (.str _ _) (.cons (.str _ _) (.cons (.int _ _) (.nil _)))))
def Jx(ss b:List Bk)(gs c:List (Str×Int))(qs f:List Qu):Ed 6 (HL ss gs qs) (HL b c f):=by
 refine .tup (.cons (.lst (By.of λd hd e a=>?_)) (.cons (.lst (By.of λd hd e a=>?_)) (.cons (.lst (By.of λd hd e a=>?_)) (.nil _))));obtain⟨p,_,rfl⟩:=A3.mp hd;obtain⟨q,_,rfl⟩:=A3.mp a;exact Jw p q;obtain⟨p,_,rfl⟩:=A3.mp hd;obtain⟨q,_,rfl⟩:=A3.mp a;exact .tup (.cons (.str _ _) (.cons (.int _ _) (.nil _)));obtain⟨p,_,rfl⟩:=A3.mp hd;obtain⟨q,_,rfl⟩:=A3.mp a;refine .tup (.cons (.int _ _) (.cons (.int _ _) (.cons (.tup (By.of λd hd e a=>?_)) (.nil _))));obtain⟨p,_,rfl⟩:=A3.mp hd;obtain⟨q,_,rfl⟩:=A3.mp a;exact .str _ _
abbrev Jy (K:Ah):List V->Hp->VK->Prop:=λxs H Q=>∃p ys,xs=[V.ref p]/\(Ae K H p ys\/Ap K H p ys)/\∀l,H l=none->Q (V.ref l) (upd H l (HO.lst ys))
def Df.tell(h:Df H D us Gs Es ss)(q:(D::(Gs++Es)).Nodup){t:Addr}{p:DO}(g:i<ss.length)(b:Es[i]?=some E)(r:H E=some (.lst (ts.map V.ref)))(T:RT GX H ts ss[i].2)(v:H t=some (.tup (GX p))) :
 Df (upd H E (.lst (ts.map V.ref++[.ref t]))) D us Gs Es (ss.set i (ss[i].1,ss[i].2++[p])):=by
 have k:Keeps (·=E) H (upd H E (.lst (ts.map V.ref++[.ref t]))):=Keeps.one r;obtain⟨w,C⟩:=Gw.mp q;obtain⟨K,ne,F⟩:=List.nodup_append.mp C;have l:E∈Es:=Bl b;refine⟨k.at_ _ _ h.top λz=>w (z▸Dj _ l),by rw[F4];exact h.lu,by rw[F4];exact h.lg,by rw[F4];exact h.le,λj u G m s n f c d=>?_⟩;have o:G≠E:=λz=>F G (Bl f) E l z;by_cases e:i=j;subst e;rw[b] at c;cases c;rw[List.getElem?_set_self g] at d;cases d;obtain⟨a,⟨I,x,y⟩,_⟩:=h.at_ i u G E _ n f b (AC g);exact⟨k.tup a,⟨I,k.at_ _ _ x o,y.keeps k⟩,⟨ts++[t],by rw[Aa,Br];rfl,(T.keeps k).snoc (k.tup v)⟩⟩;rw[List.getElem?_set_ne e] at d
 have J:m≠E:=λz=>by
  subst z;obtain⟨L,A⟩:=A8.mp c;obtain⟨M,B⟩:=A8.mp b;exact e ((List.getElem_inj ne).mp (B.trans A.symm))
 exact(h.at_ j u G m s n f c d).keeps k o J
def KQ (K:Ah) (l:Addr):It:=
 ⟨λi H=>∃xs x,Ae K H l xs/\xs[i]?=some x,
  λi H v H'=>∃T x,H T=none/\v=.ref T/\H'=upd H T (.tup [.int i,x])/\∀xs,Ae K H l xs->xs[i]?=some x,
  λi H=>∃xs,Ae K H l xs/\xs.length<=i⟩
def L1 (e it l:Addr) (i:Nat) (h:Heap):Prop:=(∃old,IsEnum h e it i old)/\h.IsListIter it l i
variable {w:World}{l:Addr}
theorem Zl{af:Program}{K:Ah}{es:List Expr}{k:Nat}{e d:Addr}(aa:e≠d) :
 Fo af w K (.Tuple es k L) (KQ K l) [e,d] e (L1 e d l) where
 mem:=by simp
 obj:=λi h g b a=>by
  obtain⟨⟨C,f⟩,⟨o1,M,c1,d1⟩⟩:=g;simp at a;rcases a with rfl|rfl;exact⟨_,f,λv q=>by cases q⟩;exact⟨_,M,λv q=>by rw[d1] at q;cases q⟩
 keep:=λi h h' g Y=>by
  obtain⟨⟨C,f⟩,p⟩:=g;exact⟨⟨C,Y e (by simp) _ f⟩,p.at λo x=>Y d (by simp) o x⟩
 item:=by
  intro X N O P r i V s σ H E I B g Q;subst N O P;obtain⟨xs,x,J,Z⟩:=Q;obtain⟨⟨C,f⟩,p⟩:=g;obtain⟨au,U,R,ai⟩:=I.list J;obtain⟨F,aj,ak⟩:=U.get Z;refine wpAny_pyNext_enum_item f p R.isList (x:=F) (by simpa using aj) aa λh' a1 a2 a3 a4 hk=>?_;refine⟨_,rfl,wpAny_letOwnedTupleGo_enum (s:={s with heap:=h',toks:=s.toks+1}) a1 λD av W=>?_⟩;have t:=B e (by simp);have y:=B d (by simp);have G6:∀b u,H b=some u->b≠e/\b≠d:=λb u z=>⟨AK z t.1,AK z y.1⟩;have keep:∀b o,b≠e->b≠d->s.heap.get? b=some o->D.get? b=some o:=λb o G S z=>(W.2 b G).trans (hk b o G S z);have A:∀{b:Addr},b∉[e,d]->b≠e/\b≠d:=λ{b}a=>by simpa using a
  have I1:Inv X V σ H {s with heap:=D,toks:=s.toks+1}:=by
   refine I.step (g':=s.gens) (t':=s.toks+1) (d':=s.drawn) (h':=D) (ch:=[e,d]) (λb a=>?_) (λb j ζ ζ a z ζ=>keep b j (A a).1 (A a).2 z) (λb j ζ ζ a z ζ=>⟨j.slots,keep b j (A a).1 (A a).2 z⟩)
    (λζ ζ ζ ζ n=>n) (λb j a z=>⟨j,keep b j (A a).1 (A a).2 z⟩) (λζ ζ z=>z) (λζ ζ ζ z=>z) (λb ps z=>⟨#[],by rw[z];simp⟩) (λm hm=>?_) (λb u z=>?_) I.bare
   have:b=e\/b=d:=(by simpa using a);rcases this with rfl|rfl;exact⟨t.2.2.2.1,t.2.1,t.2.2.2.2.1,t.2.2.2.2.2⟩;exact⟨y.2.2.2.1,y.2.1,y.2.2.2.2.1,y.2.2.2.2.2⟩;obtain⟨o,es,ep,ho,ag⟩:=hm;exact⟨o,es,ep,keep _ o (Ne.symm t.2.1) (Ne.symm y.2.1) ho,ag⟩;refine(I.hok b u z).stay (λc v r q=>?_) (λζ q=>q) λζ ζ q=>q
   have al:∃T,H c=some T:=by
    rcases r with rfl|r;exact⟨_,z⟩;exact⟨_,r⟩
   obtain⟨T,e'⟩:=al;obtain⟨G,S⟩:=G6 c T e';exact keep c v G S q
  have an:s.heap.objs.size≠e:=Nat.ne_of_gt (A5 f);have ab:H s.heap.objs.size=none:=I.hok.fresh (AD _);have ae:D.get? s.heap.objs.size=some {cls:=.type "tuple",data:=.seq #[.int i s.toks,F]}:=(W.2 _ an).trans a3
  have I2:Inv X V σ (upd H s.heap.objs.size (.tup [.int i,x])) {s with heap:=D,toks:=s.toks+1}:=by
   refine I1.track (I.fpOk (AD _) ab) ⟨_,ae⟩ ?_;exact⟨by show 2<=sizeLine;decide,[.int i s.toks,F],.cons ⟨_,rfl⟩ (.cons ak .nil),⟨_,ae,rfl,_,rfl⟩⟩
  refine⟨.ref s.heap.objs.size,_,I2,rfl,⟨s.heap.objs.size,x,ab,rfl,rfl,λzs ao=>by rw[I.list_inj ao J];exact Z⟩,?_,λb a=>?_⟩;refine⟨⟨F,by simpa using av⟩,a2.extBut W.extBut (Ne.symm aa)⟩;have aq:=(B b a).1;rw[AE (λq=>?_)];exact aq;have ar:b=e\/b=d:=(by simpa using a);obtain⟨o1,M,_⟩:=p
  have lt:b<s.heap.objs.size:=by
   rcases ar with rfl|rfl;exact A5 f;exact A5 M
  rw[q] at lt;exact absurd lt (Gi _)
 done:=by
  intro X N O P r i V s σ H E I B g Q;subst N O P;obtain⟨xs,J,ay⟩:=Q;obtain⟨⟨C,f⟩,p⟩:=g;obtain⟨au,U,R,ai⟩:=I.list J;have ax:=U.length;obtain⟨f0,ah,aw,f3,f4,f5⟩:=B d (by simp);exact wpAny_pyNext_enum_end (I.ok.hd r) f p R.isList (by simp;lia) λh' eb=>⟨rfl,I.turned (t':=s.toks) (λb o a z=>eb b o a z) f0 ah f3 f4 f5⟩
 self:=λζ ζ ζ ζ ζ g h=>by
  obtain⟨⟨C,f⟩,_⟩:=g;exact wpAny_pyIter_enum f h
def Ox (K:Ah) (ta:TA):TI:=λσ H R=>ta σ H λvs Y=>∃l,vs=[.ref l]/\(∃xs,Y l=some (.lst xs))/\R (KQ K l) Y
def P0{X:Cx}{es:List Expr}{k:Nat}{j:Pos}{a:Expr}{f:TA}{p:Pos}(m:Gl X "enumerate")(o:X.mg "enumerate" = none)(r:PA X [a] f)(t:starEach [a] X.env=[(false,eval a X.env)]:=by rfl) :
 PI X (.Tuple es k j) (.Call (.Name "enumerate" p) [a] [] L) (Ox X.K f):=by
 intro G s σ H R I h;refine Call_ (IX I m o (u:=.type "enumerate") (by decide +kernel) (PyProof.Rows.callWith_type1 (AS (r L G s σ H _ I h) λus c⟨vs,Y,d,v,w⟩=>?_) (by rw[t];rfl) (by rfl)));obtain⟨l,rfl,⟨xs,x⟩,q⟩:=w;obtain⟨y,rfl,E⟩:=Fp v;obtain rfl:y=Value.ref l:=E;obtain⟨z,M,n,J,e⟩:=d.hok l _ x;have K:l<c.heap.objs.size:=A5 e;refine call_enumerate_1 e λA g B N C=>?_;refine wpAny_pyIter_enum (s:={c with heap:=A}) g ?_;refine⟨_,[c.heap.objs.size+1,c.heap.objs.size],_,_,Y,rfl,d.kept (t':=c.toks) C,Zl (Nat.succ_ne_self _),⟨⟨_,g⟩,B⟩,λb D=>?_,q⟩
 have i:c.heap.objs.size<=b:=by
  have F:b=c.heap.objs.size+1\/b=c.heap.objs.size:=(by simpa using D);rcases F with rfl|rfl;exact Nat.le_add_right _ _;exact AD _
 exact d.fpOk i (d.hok.fresh i)
def SQ{K:Ah}{tb:TS}{D:Ends}(Pv:Nat->St->Hp->Prop)(f:Pv 0 σ H)(h:∀i σ H,Pv i σ H->Ae K H l xs)
 (j:∀i x T σ H,xs[i]?=some x->H T=none->Pv i σ H->g (.ref T) σ (upd H T (.tup [.int i,x])) λσ2 a=>tb {D with nx:=Pv (i+1),ct:=Pv (i+1),bk:=D.nx} σ2 a) (hd:∀σ H,Pv xs.length σ H->D.nx σ H) :
 ∃W:Nat->Nat->St->Hp->Prop,(∃m,W 0 m σ H)/\∀i m σ H,W i m σ H ->
  ((KQ K l).stop i H/\D.nx σ H)\/((KQ K l).go i H/\∃N:St->Hp->Prop,(∀σ' H',N σ' H'->∃c,c<m/\W (i+1) c σ' H')/\∀x H',(KQ K l).yld i H x H'->g x σ H' λσ2 a=>tb {D with nx:=N,ct:=N,bk:=D.nx} σ2 a):=by
 refine⟨λi m σ H=>m=xs.length-i/\i<=xs.length/\Pv i σ H,⟨_,rfl,Cm _,f⟩,?_⟩;rintro i m σ H ⟨rfl,q,p⟩;have b:=h i σ H p;by_cases d:i<xs.length;refine .inr ⟨⟨xs,xs[i],b,by simp[d]⟩,Pv (i+1),λσ' H' k=>⟨xs.length-(i+1),by lia,rfl,d,k⟩,λv H' y=>?_⟩;obtain⟨T,x,n,rfl,rfl,o⟩:=y;exact j i x T σ H (o xs b) n p;have e:i=xs.length:=(by lia);refine .inl ⟨⟨xs,b,by lia⟩,?_⟩;rw[e] at p;exact hd σ H p
open PySem.SeqAt
open PySem.AutoSeq1 (wpAny_loadPart')
open PySem.MeetsSeq PySem.MeetsSeq2 PySem.MeetsSeq3
def B7 (A:Around) (s:Shared) (x y:Value) (b:Bool):Prop:=
 ∀(prog:Program)(w:World)(E:D')(Q:D'),Q (.bool b) s->wpAny (model prog w) A (richCompare .Lt x y) Q E s
inductive BM (A:Around) (s:Shared):List Value->List Value->Bool->Prop where
 |nil:BM A s [] [] false
 |lt (w:Value) (ws:List Value):BM A s [] (w::ws) true
 |gt (v:Value) (vs:List Value):BM A s (v::vs) [] false
 |eq {v w:Value} {vs ws:List Value} {b:Bool} (h:EqAt A s v w true) (t:BM A s vs ws b):BM A s (v::vs) (w::ws) b
 |ne {v w:Value} {vs ws:List Value} {b:Bool} (h:EqAt A s v w false) (l:B7 A s v w b):BM A s (v::vs) (w::ws) b
def Zm(l b:Addr)(f e:Array Value)(n C:Nat)(D K:Option Addr)(E L:Array (Option Value))(c:Bool) :
 Meets (Builtin.«tuple.__lt__» ⟨[.ref l,.ref b],[]⟩)
  (λA R s=>s.heap.get? l=some {cls:=.type "tuple",dict:=D,data:=.seq f n,slots:=E}/\s.heap.get? b=some {cls:=.type "tuple",dict:=K,data:=.seq e C,slots:=L} /\
   BM A.in1 s f.toList e.toList c/\R (.ok (.ret (.bool c))) s):=
 .of_wp λu w A R s h=>by
  obtain⟨v,g,d,tk,z⟩:=s;obtain⟨F,G,i,h⟩:=h;have N:=AutoSeq1.sub_tuple_tuple
  wp_walk using wpAny_loadPart' F,wpAny_loadPart' G,wpAny_forIn_list _ (λj b Z=>b.1=none/\Z=⟨v,g,d,tk,z⟩/\∃(vs k:List Value),j=vs.zip k /\
   BM A.in1 ⟨v,g,d,tk,z⟩ vs k c/\vs.length+e.size=k.length+f.size) _
  case turn =>
   rintro⟨y,x⟩ j b Z ⟨q,rfl,vs,k,a,r,m⟩
   cases r with
   |nil=>rw[List.zip_nil_left] at a;cases a
   |lt=>rw[List.zip_nil_left] at a;cases a
   |gt=>rw[List.zip_nil_right] at a;cases a
   |eq o H =>
     rw[List.zip_cons_cons] at a;injection a with t B;injection t with p i;subst p i;simp only[El] at m;refine Ad (o u w _ _ ?_)
     wp_walk
     exact⟨rfl,rfl,_,_,B,H,by lia⟩
   |ne o I =>
     rw[List.zip_cons_cons] at a;injection a with t B;injection t with p i;subst p i;refine Ad (o u w _ _ ?_);have M:=I u w
     wp_walk using M
     exact⟨_,rfl,by simpa using h⟩
  case fin =>
   rintro⟨O,P⟩ Z ⟨q,rfl,vs,k,a,r,m⟩;simp only at q;subst q
   have J:c=decide (f.size<e.size):=by
    cases r with
    |nil =>
      simp only[Gx] at m;exact(Do (by lia)).symm
    |lt =>
      simp only[Gx,El] at m;exact(A7 (by lia)).symm
    |gt =>
      simp only[Gx,El] at m;exact(Do (by lia)).symm
    |eq=>rw[List.zip_cons_cons] at a;cases a
    |ne=>rw[List.zip_cons_cons] at a;cases a
   rw[J] at h
   wp_walk
   exact⟨_,rfl,by simpa [Builtin.Tuple.tupleCompareSizes] using h⟩
  case h =>
   exact⟨rfl,rfl,f.toList,e.toList,rfl,i,by simp[Nat.add_comm]⟩
def Zn(l b:Addr)(f e:Array Value)(n C:Nat)(D N:Option Addr)(E O:Array (Option Value))(c:Bool)(k:Nat) :
 ∀i:Nat,f.size-i=k->i<=f.size->i<=e.size->Meets (Builtin.«list.__eq__.loop» ⟨[.ref l,.ref b,rawInt i,rawInt 0],[]⟩)
  (λA R s=>s.heap.get? l=some {cls:=.type "list",dict:=D,data:=.seq f n,slots:=E}/\s.heap.get? b=some {cls:=.type "list",dict:=N,data:=.seq e C,slots:=O} /\
   BM A.in1 s (f.toList.drop i) (e.toList.drop i) c/\R (.ok (.ret (.bool c))) s):=by
 induction k with
 |zero =>
   intro i F G P q w A R s h;obtain⟨H,g,d,tk,I⟩:=s;obtain⟨j,m,a,h⟩:=h;have u:f.toList.drop i=[]:=by simp;lia
   rw[u] at a
   have v:c=decide (f.size<e.size):=by
    generalize o:e.toList.drop i=r at a;have x:=BJ List.length o;simp only[Ks,Array.length_toList] at x
    cases a with
    |nil=>simp only[Gx] at x;exact(Do (by lia)).symm
    |lt=>simp only[El] at x;exact(A7 (by lia)).symm
   wp_walk using wpAny_loadPart' j,wpAny_loadPart' m
   have p:f[((i:Nat):Int).toNat]?=none:=by simp;lia
   rw[p]
   wp_walk using wpAny_loadPart' j,wpAny_loadPart' m
   show R (.ok (.ret (.bool (decide (f.size<e.size))))) _;rw[<-v];exact h
 |succ k J =>
   intro i F G P q w A R s h;obtain⟨H,g,d,tk,I⟩:=s;obtain⟨j,m,a,h⟩:=h;have z:i<f.size:=(by lia);have p:f[((i:Nat):Int).toNat]?=some f[i]:=(by simp[z]);have u:f.toList.drop i=f[i]::f.toList.drop (i+1):=(by simp[M1,z]);rw[u] at a
   wp_walk using wpAny_loadPart' j,wpAny_loadPart' m
   by_cases B:i<e.size;have t:e[((i:Nat):Int).toNat]?=some e[i]:=(by simp[B]);have o:e.toList.drop i=e[i]::e.toList.drop (i+1):=(by simp[M1,B]);have K:((i:Int)+1)=((i+1:Nat):Int):=by push_cast;rfl
   rw[o] at a;rw[p,t]
   cases a with
   |eq y L =>
     refine Ad (y q w _ _ ?_)
     wp_walk
     rw[K]
     exact⟨plainId_quiet plain_eq_loop _,codeAny_builtin entry_eq_loop (by
      rw[Around.under_plainId plain_eq_loop _]
      exact J (i+1) (by lia) (by lia) (by lia) q w A R _ ⟨j,m,L,h⟩)⟩
   |ne y M =>
     refine Ad (y q w _ _ ?_);have Q:=M q w
     wp_walk using wpAny_loadPart' j,wpAny_loadPart' m
     rw[p,t]
     wp_walk using Q
     exact h
   have t:e[((i:Nat):Int).toNat]?=none:=by simp;lia
   have o:e.toList.drop i=[]:=by simp;lia
   rw[o] at a
   have v:c=decide (f.size<e.size):=by
    cases a;exact(Do (by lia)).symm
   rw[p,t]
   wp_walk using wpAny_loadPart' j,wpAny_loadPart' m
   show R (.ok (.ret (.bool (decide (f.size<e.size))))) _;rw[<-v];exact h
def VQ(l b:Addr)(f e:Array Value)(n a:Nat)(i o:Option Addr)(j p:Array (Option Value))(c:Bool) :
 Meets (Builtin.«list.__lt__» ⟨[.ref l,.ref b],[]⟩)
  (λA R s=>s.heap.get? l=some {cls:=.type "list",dict:=i,data:=.seq f n,slots:=j}/\s.heap.get? b=some {cls:=.type "list",dict:=o,data:=.seq e a,slots:=p} /\
   BM A.in1 s f.toList e.toList c/\R (.ok (.ret (.bool c))) s):=by
 intro r w A R s h;obtain⟨t,g,d,tk,u⟩:=s;obtain⟨k,m,q,h⟩:=h;have v:=AutoSeq1.sub_list_list
 wp_walk using wpAny_loadPart' k,wpAny_loadPart' m
 exact⟨plainId_quiet plain_eq_loop _,codeAny_builtin entry_eq_loop (by
  rw[Around.under_plainId plain_eq_loop _]
  exact Zn l b f e n a i o j p c _ 0 rfl (Cm _) (Cm _) r w A R _ ⟨k,m,by simpa using q,h⟩)⟩
section
variable {A:Around} {s:Shared}
variable {b:Addr}{f e:Array Value}
def B7.tuples{c:Bool}(k:IsTup s.heap l f)(m:IsTup s.heap b e)(o:BM A.in1 s f.toList e.toList c)(p:A.units<cLine):B7 A s (.ref l) (.ref b) c:=λz w E Q h=>by
 obtain⟨⟨y,q,B,r⟩,a,d,n,hd⟩:=id k;obtain⟨⟨C,u,data2,v⟩,g,i,t,j⟩:=id m;simp only at d hd i j;subst d hd i j
 exact richCompare_meets_room (op:=.Lt) ⟨_,a,rfl⟩ ⟨_,g,rfl⟩ PySem.F.slot_tuple_lt PySem.F.entry_tuple_lt (PySem.F.args_tuple_lt_2 _ _) (Zm l b f e n t q u r v c)
  ⟨a,g,o,show Value.bool c≠Value.notImplemented/\Q (.bool c) s from⟨(λx=>nomatch x),h⟩⟩ p
def B7.lists{c:Bool}(k:s.heap.IsList l f)(m:s.heap.IsList b e)(o:BM A.in1 s f.toList e.toList c)(p:A.units<cLine):B7 A s (.ref l) (.ref b) c:=λz w E Q h=>by
 obtain⟨⟨y,q,B,r⟩,a,d,n,hd⟩:=id k;obtain⟨⟨C,u,data2,v⟩,g,i,t,j⟩:=id m;simp only at d hd i j;subst d hd i j
 exact richCompare_meets_room (op:=.Lt) ⟨_,a,rfl⟩ ⟨_,g,rfl⟩ PySem.F.slot_list_lt PySem.F.entry_list_lt (PySem.F.args_list_lt_2 _ _) (VQ l b f e n t q u r v c)
  ⟨a,g,o,show Value.bool c≠Value.notImplemented/\Q (.bool c) s from⟨(λx=>nomatch x),h⟩⟩ p
def VR{prog:Program}{E:D'}{c:Bool}{Q:Bool->Shared->Prop}(j:s.heap.IsList l f)(k:s.heap.IsList b e)(m:BM A.in1 s f.toList e.toList c)(o:A.units<cLine)(h:Q c s) :
 wpAny (model prog w) A (oneLt' true (.ref l) (.ref b)) Q E s:=by
 obtain⟨⟨x,p,y,q⟩,a,d,n,hd⟩:=id j;obtain⟨⟨z,t,data2,u⟩,v,g,r,i⟩:=id k;simp only at d hd g i;subst d hd g i;rw[oneLt'_eq];simp only[if_true];refine Ad (wpAny_cRoomFor o ?_);refine Ad (wpAny_callSpecialIfBound?_slot (T:= "list") ⟨_,a,rfl⟩ PySem.F.slot_list_lt (call_meets PySem.F.slot_list_lt ⟨_,a,rfl⟩ PySem.F.entry_list_lt (PySem.F.args_list_lt_2 _ _) (VQ l b f e n r p t q u c) ⟨a,v,m,?_⟩));exact FI h
end
def E2 (O:KeyOrd):List O.α->List O.α->Bool
 |[],[]=>false
 |[],_::_=>true
 |_::_,[]=>false
 |x::xs,y::ys=>O.blt x y || (!O.blt y x && E2 O xs ys)
def L3(O:KeyOrd)(x y:O.α)(xs ys:List O.α):E2 O (x::xs) (y::ys)=(O.blt x y || (!O.blt y x && E2 O xs ys)):=rfl
theorem VS(O:KeyOrd):∀xs,E2 O xs xs=false
 |[]=>rfl
 |x::xs=>by rw[L3,O.irrefl,VS O xs];rfl
theorem VT(O:KeyOrd):∀xs ys zs,E2 O xs ys=true->E2 O ys zs=true->E2 O xs zs=true
 |[],[],_,h,_=>by cases h
 |[],_::_,[],_,k=>by cases k
 |[],_::_,_::_,_,_=>rfl
 |_::_,[],_,h,_=>by cases h
 |_::_,_::_,[],_,k=>by cases k
 |x::xs,y::ys,z::zs,a,b=>by
   rw[L3] at *;simp only[Bool.or_eq_true,Bool.and_eq_true,Bool.not_eq_true'] at a b ⊢
   rcases a with a|⟨a,c⟩<;>rcases b with b|⟨b,d⟩;exact .inl (O.trans _ _ _ a b);exact .inl (KeyOrd.klt_of_klt_of_kle a b);exact .inl (KeyOrd.klt_of_kle_of_klt a b);exact .inr ⟨KeyOrd.kle_trans (O:=O) a b,VT O xs ys zs c d⟩
theorem VU(O:KeyOrd):∀xs ys zs,E2 O xs zs=true->E2 O xs ys=true\/E2 O ys zs=true
 |[],[],[],h=>by cases h
 |[],[],_::_,_=>.inr rfl
 |[],_::_,_,_=>.inl rfl
 |_::_,_,[],h=>by cases h
 |_::_,[],_::_,_=>.inr rfl
 | x :: xs,y :: ys,z :: zs,h=>by
   rw[L3] at *;rw[L3];simp only[Bool.or_eq_true,Bool.and_eq_true,Bool.not_eq_true'] at h ⊢
   rcases h with h|⟨h,k⟩;rcases O.negTrans _ y _ h with h|h;exact .inl (.inl h);exact .inr (.inl h)
   cases b:O.blt x y with
   |true=>exact .inl (.inl rfl)
   |false =>
     cases c:O.blt y z with
     |true=>exact .inr (.inl rfl)
     |false =>
       have d:O.kle y x:=b;have e:O.kle z y:=c;have a:O.kle x z:=h;have f:O.blt y x=false:=KeyOrd.kle_trans (O:=O) a e;have g:O.blt z y=false:=KeyOrd.kle_trans (O:=O) d a;rcases VU O xs ys zs k with k|k;exact .inl (.inr ⟨f,k⟩);exact .inr (.inr ⟨g,k⟩)
theorem VV(O:KeyOrd):∀xs ys,E2 O xs ys=false->E2 O ys xs=false->xs=ys
 |[],[],_,_=>rfl
 |[],_::_,h,_=>by cases h
 |_::_,[],_,k=>by cases k
 |x::xs,y::ys,a,b=>by
   rw[L3] at a b;simp only[Bool.or_eq_false_iff,Bool.and_eq_false_iff,Bool.not_eq_false'] at a b;have c:x=y:=O.total _ _ a.1 b.1;have d:xs=ys:=VV O xs ys (by rcases a.2 with z|z;exact absurd (b.1.symm.trans z) (by simp);exact z) (by rcases b.2 with z|z;exact absurd (a.1.symm.trans z) (by simp);exact z);rw[c,d]
@[reducible] def Oy (O:KeyOrd):KeyOrd where
 α:=List O.α
 blt:=E2 O
 irrefl:=VS O
 trans:=VT O
 negTrans:=VU O
 total:=VV O
def Ni{P:KeyOrd}(x y:(BN O P).α)(e:x.1=y.1):(BN O P).blt x y=P.blt x.2 y.2:=by
 show(O.blt x.1 y.1 || (!O.blt y.1 x.1 && P.blt x.2 y.2))=_;rw[e,O.irrefl];rfl
def Nj{P:KeyOrd}(x y:(BN O P).α)(e:x.1≠y.1):(BN O P).blt x y=O.blt x.1 y.1:=by
 show(O.blt x.1 y.1 || (!O.blt y.1 x.1 && P.blt x.2 y.2))=_
 cases a:O.blt x.1 y.1 with
 |true=>rfl
 |false =>
   cases b:O.blt y.1 x.1 with
   |true=>rfl
   |false=>exact absurd (O.total _ _ a b) e
def Zo(x:O.α)(xs ys:List O.α):E2 O (x::xs) (x::ys)=E2 O xs ys:=by
 rw[L3,O.irrefl];rfl
def Zp{x y:O.α}(xs ys:List O.α)(e:x≠y):E2 O (x::xs) (y::ys)=O.blt x y:=by
 rw[L3]
 cases a:O.blt x y with
 |true=>rfl
 |false =>
   cases b:O.blt y x with
   |true=>rfl
   |false=>exact absurd (O.total _ _ a b) e
mutual
theorem Ed.mono {n m:Nat}{d e:Dt} (c:Ed n d e) (h:n<=m):Ed m d e:=by
 cases c with
 | non=>exact .non
 | bl a b=>exact .bl a b
 | int a b=>exact .int a b
 | str a b=>exact .str a b
 | tup t=>cases m with
   | zero=>exact absurd h (Nat.not_succ_le_zero _)
   | succ m=>exact .tup (By.mono t (Nat.le_of_succ_le_succ h))
 | lst t=>cases m with
   | zero=>exact absurd h (Nat.not_succ_le_zero _)
   | succ m=>exact .lst (By.mono t (Nat.le_of_succ_le_succ h))
 | apart a=>cases m with
   | zero=>exact absurd h (Nat.not_succ_le_zero _)
   | succ m=>exact .apart a
theorem By.mono {n m:Nat}{a es:List Dt} (c:By n a es) (h:n<=m):By m a es:=by
 cases c with
 | nil=>exact .nil _
 | nil'=>exact .nil' _
 | cons c t=>exact .cons (Ed.mono c h) (By.mono t h)
end
structure Enc where
 O:KeyOrd
 D:O.α->Dt
 dflt:O.α
 dep:Nat
 cmp:∀a b,Ed dep (D a) (D b)
 inj:∀a b,D a=D b->a=b
 lt:∀{X:Cx}{pins:B'}{σ:St}{H:Hp}{s:Shared},Inv X pins σ H s->∀{a b:O.α}{v u:V}{x y:Value}{A:Around},Ar X.K H v (D a)->Ar X.K H u (D b)->RelV v x->RelV u y->A.units+dep<cLine->B7 A s x y (O.blt a b)
section
variable {X:Cx} {pins:B'} {σ:St} {H:Hp} {s:Shared}
def Enc.eq(c:Enc)(I:Inv X pins σ H s){a b:c.O.α}{u:V}{x y:Value}{A:Around}(hv:Ar X.K H v (c.D a))(d:Ar X.K H u (c.D b))(e:RelV v x)(f:RelV u y)(g:A.units+c.dep<cLine):EqAt A s x y (dec (a=b)):=by
 have:=VE (A:=A) I (c.cmp a b) hv d e f g
 rwa [Ng (p:=c.D a=c.D b) (q:=a=b) ⟨c.inj a b,λz=>by rw[z]⟩] at this
def Enc.lex(c:Enc)(I:Inv X pins σ H s){a b:c.O.α}{u:V}{x y:Value}{A:Around}{vs ws:List Value}{e f:Bool}(hv:Ar X.K H v (c.D a))(h:Ar X.K H u (c.D b))(i:RelV v x)(j:RelV u y)(k:A.units+c.dep<cLine)(l:a=b->BM A s vs ws e/\f=e)(m:a≠b->f=c.O.blt a b):BM A s (x::vs) (y::ws) f:=by
 have d:=c.eq (A:=A) I hv h i j k;by_cases g:a=b;rw[Fs g] at d;obtain⟨t,rfl⟩:=l g;exact .eq d t;rw[Gb g] at d;rw[m g];exact .ne d (c.lt I hv h i j k)
end
@[reducible] def FU:Enc where
 O:=Jq
 D:=Dt.int
 dflt:=(0:Int)
 dep:=0
 cmp a b:=.int a b
 inj a b h:=Dt.int.inj h
 lt {X pins σ H s} I {a b v u x y A} hv hu rx ry _:=by
  cases hv;cases hu;obtain⟨t,rfl⟩:=rx;obtain⟨t',rfl⟩:=ry;exact λprog w E Q h=>(PySem.P.lt_int h:wpAny (model prog w) _ (compareOp .Lt _ _) Q E _)
@[reducible] def SS:Enc where
 O:=Dd
 D:=Dt.str
 dflt:=(default:Str)
 dep:=0
 cmp a b:=.str a b
 inj a b h:=Dt.str.inj h
 lt {X pins σ H s} I {a b v u x y A} hv hu rx ry _:=by
  cases hv;cases hu;obtain⟨t,rfl⟩:=rx;obtain⟨t',rfl⟩:=ry;exact λprog w E Q h=>(PySem.P.lt_str h:wpAny (model prog w) _ (compareOp .Lt _ _) Q E _)
section
variable {X:Cx} {pins:B'} {σ:St} {H:Hp} {s:Shared}
def Enc.lexL(c:Enc)(I:Inv X pins σ H s){A:Around}(j:A.units+c.dep<cLine):∀{as bs:List c.O.α}{vs us:List V}{xs ys:List Value},Aj X.K H vs (as.map c.D)->Aj X.K H us (bs.map c.D)->As vs xs->As us ys->BM A s xs ys (E2 c.O as bs):=by
 intro as
 induction as with
 |nil =>
   intro bs vs us xs ys g d i f;cases g;cases i
   cases bs with
   |nil=>cases d;cases f;exact .nil
   |cons b bs=>cases d;cases f;exact .lt _ _
 |cons a as k =>
   intro bs vs us xs ys g d i f
   cases g with
   |cons h t=>cases i with
     |cons r q=>cases bs with
       |nil=>cases d;cases f;exact .gt _ _
       |cons b bs=>cases d with
         |cons l m=>cases f with
           |cons n o=>exact c.lex I h l r n j (λe=>⟨k t m q o,by subst e;exact Zo a as bs⟩) (λe=>Zp as bs e)
end
theorem VW(c:Enc):∀{a b:List c.O.α},a.map c.D=b.map c.D->a=b
 |[],[],_=>rfl
 |[],_::_,h=>by cases h
 |_::_,[],h=>by cases h
 |x::a,y::b,h=>by
   rw[D9,D9] at h;injection h with d e;rw[c.inj x y d,VW c e]
@[reducible] def Eu (c:Enc):Enc where
 O:=Oy c.O
 D l:=Dt.lst (l.map c.D)
 dflt:=([]:List c.O.α)
 dep:=c.dep+1
 cmp a b:=.lst (By.of λd hd e he=>by
  obtain⟨x,_,rfl⟩:=A3.mp hd;obtain⟨y,_,rfl⟩:=A3.mp he
  exact c.cmp x y)
 inj a b h:=VW c (Dt.lst.inj h)
 lt {X pins σ H s} I {a b v u x y A} hv hu rx ry hA:=by
  cases hv with
  |lst h t =>
    cases hu with
    |lst h' t' =>
      cases rx;cases ry;obtain⟨its,r,p,_⟩:=I.list h;obtain⟨its',r',p',_⟩:=I.list h';exact B7.lists p.isList p'.isList (c.lexL (A:=A.in1) I (by rw[HG];lia) t t' r r') (by lia)
def L4{K:Ah}{d e:Dt}(h:Aj K H vs [d,e]):∃a b,vs=[a,b]/\Ar K H a d/\Ar K H b e:=by
 cases h with
 |cons c t=>cases t with
   |cons f t=>cases t;exact⟨_,_,rfl,c,f⟩
def Oz{K:Ah}{d e f:Dt}(h:Aj K H vs [d,e,f]):∃a b c,vs=[a,b,c]/\Ar K H a d/\Ar K H b e/\Ar K H c f:=by
 cases h with
 |cons g t=>obtain⟨a,b,rfl,i,j⟩:=L4 t;exact⟨_,_,_,rfl,g,i,j⟩
def HM{x y z:V}{us:List Value}(r:As [x,y,z] us):∃u w v,us=[u,w,v]/\RelV x u/\RelV y w/\RelV z v:=by
 cases r with
 |cons c d=>obtain⟨a,b,rfl,e,f⟩:=Jd d;exact⟨_,_,_,rfl,c,e,f⟩
@[reducible] def L5 (c d:Enc):Enc where
 O:=BN c.O d.O
 D p:=Dt.tup [c.D p.1,d.D p.2]
 dflt:=(c.dflt,d.dflt)
 dep:=max c.dep d.dep+1
 cmp a b:=.tup (.cons ((c.cmp a.1 b.1).mono (Nat.le_max_left _ _)) (.cons ((d.cmp a.2 b.2).mono (Nat.le_max_right _ _)) (.nil _)))
 inj a b h:=by
  injection h with h;injection h with h1 h2;injection h2 with h2 _;exact Prod.ext (c.inj _ _ h1) (d.inj _ _ h2)
 lt {X pins σ H s} I {a b v u x y A} hv hu rx ry hA:=by
  have m1:=Nat.le_max_left c.dep d.dep;have m2:=Nat.le_max_right c.dep d.dep
  cases hv with
  |tup h t =>
    cases hu with
    |tup h' t' =>
      cases rx;cases ry;obtain⟨its,r,p,_⟩:=I.tuple h;obtain⟨its',r',p',_⟩:=I.tuple h';obtain⟨v1,v2,rfl,t1,t2⟩:=L4 t;obtain⟨u1,u2,rfl,s1,s2⟩:=L4 t';obtain⟨x1,x2,rfl,r1,r2⟩:=Jd r;obtain⟨y1,y2,rfl,q1,q2⟩:=Jd r';refine B7.tuples p p' (c.lex (A:=A.in1) I t1 s1 r1 q1 (by rw[HG];lia) (λe=>⟨d.lex (A:=A.in1) I t2 s2 r2 q2 (by rw[HG];lia) (λe'=>⟨.nil,?_⟩) λe'=>rfl,Ni a b e⟩) λe=>Nj a b e) (by lia);rw[e',d.O.irrefl]
@[reducible] def KR (c d e:Enc):Enc where
 O:=BN c.O (BN d.O e.O)
 D p:=Dt.tup [c.D p.1,d.D p.2.1,e.D p.2.2]
 dflt:=(c.dflt,d.dflt,e.dflt)
 dep:=max c.dep (max d.dep e.dep)+1
 cmp a b:=.tup (.cons ((c.cmp a.1 b.1).mono (Nat.le_max_left _ _)) (.cons ((d.cmp a.2.1 b.2.1).mono (by lia)) (.cons ((e.cmp a.2.2 b.2.2).mono (by lia)) (.nil _))))
 inj a b h:=by
  injection h with h;injection h with h1 h2;injection h2 with h2 h3;injection h3 with h3 _;exact Prod.ext (c.inj _ _ h1) (Prod.ext (d.inj _ _ h2) (e.inj _ _ h3))
 lt {X pins σ H s} I {a b v u x y A} hv hu rx ry hA:=by
  have m1:=Nat.le_max_left c.dep (max d.dep e.dep);have m2:=Nat.le_max_right c.dep (max d.dep e.dep);have m3:=Nat.le_max_left d.dep e.dep;have m4:=Nat.le_max_right d.dep e.dep
  cases hv with
  |tup h t =>
    cases hu with
    |tup h' t' =>
      cases rx;cases ry;obtain⟨its,r,p,_⟩:=I.tuple h;obtain⟨its',r',p',_⟩:=I.tuple h';obtain⟨v1,v2,v3,rfl,t1,t2,t3⟩:=Oz t;obtain⟨u1,u2,u3,rfl,s1,s2,s3⟩:=Oz t';obtain⟨x1,x2,x3,rfl,r1,r2,r3⟩:=HM r;obtain⟨y1,y2,y3,rfl,q1,q2,q3⟩:=HM r';refine B7.tuples p p' (c.lex (A:=A.in1) I t1 s1 r1 q1 (by rw[HG];lia) (λg=>⟨d.lex (A:=A.in1) I t2 s2 r2 q2 (by rw[HG];lia) (λg'=>⟨e.lex (A:=A.in1) I t3 s3 r3 q3 (by rw[HG];lia) (λg''=>⟨.nil,?_⟩) λζ=>rfl,Ni a.2 b.2 g'⟩) λg'=>Nj a.2 b.2 g',Ni a b g⟩) λg=>Nj a b g) (by lia);rw[g'',e.O.irrefl]
section
variable {X:Cx}
abbrev DR (c:Enc):Type:=V×c.O.α
def P1 (X:Cx) (c:Enc):List V->Hp->VK->Prop:=λvs H Q=>∃(l:Addr)(zs:List (DR c)),vs=[.ref l]/\Ae X.K H l (zs.map (·.1))/\zs.length<64 /\
 (∀z∈zs,Ar X.K H z.1 (c.D z.2))/\∀(D:Addr)(zs':List (DR c)),zs'.Perm zs->(zs'.map (·.2)).Pairwise c.O.kle->H D=none->Q (.ref D) (upd H D (.lst (zs'.map (·.1))))
theorem SU(c:Enc)(κ:SortKind)
 (aj:∀(pins:B')(σ:St)(H:Hp)(s:Shared)(zs:List (DR c))(g:List Value)(Q:SortKind->Shared->Prop),Inv X pins σ H s->As (zs.map (·.1)) g->(∀z∈zs,Ar X.K H z.1 (c.D z.2))->2<=g.length->Q κ s->wpAny (model X.prog X.w) X.A.in1.in1 (keyKind' g.toArray) Q (λζ ζ=>False) s)
 (ai:∀(pins:B')(σ:St)(H:Hp)(s:Shared)(z m:DR c)(x y:Value)(C:Bool->Shared->Prop),Inv X pins σ H s->Ar X.K H z.1 (c.D z.2)->Ar X.K H m.1 (c.D m.2)->RelV z.1 x->RelV m.1 y->C (c.O.blt z.2 m.2) s->wpAny (model X.prog X.w) X.A.in1.in1 (keyLt' κ x y) C (λζ ζ=>False) s) :
 Ba X (.builtin "sorted") (P1 X c):=by
 intro pins s σ H vs us Q I r h;obtain⟨l,zs,rfl,L,an,v,q⟩:=h;obtain⟨u,rfl,M⟩:=Fp r;obtain rfl:u=Value.ref l:=M;obtain⟨g,p,N,_⟩:=I.list L;have J:zs.length=g.length:=by have:=p.length;rwa [An] at this
 let b:DR c:=(V.non,c.dflt)
 have t:∀i,i<zs.length->RelV (zs.getD i b).1 (g.getD i Value.none)/\Ar X.K H (zs.getD i b).1 (c.D (zs.getD i b).2):=λi d=>by
  have:=Ot p i V.non Value.none (by rw[An];exact d)
  have e:(zs.map (·.1)).getD i V.non=(zs.getD i b).1:=by
   rw[B0,Bh,B0,AC d];rfl
  rw[e] at this;refine⟨this,v _ ?_⟩;rw[B0,AC d];exact Ep d
 refine SK (O:=c.O) (key:=λi=>(zs.getD i b).2) (κ:=κ) (vs:=g) N.isList (by lia) (λo w k P R=>?_) (λw k i j C d hj S=>?_) λD w n f T A G ae U=>?_;exact aj pins σ H _ zs g P (I.kept (t':=s.toks) k) p v o R;obtain⟨W,Y⟩:=t i (by lia);obtain⟨Z,b2⟩:=t j (by lia);unfold PySem.W.kas_ask;exact ai pins σ H _ _ _ _ _ C (I.kept (t':=s.toks) k) Y b2 W Z S
 have af:∀i∈f,i<zs.length:=λi d=>by
  have:=G.mem_iff.mp d;rw[J];simpa using this
 have ak:(List.range zs.length).map (λi=>zs.getD i b)=zs:=by
  apply List.ext_getElem?;intro k;by_cases B:k<zs.length;simp[B,B0];simp[B]
 have K:(f.map λi=>zs.getD i b).Perm zs:=by
  have:=G.map (λi=>zs.getD i b)
  rwa [<-J,ak] at this
 have hv:As ((f.map λi=>zs.getD i b).map (·.1)) (f.map λi=>g.getD i Value.none):=by
  rw[DK];exact PV f λi d=>(t i (af i d)).1
 have ag:((f.map λi=>zs.getD i b).map (·.2)).Pairwise c.O.kle:=by
  refine PU (λζ ζ ζ=>KeyOrd.kle_trans) _ λi a al E o=>?_;rw[DK,Bh,EX] at E o;obtain⟨x,e1,rfl⟩:=E;obtain⟨y,F,rfl⟩:=o;obtain⟨ah,_⟩:=A8.mp F;have:=ae i ah;have aa:f.getD i 0=x:=by rw[B0,e1];rfl
  have ab:f.getD (i+1) 0=y:=by rw[B0,F];rfl
  rw[aa,ab] at this;exact this
 exact⟨.ref D,upd H D (.lst ((f.map λi=>zs.getD i b).map (·.1))),I.laidN (t':=s.toks) T A ⟨by rw[An,K.length_eq];exact Dm (BK (by lia)),_,n,hv,U⟩,rfl,q D _ K ag (I.freshN A)⟩
def SV{pins:B'}{s:Shared}{M:Model}(I:Inv X pins σ H s){a:List Dt}{x:Value}(h:Ar X.K H v (.lst a))(r:RelV v x):PySem.W.Looks M s.heap (typeOf x) (.type "list"):=by
 cases h with
 |lst h t =>
   cases r;obtain⟨d,_,p,_⟩:=I.list h;obtain⟨o,b,c,_⟩:=p.isList;rw[<-c];exact(PySem.W.Looks.ld b).andThen .now
def Zq(c:Enc)(J:X.A.units+64<cLine)(hd:c.dep<=50):Ba X (.builtin "sorted") (P1 X (Eu c)):=by
 refine SU (Eu c) oneType' (λG σ H s f E Q I b g j k=>?_) λG σ H s z l x y C I h a r m n=>?_;refine PySem.W.kas_kind (T:=.type "list") j (λv o=>?_) (by decide) (by decide) k;obtain⟨i,d⟩:=List.getElem?_of_mem o;have K:=(A8.mp d).1;have q:=b.length;rw[An] at q;obtain⟨x,e,w⟩:=b.get (i:=i) (x:=(f[i]'(by lia)).1) (by rw[Bh,AC (by lia)];rfl);rw[d] at e;cases e;exact SV I (g _ (Ep (by lia))) w;rw[keyLt'_oneType];obtain⟨v,as⟩:=z;obtain⟨u,bs⟩:=l
 cases h with
 |lst h t =>
   cases a with
   |lst a A =>
     cases r;cases m;obtain⟨E,B,p,_⟩:=I.list h;obtain⟨L,F,D,_⟩:=I.list a;exact VR p.isList D.isList (c.lexL I (by show _+1+1+1+_<_;lia) t A B F) (by show _+1+1<_;lia) n
theorem SW(c:Enc){pins:B'}{σ:St}{H:Hp}{s:Shared}(I:Inv X pins σ H s){g:c.O.α->List Dt}:∀{zs:List (V×c.O.α)}{f:List Value}{k:c.O.α->List Dt},As (zs.map (·.1)) f->(∀z∈zs,∃b,k z.2=Dt.lst b::g z.2/\Ar X.K H z.1 (.tup (k z.2))) ->
 ∃fs,PySem.W.KatTups s.heap f fs/\fs.length=zs.length/\∀v∈fs,∃(u:V)(b:List Dt),Ar X.K H u (.lst b)/\RelV u v
 |[],_,_,.nil,_=>⟨[],.nil,rfl,λζ x=>by cases x⟩
 | z :: zs,_,k,.cons r i,h=>by
   obtain⟨fs,j,l,m⟩:=SW c I (zs:=zs) i λy p=>h y (Co _ p);obtain⟨b,e,hd⟩:=h z BB;rw[e] at hd;obtain⟨v,a⟩:=z;dsimp only at r hd
   cases hd with
   | tup q t =>
     cases r;obtain⟨f,A,⟨o,B,C,n,D⟩,_⟩:=I.tuple q
     cases t with
     |cons E G =>
       cases A with
       |cons F J =>
         refine⟨_::fs,.cons B C D rfl j,by simp[l],λw d=>?_⟩;rcases Cj.mp d with e|d;exact⟨_,b,E,e▸F⟩;exact m w d
def SX{A:Around}{s:Shared}{prog:Program}{E:D'}{x y:Value}{b:Bool}{Q:Bool->Shared->Prop}(h:B7 A s x y b)(q:Q b s):wpAny (model prog w) A (oneLt' false x y) Q E s:=
 PySem.W.kat_one _ _ (h prog w E _ q)
def HN(c:Enc){pins:B'}{s:Shared}(I:Inv X pins σ H s){A:Around}{as bs:List c.O.α}{u:V}{x y:Value}{prog:Program}{E:D'}{Q:Bool->Shared->Prop}(h:Ar X.K H v ((Eu c).D as))(h':Ar X.K H u ((Eu c).D bs))(r:RelV v x)(a:RelV u y)(g:A.units+(c.dep+1)<cLine)(q:Q (E2 c.O as bs) s):wpAny (model prog w) A (oneLt' true x y) Q E s:=by
 cases h with
 |lst h t =>
   cases h' with
   |lst h' b =>
     cases r;cases a;obtain⟨i,d,p,_⟩:=I.list h;obtain⟨j,f,e,_⟩:=I.list h';exact VR p.isList e.isList (c.lexL I (by rw[HG];lia) t b d f) (by lia) q
def Zr (c d:Enc) (hu:X.A.units + 64 < cLine) (h1:c.dep<=50) (h2:d.dep<=50):Ba X (.builtin "sorted") (P1 X (L5 (Eu c) d)):=by
 refine SU (L5 (Eu c) d) (tuples' true) (λah σ H s zs Z ai I o M hl N=>?_) λah σ H s z O x aj C I h w r y a=>?_;obtain⟨fs,P,k2,Q⟩:=SW (L5 (Eu c) d) I (k:=λp=>[(Eu c).D p.1,d.D p.2]) (g:=λp=>[d.D p.2]) o λz aa=>⟨_,rfl,M z aa⟩;have ab:=o.length;rw[An] at ab;refine PySem.W.kat_kind (T:=.type "list") P (by lia) (λv R=>?_) (by decide) N;obtain⟨u,ds,S,U⟩:=Q v R;exact SV I S U;obtain⟨v,p⟩:=z;obtain⟨u,q⟩:=O;dsimp only at h w r y
 change C ((L5 (Eu c) d).O.blt p q) s at a
 have j:X.A.in1.in1.units=X.A.units+1+1:=rfl
 cases h with
 | tup V t =>
   cases w with
   | tup ae b =>
     cases r;cases y;obtain⟨Z,e,⟨ox,af,_,n,W⟩,_⟩:=I.tuple V;obtain⟨ak,f,⟨oy,ag,_,m,Y⟩,_⟩:=I.tuple ae
     cases t with
     | cons B t=>cases t with
       | cons D t=>cases t; cases b with
         | cons E b=>cases b with
           | cons F b=>cases b; cases e with
             |cons G e=>cases e with
               |cons J e=>cases e; cases f with
                 |cons K f=>cases f with
                   |cons L f =>
                     cases f;refine PySem.W.kat_lt af W ag Y (PySem.W.kat_cons ((Eu c).eq (A:=X.A.in1.in1) I B E G K (by rw[j];show _+(c.dep+1)<_;lia) _ _ _ _ ?_));by_cases i:p.1=q.1;rw[Fs i]
                     rw[show(L5 (Eu c) d).O.blt p q=d.O.blt p.2 q.2 from Ni p q i] at a;refine PySem.W.kat_yes (PySem.W.kat_cons (d.eq (A:=X.A.in1.in1) I D F J L (by rw[j];lia) _ _ _ _ ?_))
                     by_cases l:p.2=q.2;rw[Fs l];refine PySem.W.kat_yes (PySem.W.kat_nil ?_);rw[l,d.O.irrefl] at a;exact a;rw[Gb l];exact PySem.W.kat_no (SX (d.lt I D F J L (by rw[j];lia)) a);rw[Gb i]
                     rw[show(L5 (Eu c) d).O.blt p q=E2 c.O p.1 q.1 from Nj p q i] at a;exact PySem.W.kat_no (HN c I B E G K (by rw[j];lia) a)
def Zs (c d e:Enc) (hu:X.A.units + 64 < cLine) (h1:c.dep<=50) (h2:d.dep<=50) (h3:e.dep<=50):Ba X (.builtin "sorted") (P1 X (KR (Eu c) d e)):=by
 refine SU (KR (Eu c) d e) (tuples' true) (λai σ H s zs aa aj I y S hl U=>?_) λai σ H s z V x ak C I h B r D a=>?_;obtain⟨fs,W,k2,Y⟩:=SW (KR (Eu c) d e) I (k:=λp=>[(Eu c).D p.1,d.D p.2.1,e.D p.2.2]) (g:=λp=>[d.D p.2.1,e.D p.2.2]) y λz ab=>⟨_,rfl,S z ab⟩;have ae:=y.length;rw[An] at ae;refine PySem.W.kat_kind (T:=.type "list") W (by lia) (λv Z=>?_) (by decide) U;obtain⟨u,ds,a1,a2⟩:=Y v Z;exact SV I a1 a2;obtain⟨v,p⟩:=z;obtain⟨u,q⟩:=V;dsimp only at h B r D
 change C ((KR (Eu c) d e).O.blt p q) s at a
 have j:X.A.in1.in1.units=X.A.units+1+1:=rfl
 cases h with
 | tup hs t =>
   cases B with
   | tup af b =>
     cases r;cases D;obtain⟨aa,f,⟨ox,ag,_,n,dx⟩,_⟩:=I.tuple hs;obtain⟨al,i,⟨oy,ah,_,m,dy⟩,_⟩:=I.tuple af
     cases t with
     | cons E t=>cases t with
       | cons F t=>cases t with
         | cons G t=>cases t; cases b with
           | cons J b=>cases b with
             | cons K b=>cases b with
               | cons L b=>cases b; cases f with
                 | cons M f=>cases f with
                   | cons N f=>cases f with
                     |cons O f=>cases f; cases i with
                       |cons P i=>cases i with
                         |cons Q i=>cases i with
                           |cons R i =>
                             cases i;refine PySem.W.kat_lt ag dx ah dy (PySem.W.kat_cons ((Eu c).eq (A:=X.A.in1.in1) I E J M P (by rw[j];show _+(c.dep+1)<_;lia) _ _ _ _ ?_));by_cases l:p.1=q.1;rw[Fs l]
                             rw[show(KR (Eu c) d e).O.blt p q=(BN d.O e.O).blt p.2 q.2 from Ni p q l] at a;refine PySem.W.kat_yes (PySem.W.kat_cons (d.eq (A:=X.A.in1.in1) I F K N Q (by rw[j];lia) _ _ _ _ ?_))
                             by_cases o:p.2.1=q.2.1;rw[Fs o]
                             rw[show(BN d.O e.O).blt p.2 q.2=e.O.blt p.2.2 q.2.2 from Ni p.2 q.2 o] at a;refine PySem.W.kat_yes (PySem.W.kat_cons (e.eq (A:=X.A.in1.in1) I G L O R (by rw[j];lia) _ _ _ _ ?_))
                             by_cases w:p.2.2=q.2.2;rw[Fs w];refine PySem.W.kat_yes (PySem.W.kat_nil ?_);rw[w,e.O.irrefl] at a;exact a;rw[Gb w];exact PySem.W.kat_no (SX (e.lt I G L O R (by rw[j];lia)) a);rw[Gb o]
                             rw[show(BN d.O e.O).blt p.2 q.2=d.O.blt p.2.1 q.2.1 from Nj p.2 q.2 o] at a;exact PySem.W.kat_no (SX (d.lt I F K N Q (by rw[j];lia)) a)
                             rw[Gb l]
                             rw[show(KR (Eu c) d e).O.blt p q=E2 c.O p.1 q.1 from Nj p q l] at a;exact PySem.W.kat_no (HN c I E J M P (by rw[j];lia) a)
end
def En:List (Str×Int)->Str->Option Int
 |[],_=>none
 |(y,n)::r,x=>if y=x then some n else En r x
def Ef:Option Int->V
 |some n=>.int n
 |none=>.non
theorem HP:∀{gs:List (Str×Int)}{i:Nat}{p:Str×Int}{x:Str},gs[i]?=some p->p.1=x->(∀q∈gs.take i,q.1≠x)->En gs x=some p.2
 |[],_,_,_,h,_,_=>by simp at h
 |q::r,0,p,x,h,e,_=>by
   simp at h;subst h;obtain⟨y,n⟩:=q;exact Al e
 |q::r,i+1,p,x,h,e,k=>by
   obtain⟨y,n⟩:=q;have a:y≠x:=k (y,n) (by simp);show(if y=x then some n else En r x)=_;rw[Ak a];exact HP (i:=i) (by simpa using h) e λq b=>k q (by simp[b])
theorem VX:∀{gs:List (Str×Int)}{x:Str},(∀q∈gs,q.1≠x)->En gs x=none
 |[],_,_=>rfl
 |(y,n)::r,x,k=>by
   show(if y=x then some n else En r x)=_;rw[Ak (k (y,n) (by simp))];exact VX λq a=>k q (by simp[a])
theorem SY:∀{gs:List (Str×Int)}{x:Str}{n:Int},En gs x=some n->(x,n)∈gs
 |[],_,_,h=>by cases h
 |(y,m)::r,x,n,h=>by
   have h':(if y=x then some m else En r x)=some n:=h
   by_cases e:y=x;rw[Al e] at h';rw[<-e,<-AO h'];exact BB;rw[Ak e] at h';exact Co _ (SY h')
abbrev Aq:Type:=Int×Str×Int
abbrev GY (m:Aq):List V:=[.int m.1,.str m.2.1,.int m.2.2]
abbrev AQ:Type:=List Aq×Int×Int
structure Wd where
 ss:List Bk
 gs:List (Str×Int)
 as:List (C')
 sts:List Cr
abbrev Gn:Type:=Aq×(Str×Int)×Int
def E3 (W:Wd) (sc:Int) (go:List (Str×Int)) (p:B8) (i:Nat):List Gn:=match En go p.1 with
 |some a=>[((sc,("step" : Str),(i:Int)),BO W.gs W.as p,a)]
 |none=>[]
def Eo (W:Wd) (sc:Int) (go:List (Str×Int)):List B8->Nat->List Gn
 |[],_=>[]
 |p::r,i=>E3 W sc go p i++Eo W sc go r (i+1)
def BY (W:Wd) (sc:Int):List B8:=match W.ss[sc.toNat]? with
 |some s=>s.1
 |none=>[]
def DX (W:Wd) (st:Int):List (Str×Int):=match W.sts[st.toNat]? with
 |some s=>s.1
 |none=>[]
def GG (W:Wd) (sc st:Int):List Gn:=Eo W sc (DX W st) (BY W sc) 0
theorem VY(W:Wd)(a:Int)(go:List (Str×Int))(p:B8):∀(l:List B8)(i:Nat),Eo W a go (l++[p]) i=Eo W a go l i++E3 W a go p (i+l.length)
 |[],i=>by simp[Eo]
 |q::l,i=>by
   show E3 W a go q i++Eo W a go (l++[p]) (i+1)=(E3 W a go q i++Eo W a go l (i+1))++_;rw[VY W a go p l (i+1),F5,El,show i+1+l.length=i+(l.length+1) by lia]
variable {W:Wd}{sc:Int}{r:Gn}
def E4{go:List (Str×Int)}{p:B8}:r∈E3 W sc go p i↔∃a,En go p.1=some a/\r=((sc,("step" : Str),(i:Int)),BO W.gs W.as p,a):=by
 unfold E3
 cases e:En go p.1 with
 |none=>simp
 |some a=>simp
theorem BP{W:Wd}{sc:Int}{go:List (Str×Int)}{r:Gn}:∀{l:List B8}{i:Nat},r∈Eo W sc go l i↔∃(j:Nat)(p:B8)(a:Int),l[j]?=some p/\En go p.1=some a/\r=((sc,("step" : Str),((i+j:Nat):Int)),BO W.gs W.as p,a)
 |[],i=>by simp[Eo]
 | q :: l,i=>by
   show r∈E3 W sc go q i++Eo W sc go l (i+1)↔_;rw[BI,E4,BP (l:=l) (i:=i+1)];constructor;rintro(⟨a,b,c⟩|⟨j,p,a,b,c,d⟩);exact⟨0,q,a,rfl,b,by rw[c];rfl⟩;exact⟨j+1,p,a,by simpa using b,c,by rw[d,show i+1+j=i+(j+1) by lia]⟩;rintro⟨j,p,a,b,c,d⟩
   cases j with
   |zero =>
     simp at b;subst b;exact .inl ⟨a,c,by rw[d];rfl⟩
   |succ j=>exact .inr ⟨j,p,a,by simpa using b,c,by rw[d,show i+1+j=i+(j+1) by lia]⟩
theorem VZ(W:Wd)(sc:Int)(go:List (Str×Int)):∀(l:List B8)(i:Nat),(Eo W sc go l i).Pairwise (λr b=>r.1≠b.1)
 |[],i=>List.Pairwise.nil
 |q::l,i=>by
   show(E3 W sc go q i++Eo W sc go l (i+1)).Pairwise _;refine List.pairwise_append.mpr ⟨?_,VZ W sc go l (i+1),λr c b d e=>?_⟩;unfold E3;split;exact List.pairwise_singleton _ _;exact List.Pairwise.nil;obtain⟨a,_,rfl⟩:=E4.mp c;obtain⟨j,p,f,_,_,rfl⟩:=BP.mp d;have:=BJ (λm:Aq=>m.2.2) e;simp only at this;lia
theorem L6(W:Wd)(sc:Int)(go:List (Str×Int)):∀(l:List B8)(i:Nat),(Eo W sc go l i).length<=l.length
 |[],i=>AD _
 |q::l,i=>by
   show(E3 W sc go q i++Eo W sc go l (i+1)).length<=_;have a:(E3 W sc go q i).length<=1:=by unfold E3;split<;>simp
   have b:=L6 W sc go l (i+1);rw[AY,El];lia
def V0{go:List (Str×Int)}{l:List B8}{b:Gn}(h:r∈Eo W sc go l i)(h':b∈Eo W sc go l i)(e:r.1=b.1):r=b:=by
 obtain⟨j,p,a,f,g,rfl⟩:=BP.mp h;obtain⟨k,o,q,c,d,rfl⟩:=BP.mp h';have:=BJ (λm:Aq=>m.2.2) e;simp only at this;have n:j=k:=(by lia);subst n;rw[f] at c;cases c;rw[g] at d;cases d;rfl
def AV (b:AQ):List Int:=b.1.map (·.1)++[b.2.1]
def kid (b:AQ) (r:Gn):Option AQ:=if r.2.1.1=("to" : Str)/\r.2.1.2∉AV b then some (b.1++[r.1],r.2.1.2,r.2.2) else none
def CA (W:Wd) (b:AQ):List AQ:=(GG W b.2.1 b.2.2).filterMap (kid b)
variable {b:AQ}
set_option tactic.hygienic true in
def AJ{c:AQ}:c∈CA W b↔∃r∈GG W b.2.1 b.2.2,r.2.1.1=("to" : Str)/\r.2.1.2∉AV b/\c=(b.1++[r.1],r.2.1.2,r.2.2):=by
 unfold CA kid;rw[List.mem_filterMap];constructor;rintro⟨r,a,e⟩;split at e;rename_i h;exact⟨r,a,h.1,h.2,(AO e).symm⟩;cases e;rintro⟨r,a,d,f,e⟩;exact⟨r,a,by rw[Al ⟨d,f⟩,e]⟩
def V1(W:Wd)(b:AQ):(CA W b).length<=(BY W b.2.1).length:=Em (List.length_filterMap_le _ _) (L6 _ _ _ _ _)
def Jz(W:Wd)(b:AQ):(CA W b).Nodup:=by
 refine List.Pairwise.filterMap (kid b) (λr g f c a h d e=>?_) (VZ W b.2.1 (DX W b.2.2) (BY W b.2.1) 0);unfold kid at a d;split at a;split at d;cases a;cases d;have:=BJ Prod.fst e;simp only at this;have:=(List.append_inj' this rfl).2;exact f (by simpa using this);cases d;cases a
inductive AR (W:Wd) (sc st:Int):AQ->Prop where
 |root:AR W sc st ([],sc,st)
 |kid {b c:AQ} (h:AR W sc st b) (k:c∈CA W b):AR W sc st c
structure B2 (W:Wd):Prop where
 s5:W.ss.length<=100
 st:∀s∈W.ss,s.1.length<=8
 kst:∀s∈W.ss,∀p∈s.1,Fu W.ss.length W.as.length p
 kth:∀p∈W.gs,FS W.ss.length W.as.length p
 an:∀p,some p∈W.as->p.1=("thing" : Str)->0<=p.2/\p.2<W.gs.length
 go:∀s∈W.sts,∀p∈s.1,0<=p.2/\p.2<W.sts.length
 few:∀(sc st:Int)(F:List AQ),(0<=sc/\sc<W.ss.length)->(0<=st/\st<W.sts.length)->F.Nodup->(∀b∈F,AR W sc st b)->F.length<=62
def B2.net(h:B2 W):GF W.gs W.as:=⟨λp b e=>by
 rcases h.kth p b with⟨a,_⟩|⟨a,_⟩|⟨_,c⟩;rw[e] at a;exact absurd a (by decide +kernel);rw[e] at a;exact absurd a (by decide +kernel)
 exact c,h.an⟩
def B2.by_(h:B2 W)(a:s∈W.ss){p:B8}(b:p∈s.1)(c:p.2.1≠("to" : Str)):0<=p.2.2/\p.2.2<W.as.length:=by
 rcases h.kst s a p b with⟨e,_⟩|⟨_,e⟩;exact absurd e c;exact e
def Gc:(("no" : Str),(0:Int)).1≠("to" : Str):=by decide +kernel
def P2:("open" : Str)≠("to" : Str):=by decide +kernel
def V2(h:B2 W){k:Str×Int}(c:k∈W.gs)(b:k.1=("part" : Str)):0<=k.2/\k.2<W.ss.length:=by
 rcases h.kth k c with⟨a,_⟩|⟨_,d⟩|⟨a,_⟩;rw[b] at a;exact absurd a (by decide +kernel);exact d;rw[b] at a;exact absurd a (by decide +kernel)
set_option tactic.hygienic true in
def Zt(h:B2 W){q:Int}{g:Str×Int}(e:Ee W.gs W.as q=g)(a:g.1=("to" : Str)):0<=g.2/\g.2<W.ss.length:=by
 unfold Ee at e;split at e;split at e;split at e;rename_i k b;split at e;rename_i c;subst e;exact V2 (k:=k) h (Bl b) c;subst e;exact absurd a Gc;subst e;exact absurd a Gc;subst e;exact absurd a Gc;subst e;exact absurd a P2;subst e;exact absurd a Gc
set_option tactic.hygienic true in
def S0(h:B2 W)(b:p∈W.gs){g:Str×Int}(e:Dr W.gs W.as p=g)(a:g.1=("to" : Str)):0<=g.2/\g.2<W.ss.length:=by
 unfold Dr at e;split at e;rename_i c;subst e;exact V2 (k:=p) h b c;split at e;exact Zt h e a;subst e;exact absurd a Gc
set_option tactic.hygienic true in
def Zu(h:B2 W)(c:s∈W.ss){p:B8}(d:p∈s.1){g:Str×Int}(e:BO W.gs W.as p=g)(a:g.1=("to" : Str)):0<=g.2/\g.2<W.ss.length:=by
 unfold BO at e;split at e;rename_i j;subst e;rcases h.kst s c p d with⟨_,f⟩|⟨b,_⟩;exact f;rw[j] at b;exact absurd b (by decide +kernel);split at e;split at e;split at e;rename_i k i;exact S0 h (Bl i) e a;subst e;exact absurd a Gc;subst e;exact absurd a Gc;subst e;exact absurd a P2;subst e;exact absurd a Gc
structure Cc (W:Wd) (b:AQ):Prop where
 nd:(AV b).Nodup
 rng:∀x∈AV b,0<=x/\x<W.ss.length
 st:0<=b.2.2/\b.2.2<W.sts.length
set_option tactic.hygienic true in
def V3{p:B8}(h:p∈BY W sc):∃s∈W.ss,p∈s.1:=by
 unfold BY at h;split at h;rename_i s a;exact⟨s,Bl a,h⟩;cases h
variable {st:Int}
set_option tactic.hygienic true in
def V4(h:p∈DX W st):∃s∈W.sts,p∈s.1:=by
 unfold DX at h;split at h;rename_i s a;exact⟨s,Bl a,h⟩;cases h
def L7(h:r∈GG W sc st):∃(j:Nat)(p:B8)(a:Int),(BY W sc)[j]?=some p/\En (DX W st) p.1=some a/\r=((sc,("step" : Str),(j:Int)),BO W.gs W.as p,a):=by
 obtain⟨j,p,a,b,c,d⟩:=BP.mp h;exact⟨j,p,a,b,c,by rw[d,Nat.zero_add]⟩
def V5(h:r∈GG W b.2.1 b.2.2):AV (b.1++[r.1],r.2.1.2,r.2.2)=AV b++[r.2.1.2]:=by
 obtain⟨j,p,a,_,_,rfl⟩:=L7 h;unfold AV
 simp
def Cc.kid(ok:B2 W){c:AQ}(h:Cc W b)(k:c∈CA W b):Cc W c:=by
 obtain⟨r,e,g,i,rfl⟩:=AJ.mp k;have f:=V5 e;obtain⟨j,p,a,l,m,rfl⟩:=L7 e;obtain⟨s,n,o⟩:=V3 (Bl l);refine⟨?_,?_,?_⟩;rw[f,List.nodup_append]
 exact⟨h.nd,by simp,λx d y q=>by
  rw[AZ.mp q]
  exact λz=>i (z▸d)⟩
 rw[f];intro x d;rcases BI.mp d with d|d;exact h.rng x d;rw[AZ.mp d];exact Zu ok n o rfl g;obtain⟨t,u,v⟩:=V4 (SY m);exact ok.go t u _ v
def AR.ok{W:Wd}(ok:B2 W){sc st:Int}(d:0<=sc/\sc<W.ss.length)(e:0<=st/\st<W.sts.length){b:AQ}(h:AR W sc st b):Cc W b:=by
 induction h with
 |root=>exact⟨by simp[AV],λx a=>by simp[AV] at a;rw[a];exact d,e⟩
 |kid _ k c=>exact c.kid ok k
def AR.uniq(h:AR W sc st b):∀{c:AQ},AR W sc st c->b.1=c.1->b=c:=by
 induction h with
 |root =>
   intro c a e
   cases a with
   |root=>rfl
   |kid _ k =>
     obtain⟨r,_,_,_,rfl⟩:=AJ.mp k;simp at e
 |@kid o p q k d =>
   intro c a e;obtain⟨r,f,s,t,rfl⟩:=AJ.mp k
   cases a with
   |root=>simp at e
   |@kid u _ m g =>
     obtain⟨v,n,w,x,rfl⟩:=AJ.mp g;simp only at e;obtain⟨i,j⟩:=List.append_inj' e rfl;have l:=d m i;subst l;have:=V0 f n (by simpa using j);subst this;rfl
theorem KS:∀(n:Nat)(l:List Int),l.Nodup->(∀x∈l,0<=x/\x<(n:Int))->l.length<=n
 |0,[],_,_=>AD _
 |0,x::l,_,h=>by have:=h x BB;lia
 |n+1,l,b,h=>by
   have e:(l.erase (n:Int)).Nodup:=b.erase _
   have c:∀x∈l.erase (n:Int),0<=x/\x<(n:Int):=λx d=>by
    obtain⟨f,a⟩:=(b.mem_erase_iff).mp d;have:=h x a;lia
   have:=KS n _ e c
   have g:l.length<=(l.erase (n:Int)).length+1:=by
    by_cases a:(n:Int)∈l;rw[List.length_erase_of_mem a];lia;rw[List.erase_of_not_mem a];lia
   lia
set_option tactic.hygienic true in
def P4(ok:B2 W)(sc:Int):(BY W sc).length<=8:=by
 unfold BY;split;rename_i s a;exact ok.st s (Bl a);exact Cm _
structure GZ (W:Wd) (sc st:Int) (F:List AQ) (p:Nat):Prop where
 root:([],sc,st)∈F
 is:∀b∈F,AR W sc st b
 nd:F.Nodup
 done:∀(j:Nat)(b:AQ),j<p->F[j]?=some b->∀c∈CA W b,c∈F
 src:∀c∈F,c=([],sc,st)\/∃(j:Nat)(b:AQ),j<p/\F[j]?=some b/\c∈CA W b
 le:p<=F.length
def GZ.start(W:Wd)(sc st:Int):GZ W sc st [([],sc,st)] 0 where
 root:=BB
 is b a:=by rw[AZ.mp a];exact .root
 nd:=by simp
 done j b e:=by lia
 src c d:=.inl (AZ.mp d)
 le:=Cm _
def GZ.turn{F:List AQ}{p:Nat}(h:GZ W sc st F p)(g:F[p]?=some b):GZ W sc st (F++CA W b) (p+1):=by
 have w:p<F.length:=(A8.mp g).1;have x:=Bl g;have o:=h.is b x;have at_:∀(j:Nat),j<F.length->(F++CA W b)[j]?=F[j]?:=λj f=>EJ f
 have one:∀(j:Nat)(c:AQ),j<p+1->(F++CA W b)[j]?=some c->(j<p/\F[j]?=some c)\/c=b:=λj c f e=>by
  rw[at_ j (by lia)] at e;by_cases y:j<p;exact .inl ⟨y,e⟩;have:j=p:=(by lia);subst this;rw[g] at e;exact .inr (AO e).symm
 refine⟨Ek _ h.root,λc a=>?_,?_,λj c f e d hd=>?_,λc a=>?_,by rw[AY];lia⟩;rcases BI.mp a with a|a;exact h.is c a;exact .kid o a;refine List.nodup_append.mpr ⟨h.nd,Jz W b,λc a d hd e=>?_⟩;subst e;obtain⟨r,B,_,_,l⟩:=AJ.mp hd;rcases h.src c a with m|⟨j,i,f,k,n⟩;rw[m] at l;have:=BJ Prod.fst l;simp at this;obtain⟨C,G,_,_,z⟩:=AJ.mp n
 have q:i.1=b.1:=by
  have:=BJ Prod.fst (z.symm.trans l);simp only at this;exact(List.append_inj' this rfl).1
 have s:=(h.is i (Bl k)).uniq o q;subst s;obtain⟨D,t⟩:=A8.mp k;obtain⟨E,u⟩:=A8.mp g;have:=(List.getElem_inj h.nd).mp (t.trans u.symm);lia;rcases one j c f e with⟨A,v⟩|rfl;exact Ek _ (h.done j c A v d hd);exact Dj _ hd;rcases BI.mp a with a|a;rcases h.src c a with m|⟨j,i,f,k,n⟩;exact .inl m;exact .inr ⟨j,i,by lia,by rw[at_ j (by lia)];exact k,n⟩;exact .inr ⟨p,b,by lia,by rw[at_ p w];exact g,a⟩
def GZ.few{W:Wd}(ok:B2 W){sc st:Int}(a:0<=sc/\sc<W.ss.length)(b:0<=st/\st<W.sts.length){F:List AQ}{p:Nat}(h:GZ W sc st F p):F.length<=62:=ok.few sc st F a b h.nd h.is
abbrev Nk:Enc:=KR FU SS FU
abbrev DS:Enc:=KR (Eu Nk) FU FU
structure Dg (W:Wd) (sc st:Int) (bs:List AQ):Prop where
 mem:∀b,b∈bs↔AR W sc st b
 nd:bs.Nodup
 srt:bs.Pairwise DS.O.kle
 few:bs.length<=62
def Dg.uniq{l m:List AQ}(h:Dg W sc st l)(k:Dg W sc st m):l=m:=
 LW (O:=DS.O) ((List.perm_ext_iff_of_nodup h.nd k.nd).mpr λb=>(h.mem b).trans (k.mem b).symm) h.srt k.srt
def GZ.all(ok:B2 W)(g:0<=sc/\sc<W.ss.length)(i:0<=st/\st<W.sts.length){F l:List AQ}(h:GZ W sc st F F.length)(a:l.Perm F)(d:l.Pairwise DS.O.kle):Dg W sc st l:=by
 refine⟨λb=>?_,a.nodup_iff.mpr h.nd,d,by rw[a.length_eq];exact h.few ok g i⟩;rw[a.mem_iff];refine⟨h.is b,λe=>?_⟩
 induction e with
 |root=>exact h.root
 |kid _ k f =>
   obtain⟨j,c⟩:=List.getElem?_of_mem f;exact h.done j _ (A8.mp c).1 c _ k
def DP (F:Addr->Prop) (H:Hp) (t:Addr) (b:AQ):Prop:=∃(l:Addr)(ms:List Addr),H t=some (.tup [.ref l,.int b.2.1,.int b.2.2])/\H l=some (.lst (ms.map V.ref))/\RT GY H ms b.1/\F l
def DP.same{F:Addr->Prop}{H H':Hp}{t:Addr}{b:AQ}(e:Ac H H')(h:DP F H t b):DP F H' t b:=by
 obtain⟨l,a,c,d,f,g⟩:=h;exact⟨l,a,e _ _ c,e _ _ d,f.same e,g⟩
def DP.mono{G:Addr->Prop}{t:Addr}(e:∀x,F x->G x)(h:DP F H t b):DP G H t b:=by
 obtain⟨l,a,c,d,f,g⟩:=h;exact⟨l,a,c,d,f,e _ g⟩
def DP.keeps{M F:Addr->Prop}{H H':Hp}{t:Addr}{b:AQ}(k:Keeps M H H')(c:∀x,F x->¬M x)(h:DP F H t b):DP F H' t b:=by
 obtain⟨l,d,e,f,g,a⟩:=h;exact⟨l,d,k.tup e,k.at_ _ _ f (c _ a),g.keeps k,a⟩
abbrev P5 (m:Aq):Dt:=.tup [.int m.1,.str m.2.1,.int m.2.2]
def HQ{K:Ah}(r:Aq)(t:Addr)(h:H t=some (.tup (GY r))):Ar K H (.ref t) (P5 r):=.tup (Ap.of h) (.cons (.int _) (.cons (.str _) (.cons (.int _) .nil)))
def DP.dt{K:Ah}{t:Addr}(h:DP F H t b):Ar K H (.ref t) (DS.D b):=by
 obtain⟨l,e,a,c,d,f⟩:=h;exact .tup (Ap.of a) (.cons (.lst (Ae.of c) (d.dts HQ)) (.cons (.int _) (.cons (.int _) .nil)))
def KU (H:Hp) (t:Addr) (r:Gn):Prop:=∃m,H t=some (.tup [.ref m,.str r.2.1.1,.int r.2.1.2,.int r.2.2])/\H m=some (.tup (GY r.1))
def KU.same{t:Addr}(e:Ac H H')(h:KU H t r):KU H' t r:=by
 obtain⟨m,a,b⟩:=h;exact⟨m,e _ _ a,e _ _ b⟩
def KU.keeps{t:Addr}(k:Keeps M H H')(h:KU H t r):KU H' t r:=by
 obtain⟨m,a,b⟩:=h;exact⟨m,k.tup a,k.tup b⟩
structure Bq (K:Ah) (H:Hp) (nt A t:Addr) (W:Wd):Prop where
 net:∃(S T R:Addr)(us Gs Es ts qt:List Addr)(qs:List Qu),H nt=some (.tup [.ref S,.ref T,.ref R])/\Fw H S T R us Gs Es ts qt W.ss W.gs qs
 ans:Hb K H A W.as
 tab:∃(a o:Addr)(inn:V),Ap K H t [.ref a,inn,.ref o]/\HJ K H a W.sts
def Bq.same{K:Ah}{H H':Hp}{b A t:Addr}{W:Wd}(e:Ac H H')(h:Bq K H b A t W):Bq K H' b A t W:=by
 obtain⟨S,T,R,us,Gs,Es,ts,c,qs,d,f⟩:=h.net;obtain⟨a,o,k,g,vs,i,j⟩:=h.tab;exact⟨⟨S,T,R,us,Gs,Es,ts,c,qs,e _ _ d,f.same e⟩,h.ans.same e,⟨a,o,k,e.seqT g,vs,e.seq i,j.same e⟩⟩
def DP.mono'{G:Addr->Prop}{t:Addr}(e:∀x o,H x=some o->F x->G x)(h:DP F H t b):DP G H t b:=by
 obtain⟨l,c,d,a,f,g⟩:=h;exact⟨l,c,d,a,f,e _ _ a g⟩
theorem V6{H:Hp}:∀{ts:List Addr}{ps:A'},Cb H ts ps->∃zs:List (Row EO EO),zs.map (·.1)=ts.map V.ref/\zs.map (·.2)=ps/\∀z∈zs,∃t,z.1=.ref t/\H t=some (.tup [.str z.2.1,.str z.2.2])
 |[],[],_=>⟨[],rfl,rfl,λz hz=>by cases hz⟩
 |[],_::_,h=>by have:=h.len;simp at this
 |_::_,[],h=>by have:=h.len;simp at this
 |a::ts,p::ps,h=>by
   obtain⟨zs,b,c,d⟩:=V6 (ts:=ts) (ps:=ps) ⟨by simpa using h.len,λn t p f g=>h.at_ (n+1) t p (by simpa using f) (by simpa using g)⟩;refine⟨(V.ref a,p)::zs,by rw[D9,b];rfl,by rw[D9,c],λz hz=>?_⟩;rcases Cj.mp hz with e|hz;rw[e];exact⟨a,rfl,h.at_ 0 a p rfl rfl⟩;exact d z hz
theorem V7{H:Hp}:∀{zs:List (Row EO EO)},(∀z∈zs,∃t,z.1=.ref t/\H t=some (.tup [.str z.2.1,.str z.2.2]))->∃ts:List Addr,zs.map (·.1)=ts.map V.ref/\Cb H ts (zs.map (·.2))
 |[],_=>⟨[],rfl,Cb.nil⟩
 |z::zs,h=>by
   obtain⟨ts,d,c⟩:=V7 (zs:=zs) λy f=>h y (Co _ f);obtain⟨t,e,g⟩:=h z BB;refine⟨t::ts,by rw[D9,d,e];rfl,by simp[c.len],λn u p a b=>?_⟩
   cases n with
   |zero=>simp at a b;subst a;subst b;exact g
   |succ n=>exact c.at_ n u p (by simpa using a) (by simpa using b)
def FR.caseT{K:Ah}{t:Addr}{n:Int}{ord:A'}(h:FR K F H t rs n ord):∃(a o:Addr)(inn:V),Ap K H t [.ref a,inn,.ref o]/\HJ K H a rs:=by
 obtain⟨a,o,us,ts,b,_,_,_,c,d,_⟩:=h.ex;exact⟨a,o,_,Ap.of b,d.stts c⟩
def GH{x:Int}{l:List Int}:Dt.int x∈l.map Dt.int↔x∈l:=⟨λh=>by
 obtain⟨y,a,z⟩:=A3.mp h
 rw[<-Dt.int.inj z];exact a,λh=>A3.mpr ⟨x,h,rfl⟩⟩
theorem V8{K:Ah}{H:Hp}:∀(l:List Int),Aj K H (l.map V.int) (l.map Dt.int)
 |[]=>.nil
 |x::l=>.cons (.int x) (V8 l)
def S1(xs:List α)(x:α):Bv (xs++[x]) (-1)=some x:=by
 have e:Hu (xs++[x]).length (-1)=some xs.length:=by
  unfold Hu;rw[Ak (by decide),Al (by rw[AY,DJ];lia),AY,DJ];congr 1;lia
 unfold Bv;rw[e];show(xs++[x])[xs.length]?=some x
 simp
abbrev OA (sts:List Cr) (inn:Int) (ord:A'):Dt:=.tup [.lst (sts.map KP),.int inn,.lst (ord.map VG)]
def JA(s r:Cr):Ed 4 (KP s) (KP r):=by
 refine .tup (.cons (.lst (By.of λd hd e a=>?_)) (.cons (.lst (By.of λd hd e a=>?_)) (.nil _)));obtain⟨p,_,rfl⟩:=A3.mp hd;obtain⟨q,_,rfl⟩:=A3.mp a;exact LX p q;obtain⟨p,_,rfl⟩:=A3.mp hd;obtain⟨q,_,rfl⟩:=A3.mp a;exact .str _ _
def Zv(s r:List Cr)(m n:Int)(o u:A'):Ed 6 (OA s m o) (OA r n u):=by
 refine .tup (.cons (.lst (By.of λd hd e a=>?_)) (.cons (.int _ _) (.cons (.lst (By.of λd hd e a=>?_)) (.nil _))));obtain⟨p,_,rfl⟩:=A3.mp hd;obtain⟨q,_,rfl⟩:=A3.mp a;exact JA p q;obtain⟨p,_,rfl⟩:=A3.mp hd;obtain⟨q,_,rfl⟩:=A3.mp a;exact .tup (.cons (.str _ _) (.cons (.str _ _) (.nil _)))
def FR.dt{K:Ah}{t:Addr}{b:List Cr}{inn:Int}{ord:A'}(h:FR K F H t b inn ord):Ar K H (.ref t) (OA b inn ord):=by
 obtain⟨a,o,us,ts,c,_,_,_,d,e,f,TO⟩:=h.ex;exact .tup (Ap.of c) (.cons (.lst (Ae.of d) e.dts) (.cons (.int _) (.cons (.lst (Ae.of f) TO.dts) .nil)))
abbrev CG:Enc:=Eu Nk
def Gp (W:Wd) (sc:Int):List DO:=match W.ss[sc.toNat]? with
 |some s=>s.2
 |none=>[]
def Hd (W:Wd) (st:Int):List Str:=match W.sts[st.toNat]? with
 |some s=>s.2
 |none=>[]
def Fy (W:Wd) (b:AQ) (x:Str) (q:DO) (i:Nat):List (List Aq):=if q.2.1=x/\q.1∈Hd W b.2.2 then[b.1++[(b.2.1,("told" : Str),(i:Int))]] else[]
def DQ (W:Wd) (b:AQ) (x:Str):List DO->Nat->List (List Aq)
 |[],_=>[]
 |q::r,i=>Fy W b x q i++DQ W b x r (i+1)
def DY (W:Wd) (x:Str) (bs:List AQ):List (List Aq):=bs.flatMap λb=>DQ W b x (Gp W b.2.1) 0
theorem V9(W:Wd)(b:AQ)(x:Str)(q:DO):∀(l:List DO)(i:Nat),DQ W b x (l++[q]) i=DQ W b x l i++Fy W b x q (i+l.length)
 |[],i=>by simp[DQ]
 |p::l,i=>by
   show Fy W b x p i++DQ W b x (l++[q]) (i+1)=(Fy W b x p i++DQ W b x l (i+1))++_;rw[V9 W b x q l (i+1),F5,El,show i+1+l.length=i+(l.length+1) by lia]
theorem Wa(W:Wd)(b:AQ)(x:Str):∀(l:List DO)(i:Nat),(DQ W b x l i).length<=l.length
 |[],i=>AD _
 |q::l,i=>by
   show(Fy W b x q i++DQ W b x l (i+1)).length<=_;have a:(Fy W b x q i).length<=1:=by unfold Fy;split<;>simp
   have c:=Wa W b x l (i+1);rw[AY,El];lia
set_option tactic.hygienic true in
theorem OB{W:Wd}{b:AQ}{x:Str}{w:List Aq}:∀{l:List DO}{i:Nat},w∈DQ W b x l i->∃(j:Nat)(q:DO),l[j]?=some q/\q.2.1=x/\q.1∈Hd W b.2.2/\w=b.1++[(b.2.1,("told" : Str),((i+j:Nat):Int))]
 |[],i,h=>by cases h
 |q::l,i,h=>by
   rcases BI.mp (show w∈Fy W b x q i++DQ W b x l (i+1) from h) with h|h
   unfold Fy at h;split at h;rename_i a;exact⟨0,q,rfl,a.1,a.2,AZ.mp h⟩;cases h;obtain⟨j,c,d,e,f,g⟩:=OB h;exact⟨j+1,c,by simpa using d,e,f,by rw[g,show i+1+j=i+(j+1) by lia]⟩
def S3{bs:List AQ}{w:List Aq}(h:w∈DY W x bs):∃b∈bs,∃(j:Nat)(q:DO),(Gp W b.2.1)[j]?=some q/\q.2.1=x/\q.1∈Hd W b.2.2/\w=b.1++[(b.2.1,("told" : Str),(j:Int))]:=by
 obtain⟨b,a,c⟩:=List.mem_flatMap.mp h;obtain⟨j,q,d,e,f,g⟩:=OB c;exact⟨b,a,j,q,d,e,f,by rw[g,Nat.zero_add]⟩
theorem S4{α:Type}{f:AQ->List α}{k:Nat}:∀(bs:List AQ),(∀b,(f b).length<=k)->(bs.flatMap f).length<=bs.length*k
 |[],_=>by simp
 |b::bs,h=>by
   rw[List.flatMap_cons,AY,El,Nat.succ_mul];have:=h b;have:=S4 bs h;lia
structure Nl (W:Wd) (x:Str) (bs:List AQ) (ws:List (List Aq)):Prop where
 perm:ws.Perm (DY W x bs)
 srt:ws.Pairwise CG.O.kle
def Nl.uniq{bs:List AQ}{l m:List (List Aq)}(h:Nl W x bs l)(k:Nl W x bs m):l=m:=LW (O:=CG.O) (h.perm.trans k.perm.symm) h.srt k.srt
def CQ (F:Addr->Prop) (H:Hp) (l:Addr) (w:List Aq):Prop:=∃ms:List Addr,H l=some (.lst (ms.map V.ref))/\RT GY H ms w/\F l
def CQ.same{F:Addr->Prop}{H H':Hp}{t:Addr}{b:List Aq}(e:Ac H H')(h:CQ F H t b):CQ F H' t b:=by
 obtain⟨a,c,d,f⟩:=h;exact⟨a,e _ _ c,d.same e,f⟩
def CQ.mono'{G:Addr->Prop}{t:Addr}{b:List Aq}(e:∀x o,H x=some o->F x->G x)(h:CQ F H t b):CQ G H t b:=by
 obtain⟨c,a,d,f⟩:=h;exact⟨c,a,d,e _ _ a f⟩
def CQ.keeps{M F:Addr->Prop}{H H':Hp}{t:Addr}{b:List Aq}(k:Keeps M H H')(c:∀x,F x->¬M x)(h:CQ F H t b):CQ F H' t b:=by
 obtain⟨d,e,f,a⟩:=h;exact⟨d,k.at_ _ _ e (c _ a),f.keeps k,a⟩
def CQ.dt{K:Ah}{t:Addr}{b:List Aq}(h:CQ F H t b):Ar K H (.ref t) (CG.D b):=by
 obtain⟨d,a,c,_⟩:=h;exact .lst (Ae.of a) (c.dts HQ)
def Wb{c:Enc}{zs:List (Addr×c.O.α)}{d:List (DR c)}(a:d.Perm (zs.map λz=>((V.ref z.1,z.2):DR c))) :
 ∃ws:List (Addr×c.O.α),d.map (·.1)=(ws.map λz=>V.ref z.1)/\d.map (·.2)=ws.map (·.2)/\(ws.map (·.2)).Perm (zs.map (·.2))/\∀z∈ws,z∈zs:=by
 have:∀{l:List (DR c)},(∀y∈l,y∈zs.map λz=>((V.ref z.1,z.2):DR c))->∃ws:List (Addr×c.O.α),l=ws.map λz=>(V.ref z.1,z.2):=by
  intro l
  induction l with
  |nil=>exact λζ=>⟨[],rfl⟩
  |cons y l f =>
    intro h;obtain⟨ws,rfl⟩:=f λz g=>h z (Co _ g);obtain⟨z,_,rfl⟩:=A3.mp (h y BB);exact⟨z::ws,rfl⟩
 obtain⟨ws,rfl⟩:=this λy b=>a.mem_iff.mp b;refine⟨ws,by rw[DK];rfl,by rw[DK];rfl,?_,λz k=>?_⟩;have:=a.map (·.2);rw[DK,DK] at this;exact this;have:=a.mem_iff.mp (A3.mpr ⟨z,k,rfl⟩);obtain⟨y,b,e⟩:=A3.mp this;injection e with i j;have:y=z:=Prod.ext (V.ref.inj i) j;rw[<-this];exact b
abbrev P6:Enc:=L5 (Eu Nk) FU
abbrev Ow:Type:=List Aq×Int
def ow (b:AQ) (r:Gn):Option Ow:=if r.2.1.1=("open" : Str) then some (b.1++[r.1],r.2.1.2) else none
def Gd (W:Wd) (bs:List AQ):List Ow:=bs.flatMap λb=>(GG W b.2.1 b.2.2).filterMap (ow b)
set_option tactic.hygienic true in
def Wc{bs:List AQ}{w:Ow}(h:w∈Gd W bs):∃b∈bs,∃(j:Nat)(p:B8)(a:Int),(BY W b.2.1)[j]?=some p/\En (DX W b.2.2) p.1=some a/\(BO W.gs W.as p).1=("open" : Str)/\w=(b.1++[(b.2.1,("step" : Str),(j:Int))],(BO W.gs W.as p).2):=by
 obtain⟨b,c,d⟩:=List.mem_flatMap.mp h;obtain⟨r,f,e⟩:=List.mem_filterMap.mp d;obtain⟨j,p,a,g,i,rfl⟩:=L7 f;unfold ow at e;split at e;rename_i k;exact⟨b,c,j,p,a,g,i,k,(AO e).symm⟩;cases e
structure OC (W:Wd) (bs:List AQ) (ws:List Ow):Prop where
 perm:ws.Perm (Gd W bs)
 srt:ws.Pairwise P6.O.kle
def OC.uniq{bs:List AQ}{l m:List Ow}(h:OC W bs l)(k:OC W bs m):l=m:=LW (O:=P6.O) (h.perm.trans k.perm.symm) h.srt k.srt
def FK (F:Addr->Prop) (H:Hp) (t:Addr) (p:Ow):Prop:=∃(l:Addr)(ms:List Addr),H t=some (.tup [.ref l,.int p.2])/\H l=some (.lst (ms.map V.ref))/\RT GY H ms p.1/\F l
def FK.same{F:Addr->Prop}{H H':Hp}{t:Addr}{b:Ow}(e:Ac H H')(h:FK F H t b):FK F H' t b:=by
 obtain⟨l,a,c,d,f,g⟩:=h;exact⟨l,a,e _ _ c,e _ _ d,f.same e,g⟩
def FK.mono'{G:Addr->Prop}{t:Addr}{b:Ow}(e:∀x o,H x=some o->F x->G x)(h:FK F H t b):FK G H t b:=by
 obtain⟨l,c,d,a,f,g⟩:=h;exact⟨l,c,d,a,f,e _ _ a g⟩
def FK.keeps{M F:Addr->Prop}{H H':Hp}{t:Addr}{b:Ow}(k:Keeps M H H')(c:∀x,F x->¬M x)(h:FK F H t b):FK F H' t b:=by
 obtain⟨l,d,e,f,g,a⟩:=h;exact⟨l,d,k.tup e,k.at_ _ _ f (c _ a),g.keeps k,a⟩
def FK.dt{K:Ah}{t:Addr}{b:Ow}(h:FK F H t b):Ar K H (.ref t) (P6.D b):=by
 obtain⟨l,e,a,c,d,_⟩:=h;exact .tup (Ap.of a) (.cons (.lst (Ae.of c) (d.dts HQ)) (.cons (.int _) .nil))
def Zw{bs:List AQ}(h:bs[i]?=some b):Gd W (bs.take (i+1))=Gd W (bs.take i)++(GG W b.2.1 b.2.2).filterMap (ow b):=by
 rw[DV,h];show(bs.take i++[b]).flatMap _=_;rw[List.flatMap_append];simp[Gd]
def L8{β:Type}(f:α->Option β)(l:List α)(x:α):(l++[x]).filterMap f=l.filterMap f++(f x).toList:=by
 rw[List.filterMap_append];cases e:f x<;>simp[e]
def JB(h:r.2.1.1=("open" : Str)):ow b r=some (b.1++[r.1],r.2.1.2):=Al h
def JC(h:r.2.1.1≠("open" : Str)):ow b r=none:=Ak h
structure Bn (W:Wd):Prop where
 tl:∀s∈W.ss,∀p∈s.2,Fv W.gs.length W.as.length p
 fnd:∀(x:Str)(sc st:Int)(bs:List AQ),(0<=sc/\sc<W.ss.length)->(0<=st/\st<W.sts.length)->Dg W sc st bs->(DY W x bs).length<=62
 owd:∀(sc st:Int)(bs:List AQ),(0<=sc/\sc<W.ss.length)->(0<=st/\st<W.sts.length)->Dg W sc st bs->(Gd W bs).length<=62
def FV (ss:List Bk) (m:Aq):Str:=match ss[m.1.toNat]? with
 |some s=>if m.2.1=("step" : Str) then(match s.1[m.2.2.toNat]? with
   |some p=>p.1
   |none=>default) else(match s.2[m.2.2.toNat]? with
   |some p=>p.1
   |none=>default)
 |none=>default
def Ev (ss:List Bk) (m:Aq):Prop:=∃(n k:Nat)(s:Bk),m.1=(n:Int)/\m.2.2=(k:Int)/\ss[n]?=some s/\((m.2.1=("step" : Str)/\k<s.1.length)\/(m.2.1=("told" : Str)/\k<s.2.length))
def Zx{m:Aq}{k:Nat}{p:B8}(a:m.1=(n:Int))(b:m.2.2=(k:Int))(c:ss[n]?=some s)(d:m.2.1=("step" : Str))(e:s.1[k]?=some p):FV ss m=p.1:=by
 unfold FV;rw[a,b,Bo,Bo,c];dsimp only;rw[Al d,e]
def Zy{m:Aq}{k:Nat}{p:DO}(a:m.1=(n:Int))(b:m.2.2=(k:Int))(c:ss[n]?=some s)(d:m.2.1≠("step" : Str))(e:s.2[k]?=some p):FV ss m=p.1:=by
 unfold FV;rw[a,b,Bo,Bo,c];dsimp only;rw[Ak d,e]
def S5:("told" : Str)≠("step" : Str):=by decide +kernel
open Classical in
noncomputable def Cn (ss:List Bk) (ord:A'):List Aq->List Aq->Bool
 |m::ms,q::qs=>if m=q then Cn ss ord ms qs else dec ((FV ss m,FV ss q)∈ord)
 |_,_=>false
def OD(ss:List Bk)(ord:A')(m:Aq)(a qs:List Aq):Cn ss ord (m::a) (m::qs)=Cn ss ord a qs:=by
 rw[Cn];exact Al rfl
def KW(ss:List Bk)(ord:A'){m q:Aq}(a qs:List Aq)(h:m≠q):Cn ss ord (m::a) (q::qs)=dec ((FV ss m,FV ss q)∈ord):=by
 rw[Cn];exact Ak h
theorem L9(ss:List Bk)(ord:A'):∀{l m:List Aq},l=[]\/m=[]->Cn ss ord l m=false
 |[],_,_=>by rw[Cn];intros;simp at *
 |_::_,[],_=>by rw[Cn];intros;simp at *
 |_::_,_::_,h=>by simp at h
def We(ok:B2 W)(u:0<=sc/\sc<W.ss.length)(v:0<=st/\st<W.sts.length)(h:AR W sc st b):∀m∈b.1,Ev W.ss m:=by
 induction h with
 |root=>intro m c;cases c
 |@kid d x i k l =>
   obtain⟨r,o,_,_,rfl⟩:=AJ.mp k;intro m c;rcases BI.mp c with c|c;exact l m c;rw[AZ.mp c];have q:=i.ok ok u v;have s:=q.rng d.2.1 (by unfold AV;simp);obtain⟨j,p,a,e,_,rfl⟩:=L7 o;obtain⟨n,f⟩:=DL s.1;have w:n<W.ss.length:=(by lia);have g:=AC w;have t:BY W d.2.1=W.ss[n].1:=by unfold BY;rw[f,Bo,g]
   rw[t] at e;exact⟨n,j,_,f,rfl,g,.inl ⟨rfl,(A8.mp e).1⟩⟩
def S6(ok:B2 W)(h:0<=sc/\sc<W.ss.length)(i:0<=st/\st<W.sts.length){bs:List AQ}(k:Dg W sc st bs){w:List Aq}(l:w∈DY W x bs):(∀m∈w,Ev W.ss m)/\w.length<=100:=by
 obtain⟨b,o,j,q,d,_,_,rfl⟩:=S3 l;have e:=(k.mem b).mp o;have c:=e.ok ok h i;have p:=c.rng b.2.1 (by unfold AV;simp);refine⟨λm a=>?_,?_⟩;rcases BI.mp a with a|a;exact We ok h i e m a;rw[AZ.mp a];obtain⟨n,f⟩:=DL p.1;have s:n<W.ss.length:=(by lia);have g:=AC s;have r:Gp W b.2.1=W.ss[n].2:=by unfold Gp;rw[f,Bo,g]
 rw[r] at d;exact⟨n,j,_,f,rfl,g,.inr ⟨rfl,(A8.mp d).1⟩⟩;have:=KS W.ss.length (AV b) c.nd c.rng;rw[show(AV b).length=b.1.length+1 by unfold AV;simp] at this;have:=ok.s5;rw[AY,DJ];lia
def Zz(ok:B2 W)(i:0<=sc/\sc<W.ss.length)(k:0<=st/\st<W.sts.length){bs:List AQ}(l:Dg W sc st bs){w:Ow}(o:w∈Gd W bs):(∀m∈w.1,Ev W.ss m)/\w.1.length<=100:=by
 obtain⟨b,q,j,p,a,e,_,_,rfl⟩:=Wc o;have f:=(l.mem b).mp q;have d:=f.ok ok i k;have r:=d.rng b.2.1 (by unfold AV;simp);refine⟨λm c=>?_,?_⟩;rcases BI.mp c with c|c;exact We ok i k f m c;rw[AZ.mp c];obtain⟨n,g⟩:=DL r.1;have t:n<W.ss.length:=(by lia);have h:=AC t;have s:BY W b.2.1=W.ss[n].1:=by unfold BY;rw[g,Bo,h]
 rw[s] at e;exact⟨n,j,_,g,rfl,h,.inl ⟨rfl,(A8.mp e).1⟩⟩;have:=KS W.ss.length (AV b) d.nd d.rng;rw[show(AV b).length=b.1.length+1 by unfold AV;simp] at this;have:=ok.s5;show(b.1++[(b.2.1,("step" : Str),(j:Int))]).length<=100;rw[AY,DJ];lia
def ZA(h:n<=40000):n<sizeLine:=Nat.lt_of_le_of_lt h (by decide)
def Nm (ss:List Bk) (w:List Aq):Prop:=(∀m∈w,Ev ss m)/\w.length<=100
end L2
namespace PySem
section
variable {prog:Program} {w:World} {K:Type} [DecidableEq K] {knd:HeapKind prog w K} {A:Around} {E:D'} {s:Shared}
def ZB{d a:Addr}{xs:List (K×Addr×Value)}{k:K}{v:Value}{Q:D'}(l:knd.room A)(i:knd.is s.heap k a)(r:s.heap.DictOfH knd d xs)
 (t:∀p,atKey xs k=some p->Q p.2 {s with toks:=s.toks+knd.draws k})
 (u:atKey xs k=none->∀h',h'.DictOfH knd d (storedH xs k a v)->Heap.SameBut d s.heap h'->Q v {s with heap:=h',toks:=s.toks+knd.draws k})
 (hsz:xs.length<=sizeLine:=by size_fits) :
 wpAny (model prog w) A (dictSetDefault d (.ref a) v) Q E s:=by
 obtain⟨o,D,z,c,B,hd,g,q,h⟩:=r;unfold dictSetDefault
 try with_reducible refine Fl ?_
 refine Ad (knd.pyHash l i ?_);refine Ad (wpAny_dictFind_heap (s:={s with toks:=s.toks+knd.draws k}) l i c hd g q h ?_ ?_);intro f;have C:k∉xs.map (·.1):=not_mem_keys_of_get f
 refine Ad (Hi (Ad (wpAny_updateDictKeys (hz:=by have e:=size_of_entries g;lia) (s:={s with toks:=s.toks+knd.draws k}) c hd (Aw (u (atKey_none_of_get f) _ ⟨_,_,z+1,Heap.get?_update_self _ c (Obj.isFreed_of_dict (Obj.data_mapDictKeys hd _)),
  B.mapDictKeys _,Obj.data_mapDictKeys hd _,?_,?_,?_⟩ (Heap.SameBut.update ..))))))
 rw[storedH_new (atKey_none_of_get f)];simp[g,entryOfKey];rw[storedH_new (atKey_none_of_get f)];intro x b;rcases BI.mp b with b|b;exact knd.keeps (q x b) c hd (Heap.SameBut.update ..);simp only[AZ] at b;subst b;exact knd.keeps i c hd (Heap.SameBut.update ..);rw[storedH_new (atKey_none_of_get f)];rw[Br,List.nodup_append];refine⟨h,by simp,?_⟩;intro x b y m;simp only[D9,NG,AZ] at m;subst m;exact λe=>C (e▸b);intro j p n;refine Ad (wpAny_dictEntries (s:={s with toks:=s.toks+knd.draws k}) c hd ?_);rw[entry_at g j,n];exact Ad (Hi (Aw (t p (atKey_of_get h n))))
def ZC(d a:Addr)(hd:(d==sysModules)=false)(b:Value) :
 MeetsIn prog w (Builtin.«dict.setdefault» ⟨[.ref d,.ref a,b],[]⟩) (λA R s=>knd.room A.in1/\∃k xs,knd.is s.heap k a/\s.heap.DictOfH knd d xs/\xs.length<=sizeLine /\
  (∀p,atKey xs k=some p->R (.ok (.ret p.2)) {s with toks:=s.toks+knd.draws k}) /\
  (atKey xs k=none->∀h',h'.DictOfH knd d (storedH xs k a b)->Heap.SameBut d s.heap h'->R (.ok (.ret b)) {s with heap:=h',toks:=s.toks+knd.draws k})):=
 .of_wp λA R s l=>by
  obtain⟨e,k,xs,o,c,f,g,h⟩:=l;unfold Builtin.«dict.setdefault»;refine Ad ?_;unfold Builtin.Dict.keyAndDefault;refine Ad (wpAny_notOrdered_dict c.typeIs ?_);show wpAny _ _ (pure (d,Value.ref a,some b)) _ _ s;refine Aw ?_;show wpAny _ _ (if(d==sysModules)=true then _ else(dictSetDefault d (.ref a) b >>= _)) _ _ s;rw[Ak (by rw[hd];exact Cz)];exact Ad (ZB (hsz:=f) e o c (λp i=>Aw ⟨p.2,rfl,g p i⟩) λj h' m n=>Aw ⟨b,rfl,h j h' m n⟩)
end
section
variable {prog:Program} {w:World} {A:Around} {E:D'} {s:Shared}
variable {d:Addr}{es:Array DictEntry}{ep:Nat}
theorem ZD{o:Obj}{Q:D'}(hd:(d==sysModules)=false)(a:s.heap.get? d=some o)(e:o.ExactDict)(c:o.data=.dict es ep)
 (f:Q (.ref s.heap.objs.size) {s with heap:=s.heap.push {cls:=.type "dict_keyiterator",data:=.fields #[.ref d,.int 0 0,.int es.size 0,.int ep 0]}}) :
 wpAny (model prog w) A (pyIter (.ref d)) Q E s:=by
 have b:s.TypeIs (.ref d) "dict" :=⟨o,a,e.1⟩;refine wpAny_pyIter_slot b F.slot_dict_iter (wpAny_call_entry F.slot_dict_iter b F.entry_dict_iter ?_ (F.args_dict_iter_1 _));unfold Builtin.«dict.__iter__»;refine Ad ?_;unfold Builtin.Dict.dictSlotNone;refine Ad (wpAny_notOrdered_dict b ?_);show wpAny _ _ (pure (Value.ref d)) _ _ s;refine Aw ?_;show wpAny _ _ (Builtin.Dict.showsAll d >>= _) _ _ s;unfold Builtin.Dict.showsAll;rw[Ak (by rw[hd];exact Cz)];refine Ad (Aw ?_);refine Ad (wpAny_dictEntries a c ?_);refine Ad (wpAny_dictEpoch a c ?_);refine Ad (wpAny_newObj_type (Aw ⟨_,rfl, "dict_keyiterator",_,⟨_,B9 _ rfl,rfl⟩,F.slot_dict_keyiterator_next.lookup,?_⟩));simpa [rawInt] using f
theorem ZE{a:Addr}{i:Nat}{c:Obj}{Q:Option Value->Shared->Prop}(hit:s.heap.IsKeyIter a d i es.size ep)
 (e:s.heap.get? d=some c) (f:c.data=.dict es ep) (k:i<es.size)
 (h:∀h',h'.IsKeyIter a d (i+1) es.size ep->Heap.SameBut a s.heap h'->Q (some es[i].key) {s with heap:=h'}) :
 wpAny (model prog w) A (pyNext (.ref a)) Q E s:=by
 obtain⟨o,b,j,hd⟩:=id hit;unfold pyNext
 refine Ad (wpAny_attempt (wpAny_callSpecial?_slot (name:=Str.ofString "__next__") hit.typeIs F.slot_dict_keyiterator_next
  (wpAny_call_entry F.slot_dict_keyiterator_next hit.typeIs F.entry_dict_keyiterator_next ?_ (F.args_dict_keyiterator_next_1 _))))
 refine Ad (Aw ?_);refine Ad ?_;refine Ad ?_
 first|refine Ad (wpAny_typeNameOfWhole_keyiter hit.typeIs (Aw ?_))|refine Ad (wpAny_typeNameOf_keyiter hit.typeIs (Aw ?_))
 refine Ad (wpAny_fieldsOf b hd ?_);have l:Builtin.Dict_items.ownsTuple "dict_keyiterator" = false:=(by decide)
 simp only[l,Fk,if_false];show wpAny _ _ (if(Value.ref d==Value.none)=true then _ else _) _ _ s;rw[Ak (show ¬((Value.ref d==Value.none)=true) from Cz)];refine Ad (Aw ?_);refine Ad (wpAny_dictEntries e f ?_);rw[Ak (by simp)];refine Ad (Aw ?_);refine Ad (wpAny_dictEpoch e f ?_);rw[Ak (by simp)];refine Aw ?_;simp only[show ¬((i:Int)<0) from by lia,if_false,Bo,Array.getElem?_eq_getElem k];refine Ad ?_
 first|refine Ad (wpAny_typeNameOfWhole_keyiter hit.typeIs (Aw ?_))|refine Ad (wpAny_typeNameOf_keyiter hit.typeIs (Aw ?_))
 refine Ad (wpAny_isOneOf_keyiter hit.typeIs ?_);show wpAny _ _ (setField (.ref a) 1 (rawInt ((i:Int)+1)) >>= _) _ _ s;refine Ad (wpAny_setField b hd (by simp) ?_)
 have g:(s.heap.update a (Obj.mapFields (·.setIfInBounds 1 (rawInt ((i:Int)+1))))).IsKeyIter a d (i+1) es.size ep:=
  ⟨_,Heap.get?_update_self _ b (Obj.isFreed_of_fields (Obj.data_mapFields hd _)),(Obj.cls_mapFields ..).trans j,by rw[Obj.data_mapFields hd];simp[rawInt]⟩
 refine Ad (Fl ?_);refine Ad (wpAny_isOneOf_keyiter (s:={s with heap:=s.heap.update a (Obj.mapFields (·.setIfInBounds 1 (rawInt ((i:Int)+1))))}) g.typeIs ?_);show wpAny _ _ (pure es[i].key) _ _ _;exact Aw (Aw ⟨_,rfl,Aw (h _ g (Heap.SameBut.update ..))⟩)
theorem ZF{c:Addr}{i:Nat}{e:Obj}{Q:Option Value->Shared->Prop}(j:A.handled=none)(hit:s.heap.IsKeyIter c d i es.size ep)
 (g:s.heap.get? d=some e) (h:e.data=.dict es ep) (l:es.size<=i)
 (k:∀h',Heap.ExtBut c s.heap h'->Q none {s with heap:=h'}):wpAny (model prog w) A (pyNext (.ref c)) Q E s:=by
 obtain⟨o,f,p,hd⟩:=id hit;unfold pyNext
 refine Ad (wpAny_attempt (wpAny_callSpecial?_slot (name:=Str.ofString "__next__") hit.typeIs F.slot_dict_keyiterator_next
  (wpAny_call_entry F.slot_dict_keyiterator_next hit.typeIs F.entry_dict_keyiterator_next ?_ (F.args_dict_keyiterator_next_1 _))))
 refine Ad (Aw ?_);refine Ad ?_;refine Ad ?_
 first|refine Ad (wpAny_typeNameOfWhole_keyiter hit.typeIs (Aw ?_))|refine Ad (wpAny_typeNameOf_keyiter hit.typeIs (Aw ?_))
 refine Ad (wpAny_fieldsOf f hd ?_);have n:Builtin.Dict_items.ownsTuple "dict_keyiterator" = false:=(by decide)
 simp only[n,Fk,if_false];show wpAny _ _ (if(Value.ref d==Value.none)=true then _ else _) _ _ s;rw[Ak (show ¬((Value.ref d==Value.none)=true) from Cz)];refine Ad (Aw ?_);refine Ad (wpAny_dictEntries g h ?_);rw[Ak (by simp)];refine Ad (Aw ?_);refine Ad (wpAny_dictEpoch g h ?_);rw[Ak (by simp)];refine Aw ?_;simp only[show ¬((i:Int)<0) from by lia,if_false,Bo,Array.getElem?_eq_none l];refine Ad ?_
 first|refine Ad (wpAny_typeNameOfWhole_keyiter hit.typeIs (Aw ?_))|refine Ad (wpAny_typeNameOf_keyiter hit.typeIs (Aw ?_))
 show wpAny _ _ (setField (.ref c) 0 .none >>= _) _ _ s;refine Ad (wpAny_setField f hd (by simp) ?_);show wpAny _ _ (newExc (.type "StopIteration") [] >>= _) _ _ _
 refine Ad ?_;simp only[newExc,newTuple];refine Ad (wpAny_newObj_type ?_ (by size_fits));refine Ad (m:=firstArgMember _ _) (wpAny_of_eq (a:=Value.none) (by first|rfl|(simp only[firstArgMember];rfl)) ?_);refine wpAny_newObj_type ?_ (by size_fits);simp only[raiseNew];refine Ad (wpAny_handled ?_);rw[show A.in1.handled=none from j];refine Ad (Aw (wpAny_throw ?_))
 refine Ad (wpAny_isInstance (T:= "StopIteration") (b:=true) ⟨_,B9 _ rfl,rfl⟩ isSubtype_stop ?_);exact Aw (k _ (((Heap.SameBut.update ..).extBut.push _).push _))
end
end PySem
namespace L2
open PySem PySem.Spec PyProof.Rows
section
variable {X:Cx}
def OE:V->List V->Hp->VK->Prop:=λx vs H Q=>∃a kvs k b d,x=.ref a/\vs=[.ref b,d]/\H a=some (.dT kvs)/\H b=some (.tup (k.map kV))/\kvs.length<sizeLine/\(∀v,AL kvs k=some v->Q v H)/\(AL kvs k=none->Q d (upd H a (.dT (A0 kvs k d))))
def ZG(A:X.A.units+1<cLine):KD X "dict.setdefault" OE:=by
 intro Z s σ H x T v U Q I B C h;obtain⟨a,g,k,b,d,rfl,rfl,hd,l,V,D,E⟩:=h;cases B;obtain⟨u,r,rfl,F,m⟩:=Jd C;cases(show u=Value.ref b from F);obtain⟨z,n,o,j,p⟩:=HA I.hok hd
 have i:o.length<=sizeLine:=by rw[<-Paired.length j];exact z
 have f:=j.val k
 refine call_meetsIn PySem.F.slot_dict_setdefault p.typeIs PySem.F.entry_dict_setdefault (PySem.F.args_dict_setdefault_3 _ _ _) (ZC (knd:=tupleKind (EK X.prog X.w)) a b n r)
  ⟨tupleKind_room_in1 A,k,o,LF I.hok l,p,i,λy G=>?_,λJ W S K=>?_⟩
 rw[G] at f
 cases e:AL g k with
 |none=>rw[e] at f;exact False.elim f
 |some v0 =>
   rw[e] at f;exact⟨v0,H,I.tok _,f,D v0 e⟩
 rw[J] at f
 cases e:AL g k with
 |some v0=>rw[e] at f;exact False.elim f
 |none =>
   have i:(A0 g k d).length<=sizeLine:=by have:=Of g k d;lia
   obtain⟨q,L,M,t,N,O,P,_,R⟩:=S;refine⟨d,_,Og (ob:=.dT (A0 g k d)) I (by rw[hd];exact True.intro) K ⟨q,t⟩ ⟨i,n,_,(j.put k l m).keeps λc Y w=>?_,q,L,M,t,N,O,P,R⟩,m,E e⟩;rw[AE (M9 w hd (λz=>nomatch z))];exact w
def P7 (H Y H2:Hp):Prop:=∀b,H2 b=Y b\/H b=none/\∃kvs o,Y b=some (.dT kvs)/\H2 b=some (.frz o (.dT kvs))
def Inv.frz{pins:B'}{s:Shared}{σ:St}{H d:Hp}(I:Inv X pins σ H s)(h:∀b,d b=H b\/∃a o,s.heap.get? b=some o/\H b=some (.dT a)/\d b=some (.frz o (.dT a))):Inv X pins σ d s:=by
 have same:∀b u,H b=some u->(∀a,u≠.dT a)->d b=some u:=λb u e n=>by
  rcases h b with z|⟨a,o,_,z,_⟩;rw[z];exact e;rw[e] at z;cases z;exact absurd rfl (n a)
 refine I.step (g':=s.gens) (t':=s.toks) (d':=s.drawn) (h':=s.heap) (ch:=[]) (λb i=>nomatch i) (λb o ζ ζ ζ z ζ=>z) (λb o ζ ζ ζ z ζ=>⟨o.slots,z⟩) (λb o ζ ζ n=>?_) (λb o ζ z=>⟨o,z⟩)
  (λb j z=>same b _ z λζ q=>nomatch q) (λb o u z=>same b _ z λζ q=>nomatch q) (λb p z=>⟨#[],by rw[same b _ z λζ q=>nomatch q];simp⟩) (λm k=>k) (λb u z=>?_) I.bare
 rcases h b with z|⟨a,o,_,z,_⟩;rw[z];exact n;rw[n] at z;cases z;have f:∀{v:HO},H b=some v->AB X.prog X.w d s.heap b v:=λ{v}e=>(I.hok b v e).stay (λζ ζ ζ q=>q) (λc q=>same c _ q λζ q=>nomatch q) λc j q=>same c _ q λζ q=>nomatch q;rcases h b with y|⟨a,o,g,y,l⟩;rw[y] at z;exact f z;rw[l] at z;cases z;exact⟨g,f y⟩
def S7 (t:TE):TE:=λσ H Q=>t σ H λv Y=>∀H2,P7 H Y H2->(∀b kvs,H b=none->Y b=some (.dT kvs)->∃o,H2 b=some (.frz o (.dT kvs)))->Q v H2
set_option tactic.hygienic true in
def HS{e:Expr}{t:TE}(n:PE X e t):PE X e (S7 t):=by
 intro v s σ H Q I h;refine AS (n v s σ H _ I h) λu j⟨x,Y,l,p,q⟩=>?_
 classical
 let d:Hp:=λb=>if H b=none then(match Y b,j.heap.get? b with
  |some (.dT a),some o=>some (.frz o (.dT a))
  |z,_=>z) else Y b
 have k:∀b,d b=Y b\/H b=none /\ ∃a o,j.heap.get? b=some o/\Y b=some (.dT a)/\d b=some (.frz o (.dT a)):=λb=>by
  by_cases c:H b=none
  have e:d b=(match Y b,j.heap.get? b with
   |some (.dT a),some o=>some (.frz o (.dT a))
   |z,_=>z):=Al c
  by_cases hd:∃a o,Y b=some (.dT a)/\j.heap.get? b=some o;obtain⟨a,o,f,i⟩:=hd;rw[f,i] at e;exact .inr ⟨c,a,o,i,f,e⟩;refine .inl ?_;rw[e];split;rename_i a o f i;exact absurd ⟨a,o,f,i⟩ hd;rfl;exact .inl (Ak c)
 refine⟨x,d,l.frz λb=>(k b).imp id λ⟨_,z⟩=>z,p,q d (λb=>(k b).imp id λ⟨c,a,o,_,f,i⟩=>⟨c,a,o,f,i⟩) λb a c z=>?_⟩;rcases k b with y|⟨_,w,o,_,m,r⟩;exfalso
 obtain⟨_,_,_,_,o,A,B,g,_⟩:=(show AB X.prog X.w Y j.heap b (.dT a) from l.hok b _ z)
 have e:d b=some (.frz o (.dT a)):=by
  show(if H b=none then _ else _)=_;rw[Al c,z,g]
 rw[e,z] at y;cases y;rw[z] at m;cases m;exact⟨o,r⟩
def OF (a:Addr) (o:Obj) (kvs:List (List AN×V)):It:=
 ⟨λi H=>H a=some (.frz o (.dT kvs))/\i<kvs.length,λi H x H'=>H'=H/\∃k v b,kvs[i]?=some (k,v)/\x=.ref b/\H b=some (.tup (k.map kV)),λi H=>H a=some (.frz o (.dT kvs))/\kvs.length<=i⟩
def Ma{α β:Type}{F:α->β->Prop}{l:List α}{m:List β}(h:Paired F l m):∀{i:Nat}(a:i<l.length),∃y,m[i]?=some y/\F l[i] y:=by
 induction h with
 |nil=>intro i a;exact absurd a (Nat.not_lt_zero _)
 |cons r t b =>
   intro i a
   cases i with
   |zero=>exact⟨_,rfl,r⟩
   |succ i=>exact b (i:=i) (by simpa using a)
def ZH{P:Program}{w:World}{K:Ah}{T:Expr}{a j:Addr}{o:Obj}{p:List (List AN×V)}{es:Array DictEntry}{ep:Nat}(hd:o.data=.dict es ep) :
 Fo P w K T (OF a o p) [j] j (λi h=>h.IsKeyIter j a i es.size ep) where
 mem:=by simp
 obj:=λi h f b l=>by
  have e:b=j:=(by simpa using l);subst e;obtain⟨o,e,c,d⟩:=f;exact⟨o,e,λah z=>by rw[d] at z;cases z⟩
 keep:=λi h r f k=>f.at λo e=>k j (by simp) o e
 item:=by
  intro X u v x O i S s σ H E I t f A;subst u v x;obtain⟨B,C⟩:=A;obtain⟨m,z,y,U,N,W,ab,ae,g,Y,n,D,Z⟩:=(show AB X.prog X.w H s.heap a (.frz o (.dT p)) from I.hok a _ B);rw[m] at g;cases g;rw[hd] at n;cases n;obtain⟨q,hx,e1,e2,e3⟩:=Ma N C;have Q:=entry_at (knd:=tupleKind (EK X.prog X.w)) D i;rw[hx] at Q;obtain⟨af,ag⟩:=Array.getElem?_eq_some_iff.mp Q;obtain⟨F,G,aa,J,L,M⟩:=t j (by simp);refine ZE f m hd af λr R sb=>?_;have I1:Inv X S σ H {s with heap:=r}:=I.turned (t':=s.toks) (λb o l e=>(sb.2 b l).trans e) F G J L M;obtain⟨oi,e,c,d⟩:=id R;refine⟨_,rfl,Hl (s:={s with heap:=r}) e c d (by decide) ⟨.ref q.2.1,H,I1,?_,⟨rfl,p[i].1,p[i].2,q.2.1,by simp[C],rfl,e2⟩,R,λb l=>(t b l).1⟩⟩;rw[ag];rfl
 done:=by
  intro X u v x O i S s σ H E I t f A;subst u v x;obtain⟨B,C⟩:=A;obtain⟨m,z,y,U,N,W,ab,ae,g,Y,n,D,Z⟩:=(show AB X.prog X.w H s.heap a (.frz o (.dT p)) from I.hok a _ B);rw[m] at g;cases g;rw[hd] at n;cases n;have ai:=size_of_entries D;have hl:=Paired.length N;obtain⟨F,G,aa,J,L,M⟩:=t j (by simp);exact ZF (I.ok.hd O) f m hd (by lia) λr eb=>⟨rfl,I.turned (t':=s.toks) (λb o l e=>eb b o l e) F G J L M⟩
 self:=λζ ζ ζ ζ ζ f h=>wpAny_pyIter_keyiter f h
def OG (tl:TE):TI:=λσ H R=>tl σ H λx Y=>∃a kvs,x=.ref a/\Rd Y a (.dT kvs)/\∀o,(Y a=some (.dT kvs)\/Y a=some (.frz o (.dT kvs)))->R (OF a o kvs) (upd Y a (.frz o (.dT kvs)))
def JD{r l:Expr}{k:TE}(t:PE X l k):PI X r l (OG k):=by
 intro p s σ H R I h;refine AS (t p s σ H _ I h) λv c⟨x,Y,i,u,w⟩=>?_;obtain⟨a,d,e,m,q⟩:=w;subst e;cases u;obtain⟨_,y,C,_,o,D,E,g,A,n,_⟩:=(show AB X.prog X.w Y c.heap a (.dT d) from Hz i.hok m)
 have f:Y a=some (.dT d)\/Y a=some (.frz o (.dT d)):=by
  rcases m with z|⟨B,z⟩;exact .inl z
  have:=(show AB X.prog X.w Y c.heap a (.frz B (.dT d)) from i.hok a _ z).1
  rw[g] at this;cases this;exact .inr z
 have j:Inv X p σ (upd Y a (.frz o (.dT d))) c:=i.frz λb=>by
  by_cases e:b=a;subst e;rcases f with z|z;exact .inr ⟨d,o,g,z,Aa⟩;exact .inl (Aa.trans z.symm);exact .inl (AE e)
 refine ZD y g A n ?_;refine⟨c.heap.objs.size,[c.heap.objs.size],_,_,_,rfl,j.kept (t':=c.toks) λb o e=>Be _ e,ZH n,⟨_,B9 _ rfl,rfl,rfl⟩,λb f=>?_,q o f⟩;have e:b=c.heap.objs.size:=(by simpa using f);subst e;exact j.fpOk (AD _) (j.hok.fresh (AD _))
def ZI{a:Addr}{o:Obj}{c:List (List AN×V)}{g:TG}{tb:TS}{D:Ends}{σ:St}{H:Hp}(Pv:Nat->St->Hp->Prop)(j:Pv 0 σ H)(l:∀i σ H,i<=c.length->Pv i σ H->H a=some (.frz o (.dT c)))
 (n:∀i k v b σ H,c[i]?=some (k,v)->H b=some (.tup (k.map kV))->Pv i σ H->g (.ref b) σ H λσ2 d=>tb {D with nx:=Pv (i+1),ct:=Pv (i+1),bk:=D.nx} σ2 d) (hd:∀σ H,Pv c.length σ H->D.nx σ H) :
 ∃W:Nat->Nat->St->Hp->Prop,(∃m,W 0 m σ H)/\∀i m σ H,W i m σ H ->
  ((OF a o c).stop i H/\D.nx σ H)\/((OF a o c).go i H/\∃N:St->Hp->Prop,(∀σ' H',N σ' H'->∃f,f<m/\W (i+1) f σ' H')/\∀x H',(OF a o c).yld i H x H'->g x σ H' λσ2 d=>tb {D with nx:=N,ct:=N,bk:=D.nx} σ2 d):=by
 refine⟨λi m σ H=>m=c.length-i/\i<=c.length/\Pv i σ H,⟨c.length,by simp,Cm _,j⟩,?_⟩;rintro i m σ H ⟨rfl,r,p⟩;have q:=l i σ H r p;by_cases h:i<c.length;refine .inr ⟨⟨q,h⟩,Pv (i+1),λσ' H' s=>⟨c.length-(i+1),by lia,rfl,h,s⟩,λx H' y=>?_⟩;obtain⟨e,k,v,b,t,u,w⟩:=y;subst e u;exact n i k v b σ _ t w p;have e:i=c.length:=(by lia);subst e;exact .inl ⟨⟨q,AD _⟩,hd σ H p⟩
end
end L2
namespace PySem
section
variable {prog:Program} {w:World} {A:Around} {E:D'} {s:Shared}
theorem Wf{a:Addr}{o:Obj}{xs:Array Value}{k:Nat}{Q:Option Value->Shared->Prop}
 (f:s.heap.get? a=some o) (i:o.cls=.type "list") (n:o.data=.seq xs k) (hd:o.dict=none) (p:A.handled=none)
 (h:∀h' tk,(∀b o,s.heap.get? b=some o->h'.get? b=some o)->Q none {s with heap:=h',toks:=tk}):wpAny (model prog w) A (getAttr? (.ref a) "keys") Q E s:=by
 obtain⟨c,dct,G,q⟩:=o;simp only at i n hd;subst i n hd;obtain⟨r,g,d,tk,t⟩:=s;have j:∀l,(⟨r,g,d,l,t⟩:Shared).TypeIs (.ref a) "list" :=λζ=>⟨_,f,rfl⟩;have v:=sub_AttributeError;have x:=F.slot_list_getattribute.lookup;have y:=F.slot_list_getattribute.bind (.ref a);have z:=am_list_getattr_none;have u:typeLookup (.type "list") "keys" = pure none:=by rw[typeLookup_type,builtinLookup_eq_fast];kernel_rfl
 unfold getAttr? getAttrBy? getAttrBy
 repeat (any_goals (first|assumption|exact j _|((with_reducible show wpAny _ _ (call (Value.builtin "list.__getattribute__") _ _) _ _ _);refine call_meets F.slot_list_getattribute (j _) am_entry_list_getattribute (F.args_list_getattribute_2 _ _) (meets_getattribute_miss_list a xs k q "keys" _ u (by decide) (by size_fits)) ⟨f,p,λh' l e m=>?_⟩)|wp_step))
 obtain⟨B,C,D⟩:=m.there;show wpAny _ _ (getattributeRaised _ _ _ _ _ _ _) _ _ _;unfold getattributeRaised
 repeat (any_goals (first|assumption|wp_step))
 exact h _ _ m.keeps
namespace F
def args_minD(a v:Value):argsOk "min" ⟨[a],[(Str.ofString "default",v)]⟩:=by unfold argsOk;kernel_rfl
def entry_upd_loop:entryFor table "dict.update.loop" = some Builtin.«dict.update.loop»:=entryFor_of_tree (by kernel_rfl)
def plain_upd_loop:plainId "dict.update.loop" = true:=by decide +kernel
end F
variable {R:Result->Shared->Prop} {I:Addr} {fp r:List Addr} {n:Nat} {P:Nat->Value->Prop} {St:Nat->Heap->Prop}
def P8:(toString "min" ++ toString ".loop" : String) = "min.loop" :=by decide
theorem S8(W:Walks prog w A.in1 I fp r n P St)(d:Nat->Nat->Bool)(E:CmpOf prog w A.in1 .Lt P d)(S:Addr)(m:S∉fp)(t:List (Str×Value)) :
 ∀(k j:Nat)(s:Shared)(a:Value)(c:Nat),n=j+1+k->St (j+1) s.heap->P (argBest d j) a->s.heap.get? S=some {cls:=.type "list",data:=.seq #[a,a] c} ->
 (∀v h' tk,P (argBest d (n-1)) v->(∀b o,b∉r->b≠S->s.heap.get? b=some o->h'.get? b=some o)->R (.ok (.ret v)) {s with heap:=h',toks:=tk}) ->
 codeAny (model prog w) A (.builtin "min.loop" ⟨[.ref I,.none,.ref S],t⟩) R s
 |0,j,s,a,c,G,y,q,l,p=>by
   subst G;refine codeAny_builtin F.entry_min_loop ?_;rw[Around.under_plainId F.plain_min_loop _];show wpAny _ A.in1 (seqItems? (.ref S) >>= _) _ _ s;refine Ad (Gk l rfl ?_);show wpAny _ A.in1 (tryCatch (pyNext (.ref I)) _ >>= _) _ _ s;refine Ad (wpAny_tryCatch (W.done s _ _ y λh' tk g=>?_));show wpAny _ A.in1 (updateSeq S (λζ=>#[]) >>= _) _ _ _;refine Ad (wpAny_updateSeq (g S _ (λh=>m (W.sub _ h)) l) rfl (Ad (wpAny_letGo (Aw (p a _ tk q λb o f i e=>?_)))));exact(Heap.get?_update_other _ _ (Ne.symm i)).trans (g b o f e)
 | k + 1,j,s,a,c,G,y,q,l,p=>by
   refine codeAny_builtin F.entry_min_loop ?_;rw[Around.under_plainId F.plain_min_loop _];show wpAny _ A.in1 (seqItems? (.ref S) >>= _) _ _ s;refine Ad (Gk l rfl ?_);show wpAny _ A.in1 (tryCatch (pyNext (.ref I)) _ >>= _) _ _ s;refine Ad (wpAny_tryCatch (W.item (j+1) s _ _ (by lia) y λv h' tk H K g=>?_));have z:=g S _ (λh=>m (W.sub _ h)) l;show wpAny _ A.in1 (tryCatch (holding [v,v] (richCompare .Lt v a >>= _)) _ >>= _) _ _ _;refine Ad (wpAny_tryCatch (Fl (Ad (E (j+1) (argBest d j) v a _ _ _ H q (Ad (Fl (FI (Ad (wpAny_letGo (Aw ?_))))))))))
   cases J:d (j+1) (argBest d j) with
   |true =>
     simp only[if_true];refine Ad (wpAny_updateSeq z rfl (Ad (wpAny_letGo ?_)));rw[P8];refine Aw ⟨plainId_quiet F.plain_min_loop _,S8 W d E S m t k (j+1) _ v _ (by lia) (W.frame _ _ _ K λb L o e=>?_) (by simp only[argBest,J,if_true];exact H) (Heap.get?_update_self _ z rfl) λu x B C D=>?_⟩;exact(Heap.get?_update_other _ _ (λh:S=b=>m (by rw[h];exact L))).trans e;exact p u x B C λb o f i e=>D b o f i ((Heap.get?_update_other _ _ (Ne.symm i)).trans (g b o f e))
   |false =>
     simp only[Fk,if_false];refine Ad (wpAny_letGo ?_);rw[P8]
     exact Aw ⟨plainId_quiet F.plain_min_loop _,S8 W d E S m t k (j+1) _ a c (by lia) K (by simp only[argBest,J,Fk,if_false];exact q) z λu x B C D =>
      p u x B C λb o f i e=>D b o f i (g b o f e)⟩
theorem ZJ{x d:Value}{Q:D'}
 (h:wpAny (model prog w) A.in1 (pyIter x) (λl c=>∃I fp r n P St f,l=.ref I/\Walks prog w A.in1 I fp r n P St/\St 0 c.heap/\(∀b∈fp,b<c.heap.objs.size)/\CmpOf prog w A.in1 .Lt P f /\
  ∀v h' tk,(if n=0 then v=d else P (argBest f (n-1)) v)->(∀b o,b∉r->c.heap.get? b=some o->h'.get? b=some o)->Q v {c with heap:=h',toks:=tk}) E s) :
 wpAny (model prog w) A (call (.builtin "min") [x] [(Str.ofString "default",d)]) Q E s:=by
 refine wpAny_call (codeAny_call_builtin F.plain_min F.entry_min (wpAny_of_eq (a:=()) (by
  have j:=F.args_minD x d;simp only[checkBuiltinCall,F.kind_min];unfold argsOk at j
  cases O:Manifest.signature? "min" with
  |none=>rfl
  |some T=>rw[O] at j;exact j) ?_))
 show wpAny _ A.in1 (Builtin.Builtins.bindParams "min" ["key", "default"] 0 ⟨[],[(Str.ofString "default",d)]⟩ >>= _) _ _ s
 refine Ad (wpAny_of_eq (show Builtin.Builtins.bindParams "min" ["key", "default"] 0 ⟨[],[(Str.ofString "default",d)]⟩=pure [none,some d] from rfl) ?_)
 refine Ad (Aw ?_);refine Ad (FP h (λl c y=>?_) λζ ζ e=>e);obtain⟨I,fp,r,n,P,St,f,rfl,W,G,H,R,m⟩:=y;refine Ad (wpAny_newObj_type ?_);have k:c.heap.objs.size∉fp:=λz=>Gi _ (H _ z);have J:c.heap.objs.size∉r:=λh=>k (W.sub _ h);rw[P8];have p:(c.heap.push {cls:=.type "list",data:=.seq #[]}).get? c.heap.objs.size=some {cls:=.type "list",data:=.seq #[]}:=B9 _ rfl;have u:=W.frame _ _ (c.heap.push {cls:=.type "list",data:=.seq #[]}) G λb ζ o e=>Be _ e;refine Aw ⟨plainId_quiet F.plain_min_loop _,codeAny_builtin F.entry_min_loop ?_⟩;rw[Around.under_plainId F.plain_min_loop _];show wpAny _ A.in1 (seqItems? (.ref c.heap.objs.size) >>= _) _ _ _;refine Ad (Gk p rfl ?_);show wpAny _ A.in1 (tryCatch (pyNext (.ref I)) _ >>= _) _ _ _
 cases n with
 |zero =>
   refine Ad (wpAny_tryCatch (W.done _ _ _ u λh' tk g=>?_));exact Ad (Hi (Aw (m d _ tk (by rw[Al rfl]) λb o i e=>g b o i (Be _ e))))
 |succ n =>
   refine Ad (wpAny_tryCatch (W.item 0 _ _ _ (Nat.succ_pos _) u λv h' tk B S g=>?_));have t:=g _ _ J p;show wpAny _ A.in1 (updateSeq c.heap.objs.size (λζ=>#[v,v]) >>= _) _ _ _;refine Ad (wpAny_updateSeq t rfl ?_);rw[P8];refine Aw ⟨plainId_quiet F.plain_min_loop _,S8 W f R _ k _ n 0 _ v _ (by lia) (W.frame _ _ _ S λb K o e=>?_) B (Heap.get?_update_self _ t rfl) λC D L M N=>?_⟩;exact(Heap.get?_update_other _ _ (λh:c.heap.objs.size=b=>k (by rw[h];exact K))).trans e;refine m C D L (by rw[Ak (Nat.succ_ne_zero n)];exact M) λb o i e=>?_;have q:b≠c.heap.objs.size:=CU (A5 e);exact N b o i q ((Heap.get?_update_other _ _ (Ne.symm q)).trans (g b o i (Be _ e)))
end
end PySem
namespace L2
open PySem PySem.Spec PyProof.Rows
section
variable {X:Cx}
def P9:List Int->V
 |[]=>.non
 |n::ns=>.int (ns.foldl min n)
theorem Wg(f:Nat->Int):∀n,f (argBest (λi j=>decide (f i<f j)) n)=((List.range n).map λi=>f (i+1)).foldl min (f 0)
 |0=>rfl
 |n+1=>by
   have a:=Wg f n;rw[List.range_succ,Br,Kt];show f (if _ then _ else _)=min _ (f (n+1));rw[<-a]
   by_cases h:f (n+1)<f (argBest (λi j=>decide (f i<f j)) n);rw[Al (A7 h)];lia;rw[Ak (by simpa using h)];lia
def ZK(n:Int)(ns:List Int):((List.range ns.length).map λi=>(n::ns).getD (i+1) 0)=ns:=by
 apply List.ext_getElem?;intro i;rw[Bh];by_cases h:i<ns.length;rw[List.getElem?_range h,Option.map_some,B0,List.getElem?_cons_succ,AC h];rfl;rw[Fh (by simpa using h),Fh (by lia)];rfl
def OH (ta:TA):TE:=λσ H Q=>ta σ H λvs Y=>∃p ns,vs=[.ref p]/\Y p=some (.lst (ns.map V.int))/\Q (P9 ns) Y
def JE{e:Expr}{r:TA}{p L B J:Pos}{j:Nat}(C:X.calm=true)(D:Gl X "min")(E:X.mg "min" = none)(F:PA X [e] r)
 (f:backTo L (starEach [e] X.env)=(false,eval e X.env)::backTo L (starEach [] X.env):=by rfl) (R:(backTo L (starEach [e] X.env)).any (·.1)=false:=by rfl) :
 PE X (.Call (.Name "min" p) [e] [⟨some "default",.Constant .none j B,J⟩] L) (OH r):=by
 intro T s σ H Q I h;refine wpAny_Call_Name_kw (IX I D E (u:=.builtin "min") (by decide +kernel) (callWith_kw (AS (F L T s σ H _ I h) λW c⟨Z,Y,k,G,K⟩=>kws_cons (Constant_none (kws_nil ?_))) f R))
 obtain⟨l,a,rfl,M,q⟩:=K;obtain⟨u,rfl,N⟩:=Fp G;cases N;obtain⟨z,g,n,w,e⟩:=(show AB X.prog X.w Y c.heap l (.lst (a.map V.int)) from k.hok l _ M);have x:=Yp w;have y:c.heap.IsList l g.toArray:=⟨_,e,rfl,n,rfl⟩
 have U:g.length=a.length:=by have:=w.length;rw[An] at this;exact this.symm
 refine ZJ (wpAny_pyIter_list y ⟨_,[c.heap.objs.size,l],[c.heap.objs.size],_,λi v=>g.toArray[i]?=some v,λi h=>h.IsListIter c.heap.objs.size l i/\h.IsList l g.toArray,λi j=>decide (a.getD i 0<a.getD j 0),rfl,Walks.list (A:=X.A.in1) (k.ok.hd C) c.heap.objs.size l (CU (A5 e)) g.toArray,
  ⟨⟨_,B9 _ rfl,rfl,rfl⟩,y.push _⟩,λb f=>?_,CmpOf.ints_lt (λi=>a.getD i 0) (λi v d=>x.int_at i v (by simpa using d)),λv O tk d P=>?_⟩)
 show b<(c.heap.push _).objs.size;rw[Heap.size_push];rcases Cj.mp f with rfl|f;exact Q7 _;rw[AZ.mp f];exact Nat.lt_succ_of_lt (A5 e);have S:∀b o,c.heap.get? b=some o->O.get? b=some o:=λb o z=>P b o (by simpa using CU (A5 z)) (Be _ z);refine⟨P9 a,Y,k.kept S,?_,q⟩;rw[Ck,U] at d
 cases a with
 |nil=>exact d
 |cons m a =>
   rw[El,Ak (Nat.succ_ne_zero _),Nat.add_sub_cancel] at d;obtain⟨t,rfl⟩:=x.int_at (argBest (λi j=>decide ((m::a).getD i 0<(m::a).getD j 0)) a.length) v (by rw[<-List.getElem?_toArray];exact d);refine⟨t,?_⟩;rw[Wg λi=>(m::a).getD i 0,ZK];rfl
def KX (acc:List (List AN×V)) (ps:List (List AN×V)):List (List AN×V):=ps.foldl (λa kv=>A0 a kv.1 kv.2) acc
def E5 (H:Hp) (xs:List V) (ps:List (List AN×V)):Prop:=Paired (λx(p:List AN×V)=>∃t b,x=.ref t/\H t=some (.tup [.ref b,p.2])/\H b=some (.tup (p.1.map kV))) xs ps
def ZL{pins:B'}{σ:St}{A:Around}{R:Result->Shared->Prop}{H:Hp}{p l f:Addr}(hu:A.units+1<cLine)(hh:A.in1.handled=none)(k:H p=none)(F:f≠p) :
 ∀(xs:List V)(ps:List (List AN×V))(d:List V)(acc:List (List AN×V))(s:Shared),E5 H xs ps->H l=some (.lst (d++xs))->acc.length+xs.length<=sizeLine->Inv X pins σ (upd H p (.dT acc)) s ->
 s.heap.IsListIter f l d.length->Ec X pins H f->(∀Z,Inv X pins σ (upd H p (.dT (KX acc ps))) Z->R (.ok (.ret .none)) Z)->∀n:Int,
 codeAny (model X.prog X.w) A (.builtin "dict.update.loop" ⟨[.ref p,.ref f,rawInt n,.none],[]⟩) R s:=by
 intro xs ps d acc s hx
 induction hx generalizing d acc s with
 |nil =>
   intro g K I u m v n;have G:upd H p (.dT acc) l=some (.lst (d++[])):=(AE (AK g k)).trans g;obtain⟨w,y,aa,B,C,D⟩:=m;have J:upd H p (.dT acc) f=none:=(AE F).trans w;obtain⟨z,U,c,E,e⟩:=(show AB X.prog X.w _ s.heap l (.lst (d++[])) from I.hok l _ G);have an:=E.length;rw[FH] at an;refine codeAny_builtin PySem.F.entry_upd_loop ?_;rw[Around.under_plainId PySem.F.plain_upd_loop _];show wpAny _ A.in1 (pyNext (.ref f) >>= _) _ _ s;refine Ad (wpAny_pyNext_list_end hh u ⟨_,e,rfl,c,rfl⟩ (by simp;lia) λj eb=>?_);exact Ad (Aw (Aw (v _ (I.turned (t':=s.toks) (λb o h e=>eb b o h e) J y B C D))))
 |@cons x q xs ps hq tl ih =>
   intro g K I u m v n;obtain⟨t,b,rfl,L,h⟩:=hq;have G:upd H p (.dT acc) l=some (.lst (d++.ref t::xs)):=(AE (AK g k)).trans g;have af:upd H p (.dT acc) t=some (.tup [.ref b,q.2]):=(AE (AK L k)).trans L;have W:upd H p (.dT acc) b=some (.tup (q.1.map kV)):=(AE (AK h k)).trans h;obtain⟨w,y,aa,B,C,D⟩:=id m;have J:upd H p (.dT acc) f=none:=(AE F).trans w;obtain⟨z,U,c,E,e⟩:=(show AB X.prog X.w _ s.heap l (.lst (d++.ref t::xs)) from I.hok l _ G);obtain⟨ao,ag,ru⟩:=E.get (i:=d.length) (x:=.ref t) (by simp);cases ru;refine codeAny_builtin PySem.F.entry_upd_loop ?_;rw[Around.under_plainId PySem.F.plain_upd_loop _];show wpAny _ A.in1 (pyNext (.ref f) >>= _) _ _ s;refine Ad (wpAny_pyNext_list_item u (⟨_,e,rfl,c,rfl⟩:s.heap.IsList l U.toArray) (x:=.ref t) (by simpa using ag) λj ah sb=>?_);have r:Inv X pins σ (upd H p (.dT acc)) {s with heap:=j}:=I.turned (t':=s.toks) (λb o h e=>(sb.2 b h).trans e) J y B C D;obtain⟨_,ts,rt,ot,M,ct,nt,dt⟩:=(show AB X.prog X.w _ j t (.tup [.ref b,q.2]) from r.hok t _ af);obtain⟨u1,N,rfl,r1,r2⟩:=Jd rt;cases(show u1=Value.ref b from r1);obtain⟨zd,hm,es,Y,dd⟩:=HA r.hok (Aa (H:=H) (a:=p) (o:=.dT acc))
   have ai:es.length<=sizeLine:=by rw[<-Paired.length Y];exact zd
   have aq:(A0 acc q.1 q.2).length<=acc.length+1:=Of acc q.1 q.2;rw[El] at K;refine Ad (Fl (Ad (wpAny_tryCatch ?_)));show wpAny _ A.in1 (Builtin.Dict.pairItems (.ref t)) _ _ _;unfold Builtin.Dict.pairItems;refine Ad (M5 (s:={s with heap:=j}) (T:= "tuple") ⟨ot,M,ct⟩ ?_);rw[Al (by decide)];refine Ad (Gk (s:={s with heap:=j}) M dt (Aw ?_));show wpAny _ A.in1 (holding [Value.ref b,N] (dictSet p (.ref b) N)) _ _ _;refine Fl (wpAny_dictSet_heap (hsz:=ai) (knd:=tupleKind (EK X.prog X.w)) (tupleKind_room_in1 hu) (LF r.hok W) dd λh2 aj O=>?_);obtain⟨P,ak,al,Q,ab,ae,g4,_,g5⟩:=aj
   have I2:Inv X pins σ (upd H p (.dT (A0 acc q.1 q.2))) {s with heap:=h2,toks:=s.toks+(tupleKind (EK X.prog X.w)).draws q.1}:=by
    have:=Og (t':=s.toks+(tupleKind (EK X.prog X.w)).draws q.1) (ob:=.dT (A0 acc q.1 q.2)) r (by rw[Aa];exact True.intro) O ⟨P,Q⟩ ⟨by lia,hm,_,(Y.put q.1 W r2).keeps λc ys S=>?_,P,ak,al,Q,ab,ae,g4,g5⟩;rw[UR] at this;exact this;rw[AE (M9 S Aa (λz=>nomatch z))];exact S
   refine Aw ⟨plainId_quiet PySem.F.plain_upd_loop _,?_⟩;have:=ih (d++[.ref t]) (A0 acc q.1 q.2) _ (by rw[F5];exact g) (by lia) I2 (by rw[AY];exact ah.at λo e=>(O.2 f F).trans e) m v (n+1);exact this
def JF:List V->Hp->VK->Prop:=λvs H Q=>∃l xs ps,vs=[.ref l]/\H l=some (.lst xs)/\xs.length<sizeLine/\E5 H xs ps/\∀p,H p=none->Q (.ref p) (upd H p (.dT (KX [] ps)))
def ZM(j:X.calm=true)(y:X.A.units+2<cLine):Ba X (.type "dict") JF:=by
 intro pins s σ H K L Q I r h;obtain⟨l,k,B,rfl,m,M,C,q⟩:=h;obtain⟨u,rfl,D⟩:=Fp r;cases D;have n:H s.heap.objs.size=none:=I.hok.fresh (AD _);refine callType_codes (Q₁:=λw p=>w=.ref s.heap.objs.size/\p={s with heap:=s.heap.push {cls:=.type "dict",data:=.dict #[]}}) PySem.F.kt_called_dict (PySem.F.kt_typeCall_dict_1 _) PySem.F.entry_dict_init (kt_code_dict_new _ ⟨rfl,rfl⟩) ?_;rintro w p ⟨rfl,rfl⟩;have E:=I.laid (a:=s.heap.objs.size) (o:=.dT []) (t':=s.toks) (h':=s.heap.push {cls:=.type "dict",data:=.dict #[]}) (λζ ζ q=>Be _ q) (AD _) (Vo s.heap I.big)
 obtain⟨z,O,c,N,e⟩:=(show AB X.prog X.w _ s.heap l (.lst k) from I.hok l _ m)
 have f:=Be {cls:=.type "dict",data:=.dict #[]} e;have t:Shared.TypeIs {s with heap:=s.heap.push {cls:=.type "dict",data:=.dict #[]}} (.ref s.heap.objs.size) "dict" :=⟨_,B9 _ rfl,rfl⟩;refine⟨t,PySem.F.args_dict_init_2 _ _,?_⟩;unfold Builtin.«dict.__init__»;refine Ad ?_;unfold Builtin.Dict.selfAndRest;refine Ad (wpAny_notOrdered_dict t ?_);show wpAny _ _ (pure (s.heap.objs.size,[Value.ref l])) _ _ _;refine Aw ?_;show wpAny _ _ (Builtin.Dict.updateFrom "dict.__init__" s.heap.objs.size (.ref l) [] .none) _ _ _;unfold Builtin.Dict.updateFrom;refine Ad (M5 (T:= "list") ⟨_,f,rfl⟩ ?_)
 rw[Al (by decide)];refine Ad (Wf f rfl rfl rfl (I.ok.hd j) λd tk v=>?_);rw[Al (show(none:Option Value).isNone=true from rfl)];have g:=E.kept (t':=tk) v;refine Ad (Hi (Ad (wpAny_pyIter_list (s:={s with heap:=d,toks:=tk}) ⟨_,v _ _ f,rfl,c,rfl⟩ ?_)))
 have F:=g.kept (t':=tk) (h':=d.push {cls:=.type "list_iterator",data:=.fields #[.ref l,.int 0 0]}) λb o e=>Be _ e;obtain⟨i,G⟩:=g.fpOk (AD d.objs.size) (g.hok.fresh (AD _));have x:d.objs.size≠s.heap.objs.size:=λz=>by rw[z,Aa] at i;cases i
 refine Aw ⟨plainId_quiet PySem.F.plain_upd_loop _,ZL (A:=X.A.in1) (X:=X) (pins:=pins) (σ:=σ) (l:=l) (H:=H) y (I.ok.hd j) n x k B [] [] _ C m (by rw[Gx];lia) F ⟨_,B9 _ rfl,rfl,rfl⟩ ⟨(AE x).symm.trans i,G⟩ (λZ J=>⟨rfl,.ref _,_,J,rfl,q _ n⟩) 0⟩
end
open Ord
def ZN{bs:List Bool}:(List.range bs.length).any (λi=>bs.getD i false)=bs.any id:=by
 rw[Bool.eq_iff_iff,Gh,Gh];constructor;rintro⟨i,a,h⟩;have c:=List.mem_range.mp a;rw[B0,AC c] at h;exact⟨_,Ep c,h⟩;rintro⟨b,d,h⟩;obtain⟨i,a,e⟩:=Pj.mp d;refine⟨i,List.mem_range.mpr a,?_⟩;rw[B0,AC a,e];exact h
def S9 (K:Ah):List V->Hp->VK->Prop:=λvs H Q=>∃(a:Addr)(bs:List Bool),vs=[.ref a]/\Ae K H a (bs.map V.bl)/\Q (.bl (bs.any id)) H
def Wh{X:Cx}(g:X.calm=true):Ba X (.builtin "any") (S9 X.K):=by
 intro B s σ H t w Q I r h;obtain⟨a,bs,rfl,j,q⟩:=h;obtain⟨u,rfl,k⟩:=Fp r;obtain rfl:u=Value.ref a:=k;obtain⟨c,d,p,x⟩:=I.list j;have f:=d.length;rw[An] at f;have n:a<s.heap.objs.size:=by obtain⟨_,e,_⟩:=p.isList;exact A5 e
 refine call_any_walk (wpAny_pyIter_list p.isList ?_);refine⟨s.heap.objs.size,[s.heap.objs.size,a],[s.heap.objs.size],c.toArray.size,(λi v=>c.toArray[i]?=some v),(λi h=>h.IsListIter s.heap.objs.size a i/\h.IsList a c.toArray),(λi=>bs.getD i false),rfl,Walks.list (A:=X.A.in1) (I.ok.hd g) s.heap.objs.size a (CU n) c.toArray,⟨⟨_,B9 _ rfl,rfl,rfl⟩,p.isList.push _⟩,Vq d,λy tk l=>?_⟩;refine⟨.bl (bs.any id),H,I.kept λb o e=>l b o (λz=>?_) (Be _ e),?_,q⟩;have m:b=s.heap.objs.size:=(by simpa using z);exact absurd (A5 e) (by rw[m];exact Gi _);have e:c.toArray.size=bs.length:=(by rw[Ck,f]);show Value.bool _=Value.bool _;rw[e,ZN]
section
variable {prog:Program} {w:World} {A:Around} {E:D'} {s:Shared}
end
section
variable {X:Cx}
end
end L2
namespace TreeM
def Ta{β:Type}{P:List β->Prop}(nil:P [])(snoc:∀l x,P l->P (l++[x]))(l:List β):P l:=by
 have:∀l:List β,P l.reverse:=λl=>by
  induction l with
  |nil=>exact nil
  |cons x l a=>rw[List.reverse_cons];exact snoc _ _ a
 rw[<-List.reverse_reverse l];exact this _
variable {α:Type} [DecidableEq α]
abbrev Ws (α:Type):=List (Nat×List α)
def nxt (p:List α) (w:List α):Option α:=if p <+: w then w[p.length]? else none
def keysAt (ws:Ws α) (p:List α):List (α×Nat):=ws.foldl (λks kw=>match nxt p kw.2 with
 |some m=>if m∈ks.map (·.1) then ks else ks++[(m,kw.1)]
 |none=>ks) []
theorem KY(ws:Ws α)(k:Nat)(w p:List α):keysAt (ws++[(k,w)]) p=match nxt p w with
 |some m=>if m∈(keysAt ws p).map (·.1) then keysAt ws p else keysAt ws p++[(m,k)]
 |none=>keysAt ws p:=by
 unfold keysAt;rw[Kt];rfl
def JG(p:List α):nxt p p=none:=by
 unfold nxt;rw[Al (List.prefix_refl p)];exact Fh (AD _)
def ZO(p:List α)(m:α):nxt p (p++[m])=some m:=by
 unfold nxt;rw[Al (IB p [m]),EW (AD _),Nat.sub_self];rfl
variable {p:List α}{m:α}
def ZP{q:List α}(h:p≠q):nxt p (q++[m])=nxt p q:=by
 unfold nxt;by_cases a:p <+: q;rw[Al a,Al (a.trans (IB q [m]))]
 have l:p.length<q.length:=by
  rcases Nat.lt_or_ge p.length q.length with x|x;exact x;exact absurd (a.eq_of_length_le x) h
 exact EJ l;rw[Ak a];by_cases b:p <+: q++[m];rw[Al b];rcases List.prefix_concat_iff.mp b with e|e;rw[e];exact Fh (AD _);exact absurd e a;rw[Ak b]
def ZQ(ws:Ws α)(k:Nat)(p:List α):keysAt (ws++[(k,[])]) p=keysAt ws p:=by
 rw[KY]
 have:nxt p ([]:List α)=none:=by
  unfold nxt;by_cases a:p <+: [];rw[Al a];rfl;rw[Ak a]
 rw[this]
variable {ws:Ws α}
def Tb{k:Nat}{q:List α}(h:p≠q):keysAt (ws++[(k,q++[m])]) p=keysAt (ws++[(k,q)]) p:=by
 rw[KY,KY,ZP h]
def Wi(ws:Ws α)(k:Nat)(q:List α)(m:α):keysAt (ws++[(k,q++[m])]) q =
 if m∈(keysAt (ws++[(k,q)]) q).map (·.1) then keysAt (ws++[(k,q)]) q else keysAt (ws++[(k,q)]) q++[(m,k)]:=by
 rw[KY,KY,ZO,JG]
def FW{w:List α}:nxt p w=some m↔p++[m] <+: w:=by
 unfold nxt;by_cases a:p <+: w;rw[Al a];obtain⟨t,rfl⟩:=a;rw[EW (AD _),Nat.sub_self]
 cases t with
 |nil =>
   refine⟨λe=>(nomatch e),λe=>?_⟩;have:=e.length_le;rw[FH,AY] at this;exact absurd this (by show ¬p.length+1<=p.length;lia)
 |cons x t =>
   refine⟨λe=>?_,λe=>?_⟩;cases e;exact⟨t,by simp⟩;obtain⟨u,e⟩:=e;rw[F5] at e;have:=List.append_cancel_left e;simp at this;rw[this.1];rfl
 rw[Ak a];exact⟨λe=>(nomatch e),λe=>absurd ((IB p [m]).trans e) a⟩
def keysAt_mem:m∈(keysAt ws p).map (·.1)↔∃a∈ws,p++[m] <+: a.2:=by
 induction ws using Ta with
 |nil=>exact⟨λh=>(nomatch h),λ⟨_,h,_⟩=>(nomatch h)⟩
 |snoc ws a c =>
   obtain⟨k,w⟩:=a;rw[KY]
   have both:(∃a∈ws++[(k,w)],p++[m] <+: a.2)↔(∃a∈ws,p++[m] <+: a.2)\/p++[m] <+: w:=by
    constructor;rintro⟨x,b,e⟩;rcases BI.mp b with y|y;exact .inl ⟨x,y,e⟩;rw[AZ.mp y] at e;exact .inr e;rintro(⟨x,b,e⟩|e);exact⟨x,Ek _ b,e⟩;exact⟨_,Dj _ (AZ.mpr rfl),e⟩
   rw[both,<-c,<-FW]
   cases b:nxt p w with
   |none=>exact⟨.inl,λz=>z.elim id λe=>(nomatch e)⟩
   |some x =>
     dsimp only;by_cases d:x∈(keysAt ws p).map (·.1);rw[Al d];exact⟨.inl,λz=>z.elim id λe=>by cases e;exact d⟩;rw[Ak d,Br,BI];refine or_congr Iff.rfl ?_;simp[eq_comm]
def Wj{k:Nat}(l:(ws.map (·.1)).Pairwise (· < ·))(h:(m,k)∈keysAt ws p):(∃w,(k,w)∈ws/\p++[m] <+: w)/\∀j w,(j,w)∈ws->p++[m] <+: w->k<=j:=by
 induction ws using Ta with
 |nil=>cases h
 |snoc ws o q =>
   obtain⟨n,v⟩:=o;rw[Br,List.pairwise_append] at l;obtain⟨r,-,s⟩:=l;have z:∀j w,(j,w)∈ws->j<n:=λj w e=>s j (A3.mpr ⟨_,e,rfl⟩) n (AZ.mpr rfl);rw[KY] at h
   have i:(m,k)∈keysAt ws p->(∃w,(k,w)∈ws++[(n,v)]/\p++[m] <+: w)/\∀j w,(j,w)∈ws++[(n,v)]->p++[m] <+: w->k<=j:=λt=>by
    obtain⟨⟨w,a,b⟩,c⟩:=q r t;refine⟨⟨w,Ek _ a,b⟩,λj u e f=>?_⟩;rcases BI.mp e with y|y;exact c j u y f;cases AZ.mp y;exact Dm (z _ _ a)
   cases g:nxt p v with
   |none=>rw[g] at h;exact i h
   |some x =>
     rw[g] at h;dsimp only at h;by_cases d:x∈(keysAt ws p).map (·.1);rw[Al d] at h;exact i h;rw[Ak d] at h;rcases BI.mp h with y|y;exact i y;cases AZ.mp y;refine⟨⟨v,Dj _ (AZ.mpr rfl),FW.mp g⟩,λj u e f=>?_⟩;rcases BI.mp e with y|y;exact absurd (keysAt_mem.mpr ⟨_,y,f⟩) d;cases AZ.mp y;exact AD _
section
variable (bet:α->α->Bool)
def AM:List α->List α->Bool
 |x::s,m::t=>if x=m then AM s t else bet x m
 |_,_=>false
def gat (ws:Ws α):List α->List α->List Nat
 |_,[]=>[]
 |a,m::t=>((keysAt ws a).filter λxk=>bet xk.1 m).map (·.2)++gat ws (a++[m]) t
end
variable {bet:α->α->Bool}
def Mb{a b:List α}{x:α}{t:List α}(h:a++[x] <+: b)(c:x≠m):AM bet b (a++m::t)=bet x m:=by
 obtain⟨u,rfl⟩:=h
 induction a with
 |nil=>show(if x=m then _ else bet x m)=_;rw[Ak c]
 |cons y a d=>show(if y=y then _ else _)=_;rw[Al rfl];exact d
theorem Wk{ws:Ws α}(g:(ws.map (·.1)).Pairwise (· < ·))(irr:∀m,bet m m=false):∀(b a:List α)(k:Nat),k∈gat bet ws a b->∃w,(k,w)∈ws/\AM bet w (a++b)=true
 |[],_,_,h=>nomatch h
 |m::t,a,k,h=>by
   rcases BI.mp h with y|y;obtain⟨⟨x,j⟩,z,rfl⟩:=A3.mp y;obtain⟨i,d⟩:=M0.mp z;obtain⟨⟨w,f,c⟩,-⟩:=Wj g i;refine⟨w,f,?_⟩;rw[Mb c (λe=>?_)];exact d;rw[e,irr] at d;cases d;obtain⟨w,f,c⟩:=Wk g irr t (a++[m]) k y;refine⟨w,f,?_⟩;rw[F5] at c;exact c
theorem Wl:∀{b w:List α},AM bet w b=true->∃a x m t,b=a++m::t/\a++[x] <+: w/\x≠m/\bet x m=true
 |m::t,x::s,h=>by
   by_cases e:x=m;subst e;have h':AM bet s t=true:=(by simpa [AM] using h);obtain⟨a,y,n,u,rfl,c,d,f⟩:=Wl h';exact⟨x::a,y,n,u,rfl,List.cons_prefix_cons.mpr ⟨rfl,c⟩,d,f⟩;have h':bet x m=true:=(by simpa [AM,e] using h);exact⟨[],x,m,t,rfl,List.cons_prefix_cons.mpr ⟨rfl,List.nil_prefix⟩,e,h'⟩
 |[],[],h=>nomatch h
 |[],_::_,h=>nomatch h
 |_::_,[],h=>nomatch h
theorem Wm{ws:Ws α}:∀{a b c:List α}{m x:α}{t:List α}{k:Nat},(x,k)∈keysAt ws (c++a)->bet x m=true->b=a++m::t->k∈gat bet ws c b
 |[],b,c,m,x,t,k,d,e,f=>by
   subst f;rw[FH] at d;exact Ek _ (A3.mpr ⟨_,M0.mpr ⟨d,e⟩,rfl⟩)
 |y::a,b,c,m,x,t,k,d,e,f=>by
   subst f;refine Dj _ (Wm (a:=a) (m:=m) (x:=x) (t:=t) ?_ e rfl);rw[F5];exact d
def ZR(i:(ws.map (·.1)).Pairwise (· < ·)){b w:List α}{j:Nat}(h:(j,w)∈ws)(l:AM bet w b=true):∃k∈gat bet ws [] b,k<=j:=by
 obtain⟨a,x,m,t,e,d,-,n⟩:=Wl l;obtain⟨⟨y,k⟩,f,g⟩:=A3.mp (keysAt_mem.mpr ⟨_,h,d⟩);dsimp only at g;subst g;exact⟨k,Wm (a:=a) (c:=[]) f n e,(Wj i f).2 j w h d⟩
end TreeM
namespace L2
open PySem PySem.Spec PyProof.Rows Ord TreeM
variable {A:Around}
def Mc{k:Nat}(a:B1 k A):A.units+2<cLine:=Nat.lt_of_le_of_lt (Nat.add_le_add_left (by decide:2<=64) _) a.units
abbrev Ge (m:Aq):List AN:=[.inl m.1,.inr m.2.1,.inl m.2.2]
def ZS{a b:Aq}(h:Ge a=Ge b):a=b:=by
 obtain⟨c,d,e⟩:=a;obtain⟨f,g,i⟩:=b;simp only[Ge,List.cons.injEq,Sum.inl.injEq,Sum.inr.injEq,and_true] at h;rw[h.1,h.2.1,h.2.2]
def DT (ws:Ws Aq) (c:List Aq->Aq->Addr) (p:List Aq):List (List AN×V):=(keysAt ws p).map λmk=>(Ge mk.1,V.ref (c p mk.1))
theorem Wn{c:Aq->Addr}{m:Aq}:∀{ks:List (Aq×Nat)},AL (ks.map λmk=>(Ge mk.1,V.ref (c mk.1))) (Ge m)=if m∈ks.map (·.1) then some (.ref (c m)) else none
 |[]=>rfl
 | (x,k) :: ks=>by
   rw[D9];by_cases h:x=m;subst h;rw[G7 rfl,Al (by simp)];rw[G8 (λz=>h (ZS z)),Wn]
   have:(m∈List.map (·.1) ((x,k)::ks))↔m∈ks.map (·.1):=by
    rw[D9,Cj];exact⟨λz=>z.elim (λe=>absurd e.symm h) id,.inr⟩
   by_cases a:m∈ks.map (·.1);rw[Al a,Al (this.mpr a)];rw[Ak a,Ak (λz=>a (this.mp z))]
variable {ws:Ws Aq}{c:List Aq->Aq->Addr}{p:List Aq}{m:Aq}
def OI:AL (DT ws c p) (Ge m)=if m∈(keysAt ws p).map (·.1) then some (.ref (c p m)) else none:=Wn (c:=c p)
def Eg (ws:Ws Aq) (p:List Aq):Prop:=p=[]\/∃kw∈ws,p <+: kw.2
def Wo(h:¬Eg ws p):keysAt ws p=[]:=by
 cases e:keysAt ws p with
 |nil=>rfl
 |cons x l =>
   exfalso;obtain⟨a,b,c⟩:=keysAt_mem.mp (show x.1∈(keysAt ws p).map (·.1) by rw[e];simp);exact h (.inr ⟨a,b,(IB p _).trans c⟩)
def Fz:Eg ws (p++[m])↔m∈(keysAt ws p).map (·.1):=by
 rw[keysAt_mem];exact⟨λh=>h.elim (λe=>absurd e (by simp)) id,.inr⟩
structure Bg (φ:Hp->Addr->List (List AN×V)->Prop) (H:Hp) (ws:Ws Aq) (d:List Aq->Addr) (c:List Aq->Aq->Addr):Prop where
 dct:∀p,Eg ws p->φ H (d p) (DT ws c p)
 tup:∀p m k,(m,k)∈keysAt ws p->H (c p m)=some (.tup [.int (k:Int),.ref (d (p++[m]))])
 inj:∀p q,Eg ws p->Eg ws q->d p=d q->p=q
abbrev dW:Hp->Addr->List (List AN×V)->Prop:=λH a kvs=>H a=some (.dT kvs)
abbrev dF:Hp->Addr->List (List AN×V)->Prop:=λH a kvs=>∃o,H a=some (.frz o (.dT kvs))
variable {H H':Hp}{d:List Aq->Addr}
def Bg.same(e:Ac H H')(h:Bg dF H ws d c):Bg dF H' ws d c:=
 ⟨λp a=>let ⟨o,x⟩:=h.dct p a;⟨o,e _ _ x⟩,λp m k b=>e _ _ (h.tup p m k b),h.inj⟩
def Bg.sameW(e:Ac H H')(h:Bg dW H ws d c):Bg dW H' ws d c:=
 ⟨λp a=>e _ _ (h.dct p a),λp m k b=>e _ _ (h.tup p m k b),h.inj⟩
variable {n:Nat}{g:List Aq}
def Qa(d:m∈(keysAt (ws++[(n,g)]) g).map (·.1)):Eg (ws++[(n,g++[m])]) p↔Eg (ws++[(n,g)]) p:=by
 constructor;rintro(h|⟨b,c,a⟩);exact .inl h;rcases BI.mp c with y|y;exact .inr ⟨b,Ek _ y,a⟩;rw[AZ.mp y] at a;rcases List.prefix_concat_iff.mp a with e|e;rw[e];exact Fz.mpr d;exact .inr ⟨_,Dj _ (AZ.mpr rfl),e⟩;rintro(h|⟨b,c,a⟩);exact .inl h;rcases BI.mp c with y|y;exact .inr ⟨b,Ek _ y,a⟩;rw[AZ.mp y] at a;exact .inr ⟨_,Dj _ (AZ.mpr rfl),a.trans (IB g [m])⟩
def Bg.stay{φ:Hp->Addr->List (List AN×V)->Prop}(h:Bg φ H (ws++[(n,g)]) d c)(a:m∈(keysAt (ws++[(n,g)]) g).map (·.1)):Bg φ H (ws++[(n,g++[m])]) d c:=by
 have f:∀p,keysAt (ws++[(n,g++[m])]) p=keysAt (ws++[(n,g)]) p:=λp=>by
  by_cases e:p=g;subst e;rw[Wi,Al a];exact Tb e
 refine⟨λp b=>?_,λp x k i=>h.tup p x k (by rw[<-f];exact i),λp q b j=>h.inj p q ((Qa a).mp b) ((Qa a).mp j)⟩;have:=h.dct p ((Qa a).mp b);unfold DT at this ⊢;rw[f];exact this
variable {v:V}
def ZT{a:List (List AN×V)}{k:List AN}(h:AL a k=none):A0 a k v=a++[(k,v)]:=by
 unfold A0;rw[Ak (by rw[Od,h];simp)]
variable {T:Addr}
def Bg.grow{u:Hp}{e:Addr}(h:Bg dW H (ws++[(n,g)]) d c)(j:m∉(keysAt (ws++[(n,g)]) g).map (·.1))
 (G:H e=none) (I:∀p,Eg (ws++[(n,g)]) p->u (d p)=none) (U:u e=none) (s:Ac H H') (J:H' e=some (.dT [])) (C:H' T=some (.tup [.int (n:Int),.ref e])) :
 ∃d' K,Bg dW (upd H' (d g) (.dT (A0 (DT (ws++[(n,g)]) c g) (Ge m) (.ref T)))) (ws++[(n,g++[m])]) d' K/\d' (g++[m])=e/\(∀p,Eg (ws++[(n,g++[m])]) p->u (d' p)=none)/\d' []=d []:=by
 have r:Eg (ws++[(n,g)]) g:=.inr ⟨_,Dj _ (AZ.mpr rfl),List.prefix_refl g⟩;have L:AL (DT (ws++[(n,g)]) c g) (Ge m)=none:=(by rw[OI,Ak j])
 have w:∀{p},Eg (ws++[(n,g++[m])]) p->p=g++[m]\/p≠g++[m]/\Eg (ws++[(n,g)]) p:=λ{p}a=>by
  by_cases e:p=g++[m];exact .inl e;refine .inr ⟨e,?_⟩;rcases a with z|⟨M,N,A⟩;exact .inl z;rcases BI.mp N with y|y;exact .inr ⟨M,Ek _ y,A⟩;rw[AZ.mp y] at A;rcases List.prefix_concat_iff.mp A with z|z;exact absurd z e;exact .inr ⟨_,Dj _ (AZ.mpr rfl),z⟩
 have B:∀p,Eg (ws++[(n,g)]) p->d p≠e:=λp a z=>by have this:H (d p)=some _:=h.dct p a;rw[z,G] at this;cases this
 have W:T≠d g:=λz=>by
  have:=s _ _ (h.dct g r);rw[<-z,C] at this;cases this
 have O:¬Eg (ws++[(n,g)]) (g++[m]):=λz=>j (Fz.mp z)
 have P:keysAt (ws++[(n,g++[m])]) (g++[m])=[]:=by
  rw[Tb (by simp)];exact Wo O
 have D:∀p,p≠g->keysAt (ws++[(n,g++[m])]) p=keysAt (ws++[(n,g)]) p:=λp a=>Tb a;have F:keysAt (ws++[(n,g++[m])]) g=keysAt (ws++[(n,g)]) g++[(m,n)]:=(by rw[Wi,Ak j])
 refine⟨λp=>if p=g++[m] then e else d p,λp x=>if p=g/\x=m then T else c p x,⟨λp a=>?_,λp x k o=>?_,λp q a Q X=>?_⟩,Al rfl,λp a=>?_,Ak (by simp)⟩
 show upd _ _ _ (if p=g++[m] then e else d p)=some _
 rcases w a with z|⟨z,f⟩;subst z;rw[Al rfl,AE (Ne.symm (B g r)),J];unfold DT;rw[P];rfl;rw[Ak z];by_cases b:p=g;subst b;rw[Aa,ZT L];unfold DT;rw[F,Br]
 have:∀l:List (Aq×Nat),m∉l.map (·.1)->(l.map λmk=>(Ge mk.1,V.ref (c p mk.1)))=l.map λmk=>(Ge mk.1,V.ref (if p=p/\mk.1=m then T else c p mk.1)):=λl R=>List.map_congr_left λmk Y=>by
  rw[Ak (λz=>R (A3.mpr ⟨mk,Y,z.2⟩))]
 rw[this _ j,D9,NG];dsimp only;rw[Al ⟨rfl,rfl⟩];rw[AE (λS=>b (h.inj p g f r S))];have:=s _ _ (h.dct p f);unfold DT at this ⊢;rw[D p b,this]
 congr 2
 exact List.map_congr_left λmk ζ=>by
  show _=(Ge mk.1,V.ref (if p=g/\mk.1=m then T else c p mk.1));rw[Ak (λz=>b z.1)]
 show upd _ _ _ (if p=g/\x=m then T else c p x)=some (.tup [_,.ref (if p++[x]=g++[m] then e else d (p++[x]))])
 by_cases b:p=g;subst b;rw[F] at o;by_cases v:x=m;subst v;rw[Al ⟨rfl,rfl⟩,Al rfl,AE W,C];rcases BI.mp o with y|y;exact absurd (A3.mpr ⟨_,y,rfl⟩) j;cases AZ.mp y;rfl;rcases BI.mp o with y|y;rw[Ak (λz=>v z.2),Ak (λz=>v (by simpa using z))];have t:=h.tup p x k y;rw[AE (λz=>by have this:H (d p)=some _:=h.dct p r;rw[<-z,t] at this;cases this)];exact s _ _ t;cases AZ.mp y;exact absurd rfl v;rw[D p b] at o
 rw[Ak (λz=>b z.1),Ak (show ¬(p++[x]=g++[m]) from λz=>b (List.append_inj_left' z rfl))];have t:=h.tup p x k o;rw[AE (λz=>by have this:H (d g)=some _:=h.dct g r;rw[<-z,t] at this;cases this)];exact s _ _ t
 have i:(if p=g++[m] then e else d p)=(if q=g++[m] then e else d q):=X
 rcases w a with z|⟨z,f⟩<;>rcases w Q with y|⟨y,E⟩;rw[z,y];rw[Al z,Ak y] at i;exact absurd i.symm (B q E);rw[Ak z,Al y] at i;exact absurd i (B p f);rw[Ak z,Ak y] at i;exact h.inj p q f E i
 show u (if p=g++[m] then e else d p)=none
 rcases w a with z|⟨z,f⟩;rw[Al z];exact U;rw[Ak z];exact I p f
def Wp(ws:Ws Aq)(n:Nat)(p:List Aq):keysAt (ws++[(n,[])]) p=keysAt ws p:=ZQ ws n p
def Bg.begin{φ:Hp->Addr->List (List AN×V)->Prop}(h:Bg φ H ws d c):Bg φ H (ws++[(n,[])]) d c:=by
 have i:∀{p},Eg (ws++[(n,[])]) p->Eg ws p:=λ{p}a=>by
  rcases a with z|⟨e,f,b⟩;exact .inl z;rcases BI.mp f with y|y;exact .inr ⟨e,y,b⟩;rw[AZ.mp y] at b;exact .inl (List.prefix_nil.mp b)
 refine⟨λp a=>?_,λp m k g=>h.tup p m k (by rw[<-Wp];exact g),λp q a j=>h.inj p q (i a) (i j)⟩;have:=h.dct p (i a);unfold DT at this ⊢;rw[Wp];exact this
def Bg.frz{H Y a:Hp}{ws:Ws Aq}{d:List Aq->Addr}{c:List Aq->Aq->Addr}(h:Bg dW Y ws d c)(i:∀p,Eg ws p->H (d p)=none)(f:P7 H Y a)(j:∀b e,H b=none->Y b=some (.dT e)->∃o,a b=some (.frz o (.dT e))):Bg dF a ws d c:=by
 refine⟨λp g=>j _ _ (i p g) (h.dct p g),λp m k l=>?_,h.inj⟩;have t:=h.tup p m k l;rcases f (c p m) with z|⟨_,e,o,z,_⟩;rw[z];exact t;rw[t] at z;cases z
def P7.same{Y a:Hp}(s:Ac H Y)(f:P7 H Y a):Ac H a:=λb o e=>by
 rcases f b with z|⟨z,_⟩;rw[z];exact s _ _ e;rw[e] at z;cases z
def Tc(ws:Ws Aq)(p:List Aq):(keysAt ws p).length<=ws.length:=by
 induction ws using Ta with
 |nil=>exact AD _
 |snoc ws a b =>
   obtain⟨k,w⟩:=a;rw[KY,AY];split;split;lia;rw[AY];simp;exact b;lia
abbrev FA (p:Str×Str):List AN:=[.inr p.1,.inr p.2]
def E5.tups(e:∀b xs,H b=some (.tup xs)->H' b=some (.tup xs)):∀{xs:List V}{ps:List (List AN×V)},E5 H xs ps->E5 H' xs ps:=λh =>
 Paired.mapP h λ_ _⟨t,b,a,c,d⟩=>⟨t,b,a,e _ _ c,e _ _ d⟩
theorem Wq{k:List AN}:∀{ps acc:List (List AN×V)},(AL (KX acc ps) k).isSome=true↔(AL acc k).isSome=true\/k∈ps.map (·.1)
 |[],acc=>by simp[KX]
 |p::ps,acc=>by
   show(AL (KX (A0 acc p.1 p.2) ps) k).isSome=true↔_;rw[Wq,Oe,D9,Cj];by_cases h:k=p.1;rw[Al h];simp[h];rw[Ak h];simp[h]
def HU (H:Hp) (p:Addr) (ord:A'):Prop:=∃kvs,H p=some (.dT kvs)/\∀a b,(AL kvs (FA (a,b))).isSome=dec ((a,b)∈ord)
variable {ord:A'}
def HU.same{p:Addr}(e:Ac H H')(h:HU H p ord):HU H' p ord:=let ⟨k,a,b⟩:=h;⟨k,e _ _ a,b⟩
def ZU(a b:Str):(AL (KX [] (ord.map λp=>(FA p,V.bl true))) (FA (a,b))).isSome=dec ((a,b)∈ord):=by
 have:(AL (KX [] (ord.map λp=>(FA p,V.bl true))) (FA (a,b))).isSome=true ↔ (a,b)∈ord:=by
  rw[Wq];constructor;rintro(h|h);simp[AL] at h;rw[DK] at h;obtain⟨q,c,e⟩:=A3.mp h;obtain⟨d,f⟩:=q;simp at e;rw[<-e.1,<-e.2];exact c;intro h;refine .inr ?_;rw[DK];exact A3.mpr ⟨_,h,rfl⟩
 by_cases h:(a,b)∈ord;rw[Fs h];exact this.mpr h;rw[Gb h]
 cases e:(AL (KX [] (ord.map λp=>(FA p,V.bl true))) (FA (a,b))).isSome with
 |false=>rfl
 |true=>exact absurd (this.mp e) h
def Bc (l:List (List Aq)):Ws Aq:=l.zipIdx.map λp=>(p.2,p.1)
def ZV(l:List (List Aq))(w:List Aq):Bc (l++[w])=Bc l++[(l.length,w)]:=by
 unfold Bc;rw[List.zipIdx_append,Br]
 simp
variable {l:List (List Aq)}{i:Nat}{w:List Aq}
def ZW(h:l[i]?=some w):Bc (l.take (i+1))=Bc (l.take i)++[(i,w)]:=by
 have a:=(A8.mp h).1;rw[DV,h];show Bc (l.take i++[w])=_;rw[ZV,FN,Nat.min_eq_left (Dm a)]
def Wr(l:List (List Aq)):((Bc l).map (·.1)).Pairwise (· < ·):=by
 have:(Bc l).map (·.1)=List.range l.length:=by
  unfold Bc;rw[DK,List.range_eq_range'];exact List.zipIdx_map_snd 0 l
 rw[this];exact List.pairwise_lt_range
def Ds{k:Nat}:(k,w)∈Bc l↔l[k]?=some w:=by
 unfold Bc;rw[A3];constructor;rintro⟨⟨a,b⟩,h,e⟩;cases e;exact List.mem_zipIdx_iff_getElem?.mp h;intro h;exact⟨(w,k),List.mem_zipIdx_iff_getElem?.mpr h,rfl⟩
noncomputable def Cd (ss:List Bk) (ord:A') (x m:Aq):Bool:=dec ((FV ss x,FV ss m)∈ord)
variable {ss:List Bk}
def ZX(h:∀x,(x,x)∉ord)(m:Aq):Cd ss ord m m=false:=Gb (h _)
theorem Td(ss:List Bk)(ord:A'):∀(a b:List Aq),AM (Cd ss ord) a b=Cn ss ord a b
 |x::s,m::t=>by
   show(if x=m then _ else Cd ss ord x m)=_
   by_cases e:x=m;subst e;rw[Al rfl,OD];exact Td ss ord s t;rw[Ak e,KW ss ord s t e];rfl
 |[],m=>by rw[L9 ss ord (.inl rfl)];rfl
 |_::_,[]=>by rw[L9 ss ord (.inr rfl)];rfl
def JH(h:∀x,(x,x)∉ord):gat (Cd ss ord) (Bc l) [] w=[]↔∀v∈l,Cn ss ord v w=false:=by
 constructor;intro e v b;obtain⟨k,d⟩:=List.mem_iff_getElem?.mp b
 cases a:Cn ss ord v w with
 |false=>rfl
 |true =>
   obtain⟨j,c,_⟩:=ZR (Wr l) (Ds.mpr d) (by rw[Td];exact a);rw[e] at c;cases c
 intro f
 cases e:gat (Cd ss ord) (Bc l) [] w with
 |nil=>rfl
 |cons k g =>
   exfalso;obtain⟨v,b,a⟩:=Wk (Wr l) (ZX h) w [] k (by rw[e];simp);rw[List.nil_append,Td] at a;rw[f v (List.mem_iff_getElem?.mpr ⟨k,Ds.mp b⟩)] at a;cases a
noncomputable def CS (ss:List Bk) (ord:A') (all l:List (List Aq)):List (List Aq):=l.filter λw=>!all.any λv=>Cn ss ord v w
def Wu{all:List (List Aq)}(h:l[i]?=some w):CS ss ord all (l.take (i+1))=if(all.any λv=>Cn ss ord v w)=true then CS ss ord all (l.take i) else CS ss ord all (l.take i)++[w]:=by
 unfold CS;rw[DV,h,NH];show _++List.filter _ [w]=_;rw[M3]
 cases all.any λv=>Cn ss ord v w with
 |true=>rw[Al rfl];simp
 |false=>simp
def ZY{all:List (List Aq)}:(CS ss ord all l).length<=l.length:=Pk _ _
def CT{ks:List Nat}:P9 (ks.map λk:Nat=>(k:Int))=.non↔ks=[]:=by
 cases ks with
 |nil=>exact⟨λζ=>rfl,λζ=>rfl⟩
 |cons k ks=>exact⟨λh=>(nomatch h),λh=>(nomatch h)⟩
def Qb(h:∀x,(x,x)∉ord):gat (Cd ss ord) (Bc l) [] w=[]↔(l.any λv=>Cn ss ord v w)=false:=by
 rw[JH h,List.any_eq_false];exact⟨λz v a=>by rw[z v a];simp,λz v a=>by have:=z v a;simpa using this⟩
section
variable {prog:Program} {w:World} {A:Around} {E:D'} {s:Shared}
theorem Qc{j p:Addr}{k:Nat}{vs:Array Value}{y:Value}{Q:D'}(c:s.heap.IsTupleIter j p k)(d:s.heap.IsTuple p vs)(e:vs[k]?=some y)
 (q:∀g,g.IsTupleIter j p (k+1)->Heap.SameBut j s.heap g->Q y {s with heap:=g}):wpAny (model prog w) A (Builtin.SmallTypes.nextOf (.ref j)) Q E s:=by
 obtain⟨l,b,f,a⟩:=id c;obtain⟨m,h,_,_,i⟩:=d;unfold Builtin.SmallTypes.nextOf;refine Ad (wpAny_callSpecial?_slot (name:=Str.ofString "__next__") c.typeIs F.slot_tuple_iterator_next (wpAny_call_entry F.slot_tuple_iterator_next c.typeIs F.entry_tuple_iterator_next ?_ (F.args_tuple_iterator_next_1 _)))
 show wpAny _ _ (field (.ref j) 0 >>= _) _ _ s;refine Ad (wpAny_field b a (x:=.ref p) rfl ?_);show wpAny _ _ (if(Value.ref p==Value.none)=true then _ else _) _ _ s;rw[Ak (show ¬((Value.ref p==Value.none)=true) from Cz)];show wpAny _ _ (field (.ref j) 1 >>= _) _ _ s;refine Ad (wpAny_field b a (x:=.int k 0) rfl ?_);show wpAny _ _ (seqItems? (.ref p) >>= _) _ _ s;refine Ad (Gk h i ?_);simp only[Bo,e];refine Ad (wpAny_setField b a (by simp) (Aw ⟨y,rfl,Aw (q _ ⟨_,Heap.get?_update_self _ b (Obj.isFreed_of_fields (Obj.data_mapFields a _)),(Obj.cls_mapFields ..).trans f,by rw[Obj.data_mapFields a];simp[rawInt]⟩ (Heap.SameBut.update ..))⟩))
theorem Tf{j p:Addr}{k:Nat}{vs:Array Value}{Q:D'}(e:A.handled=none)(b:s.heap.IsTupleIter j p k)(f:s.heap.IsTuple p vs)(h:vs[k]?=none)
 (q:∀g x,Heap.ExtBut j s.heap g->(∃o,g.get? x=some o/\o.cls=.type "StopIteration")->E (.ref x) {s with heap:=g}):wpAny (model prog w) A (Builtin.SmallTypes.nextOf (.ref j)) Q E s:=by
 obtain⟨n,c,r,d⟩:=id b;obtain⟨t,i,_,_,l⟩:=f;unfold Builtin.SmallTypes.nextOf;refine Ad (wpAny_callSpecial?_slot (name:=Str.ofString "__next__") b.typeIs F.slot_tuple_iterator_next (wpAny_call_entry F.slot_tuple_iterator_next b.typeIs F.entry_tuple_iterator_next ?_ (F.args_tuple_iterator_next_1 _)))
 show wpAny _ _ (field (.ref j) 0 >>= _) _ _ s;refine Ad (wpAny_field c d (x:=.ref p) rfl ?_);show wpAny _ _ (if(Value.ref p==Value.none)=true then _ else _) _ _ s;rw[Ak (show ¬((Value.ref p==Value.none)=true) from Cz)];show wpAny _ _ (field (.ref j) 1 >>= _) _ _ s;refine Ad (wpAny_field c d (x:=.int k 0) rfl ?_);show wpAny _ _ (seqItems? (.ref p) >>= _) _ _ s;refine Ad (Gk i l ?_);simp only[Bo,h];refine Ad (Hi (Ad (wpAny_setField c d (by simp) ?_)))
 show wpAny _ _ (newExc (.type "StopIteration") [] >>= _) _ _ _
 refine Ad ?_;simp only[newExc,newTuple];refine Ad (wpAny_newObj_type (Ad (m:=firstArgMember _ _) (wpAny_of_eq (a:=Value.none) (by first|rfl|(simp only[firstArgMember];rfl)) (wpAny_newObj_type ?_ (by size_fits)))) (by size_fits));simp only[raiseNew];refine Ad (wpAny_handled ?_)
 first|rw[show A.in1.handled=none from e]|rw[e]
 exact Ad (Aw (wpAny_throw (q _ _ (((Heap.SameBut.update ..).extBut.push _).push _) ⟨_,B9 _ rfl,rfl⟩)))
end
variable {prog:Program}
def HV{w:World}(c:A.handled=none)(j p:Addr)(d:p≠j)(vs:Array Value):Draws prog w A j [j,p] vs.size (λi v=>vs[i]?=some v) (λi h=>h.IsTupleIter j p i/\h.IsTuple p vs) where
 live _ _ st:=let ⟨o,e,_⟩:=st.1;⟨o,e⟩
 frame _ _ _ st k:=by
  obtain⟨⟨o,f,l⟩,u,m,n⟩:=st;exact⟨⟨o,k j (by simp) _ f,l⟩,u,k p (by simp) _ m,n⟩
 item i s Q E a st q:=Qc st.1 st.2 (y:=vs[i]) (by simp[a]) λg r b=>q _ g s.toks (by simp[a]) ⟨r,st.2.extBut b.extBut d⟩ b
 done s Q E st q:=Tf c st.1 st.2 (by simp) q
set_option tactic.hygienic true in
def ZZ(p:Addr)(vs:Array Value)(n:Nat)(dct:Option Addr)(e:Array (Option Value)) :
 Meets (Builtin.«enumerate.__new__» ⟨[.type "enumerate",.ref p],[]⟩) (λζ R s=>s.heap.get? p=some {cls:=.type "tuple",dict:=dct,data:=.seq vs n,slots:=e}/\R (.ok (.ret (.ref (s.heap.push {cls:=.type "tuple_iterator",data:=.fields #[.ref p,.int 0 0]}).objs.size))) {s with heap:=(s.heap.push {cls:=.type "tuple_iterator",data:=.fields #[.ref p,.int 0 0]}).push {cls:=.type "enumerate",data:=.fields #[.none,.bool false,.ref s.heap.objs.size,rawInt 0,.none,.none]}}):=
 .of_wp λprog w A R s h=>by
  obtain⟨f,g,d,tk,i⟩:=s;obtain⟨a,h⟩:=h;have k:=sub_enumerate;have b:Heap.IsTuple (Shared.heap ⟨f,g,d,tk,i⟩) p vs:=⟨_,a,rfl,n,rfl⟩
  wp_walk using AutoSeq1.wpAny_loadPart' a
  refine wpAny_stack_any λj=>Aw ?_;split;rename_i c _ _ _ _ _;cases(c==Value.type "enumerate")<;>(wp_walk using AutoSeq1.wpAny_loadPart' a,wpAny_pyIter_tuple b;exact⟨_,rfl,h⟩)
  wp_walk using AutoSeq1.wpAny_loadPart' a,wpAny_pyIter_tuple b
  exact⟨_,rfl,h⟩
variable {E Q:D'}{s:Shared}
theorem Z0{w:World}{p:Addr}{vs:Array Value}(i:s.heap.IsTuple p vs)
 (h:∀g,IsEnum g (s.heap.objs.size+1) s.heap.objs.size 0 .none->g.IsTupleIter s.heap.objs.size p 0->g.objs.size=s.heap.objs.size+2->(∀b o,s.heap.get? b=some o->g.get? b=some o)->Q (.ref (s.heap.objs.size+1)) {s with heap:=g}) :
 wpAny (model prog w) A (call (.type "enumerate") [.ref p]) Q E s:=by
 obtain⟨⟨c,dct,dt,j⟩,k,a,n,hd⟩:=i
 replace a:c=.type "tuple" :=a
 replace hd:dt=.seq vs n:=hd
 subst a hd;refine callType_new F.called_enumerate (by decide) (F.typeCall_enumerate_1 _) (F.newCall_enumerate_1 _) (λl=>F.args_object_init_2 l _) F.entry_enumerate_new (ZZ p vs n dct j) ⟨k,?_⟩;have d:(s.heap.push {cls:=.type "tuple_iterator",data:=.fields #[.ref p,.int 0 0]}).objs.size=s.heap.objs.size+1:=Heap.size_push ..;show _/\_;rw[d]
 have f:IsEnum ((s.heap.push {cls:=.type "tuple_iterator",data:=.fields #[.ref p,.int 0 0]}).push {cls:=.type "enumerate",data:=.fields #[.none,.bool false,.ref s.heap.objs.size,rawInt 0,.none,.none]}) (s.heap.objs.size+1) s.heap.objs.size 0 .none:=by
  have e:=B9 (s.heap.push {cls:=.type "tuple_iterator",data:=.fields #[.ref p,.int 0 0]}) (o:={cls:=.type "enumerate",data:=.fields #[.none,.bool false,.ref s.heap.objs.size,rawInt 0,.none,.none]}) rfl
  rwa [d] at e
 exact⟨⟨_,f,rfl⟩,h _ f ⟨_,Be _ (B9 _ rfl),rfl,rfl⟩ (by rw[Heap.size_push,d]) λb o x=>Be _ (Be _ x)⟩
def HW (K:Ah) (l:Addr):It:=
 ⟨λi H=>∃xs x,Ap K H l xs/\xs[i]?=some x,
  λi H v H'=>∃T x,H T=none/\v=.ref T/\H'=upd H T (.tup [.int i,x])/\∀xs,Ap K H l xs->xs[i]?=some x,
  λi H=>∃xs,Ap K H l xs/\xs.length=i⟩
def Md (e it l:Addr) (i:Nat) (h:Heap):Prop:=(∃old,IsEnum h e it i old)/\h.IsTupleIter it l i
variable {es:List Expr}{L:Pos}
theorem Z1{ak:Program}{w:World}{K:Ah}{k:Nat}{e d l:Addr}(Y:e≠d)(ao:e≠l)(ag:l≠d) :
 Fo ak w K (.Tuple es k L) (HW K l) [e,d] e (Md e d l) where
 mem:=by simp
 obj:=λi h g b a=>by
  obtain⟨⟨F,f⟩,⟨O,C,c1,P⟩⟩:=g;simp at a;rcases a with rfl|rfl;exact⟨_,f,λv q=>by cases q⟩;exact⟨_,C,λv q=>by rw[P] at q;cases q⟩
 keep:=λi h h' g kk=>by
  obtain⟨⟨F,f⟩,⟨O,C,c1,P⟩⟩:=g;exact⟨⟨F,kk e (by simp) _ f⟩,⟨O,kk d (by simp) _ C,c1,P⟩⟩
 item:=by
  intro X Q R S p i ab s σ H E I D g T;subst Q R S;obtain⟨xs,af,N,hx⟩:=T;obtain⟨⟨F,f⟩,J⟩:=g;obtain⟨j,Z,U,aq⟩:=I.tuple N;obtain⟨u1,ah,ar⟩:=Z.get hx;have aa:s.heap.IsTuple l j.toArray:=U;have au:i<j.toArray.size:=by have:=(A8.mp ah).1;simpa using this
  refine wpAny_pyNext_enum_itemD (HV (A:=X.A.in1) (by exact I.ok.hd p) d l ag j.toArray) f ⟨J,aa⟩ au Y (by simp;exact⟨Y,ao⟩) λy h' tk hy a1 a2 a3 a4 hk=>?_
  have ey:y=u1:=by
   have h2:j.toArray[i]?=some u1:=(by simpa using ah);rw[h2] at hy;exact(AO hy).symm
  subst ey;refine⟨_,rfl,wpAny_letOwnedTupleGo_enum (s:={s with heap:=h',toks:=tk+1}) a1 λG a0 ae=>?_⟩;have t:=D e (by simp);have x:=D d (by simp);have G6:∀b u,H b=some u->b≠e/\b≠d:=λb u z=>⟨AK z t.1,AK z x.1⟩;have keep:∀b o,b≠e->b≠d->s.heap.get? b=some o->G.get? b=some o:=λb o M V z=>(ae.2 b M).trans (hk b o M V z);have B:∀{b:Addr},b∉[e,d]->b≠e/\b≠d:=λ{b}a=>by simpa using a
  have I1:Inv X ab σ H {s with heap:=G,toks:=tk+1}:=by
   refine I.step (g':=s.gens) (t':=tk+1) (d':=s.drawn) (h':=G) (ch:=[e,d]) (λb a=>?_) (λb r ζ ζ a z ζ=>keep b r (B a).1 (B a).2 z) (λb r ζ ζ a z ζ=>⟨r.slots,keep b r (B a).1 (B a).2 z⟩)
    (λζ ζ ζ ζ n=>n) (λb r a z=>⟨r,keep b r (B a).1 (B a).2 z⟩) (λζ ζ z=>z) (λζ ζ ζ z=>z) (λb ps z=>⟨#[],by rw[z];simp⟩) (λm hm=>?_) (λb u z=>?_) I.bare
   have:b=e\/b=d:=(by simpa using a);rcases this with rfl|rfl;exact⟨t.2.2.2.1,t.2.1,t.2.2.2.2.1,t.2.2.2.2.2⟩;exact⟨x.2.2.2.1,x.2.1,x.2.2.2.2.1,x.2.2.2.2.2⟩;obtain⟨o,es,ep,ho,al⟩:=hm;exact⟨o,es,ep,keep _ o (Ne.symm t.2.1) (Ne.symm x.2.1) ho,al⟩;refine(I.hok b u z).stay (λc v p q=>?_) (λζ q=>q) λζ ζ q=>q
   have av:∃W,H c=some W:=by
    rcases p with rfl|p;exact⟨_,z⟩;exact⟨_,p⟩
   obtain⟨W,e'⟩:=av;obtain⟨M,V⟩:=G6 c W e';exact keep c v M V q
  have aw:s.heap.objs.size≠e:=Nat.ne_of_gt (A5 f);have ai:H s.heap.objs.size=none:=I.hok.fresh (AD _);have aj:G.get? s.heap.objs.size=some {cls:=.type "tuple",data:=.seq #[.int i tk,y]}:=(ae.2 _ aw).trans a3
  have I2:Inv X ab σ (upd H s.heap.objs.size (.tup [.int i,af])) {s with heap:=G,toks:=tk+1}:=by
   refine I1.track (I.fpOk (AD _) ai) ⟨_,aj⟩ ?_;exact⟨by show 2<=sizeLine;decide,[.int i tk,y],.cons ⟨_,rfl⟩ (.cons ar .nil),⟨_,aj,rfl,_,rfl⟩⟩
  refine⟨.ref s.heap.objs.size,_,I2,rfl,⟨s.heap.objs.size,af,ai,rfl,rfl,λzs ax=>by rw[I.tuple_inj ax N];exact hx⟩,?_,λb a=>?_⟩;refine⟨⟨y,by simpa using a0⟩,a2.1.extBut ae.extBut (Ne.symm Y)⟩;have ay:=(D b a).1;rw[AE (λq=>?_)];exact ay;have az:b=e\/b=d:=(by simpa using a);obtain⟨O,C,_⟩:=J
  have lt:b<s.heap.objs.size:=by
   rcases az with rfl|rfl;exact A5 f;exact A5 C
  rw[q] at lt;exact absurd lt (Gi _)
 done:=by
  intro X Q R S p i ab s σ H E I D g T;subst Q R S;obtain⟨xs,N,a7⟩:=T;obtain⟨⟨F,f⟩,J⟩:=g;obtain⟨j,Z,U,aq⟩:=I.tuple N;have a6:=Z.length;have aa:s.heap.IsTuple l j.toArray:=U;have ei:i=j.toArray.size:=by simp;lia
  obtain⟨f0,an,a5,f3,f4,f5⟩:=D d (by simp);refine wpAny_pyNext_enum_endD (HV (A:=X.A.in1) (by exact I.ok.hd p) d l ag j.toArray) f ⟨by rw[<-ei];exact J,aa⟩ λh' eb=>⟨rfl,I.turned (t':=s.toks) (λb o a z=>eb b o a z) f0 an f3 f4 f5⟩
 self:=λζ ζ ζ ζ ζ g h=>by
  obtain⟨⟨F,f⟩,_⟩:=g;exact wpAny_pyIter_enum f h
def Me (K:Ah) (ta:TA):TI:=λσ H R=>ta σ H λvs Y=>∃l,vs=[.ref l]/\(∃xs,Ap K Y l xs)/\R (HW K l) Y
def Z2{X:Cx}{k:Nat}{j:Pos}{a:Expr}{f:TA}{p:Pos}(o:Gl X "enumerate")(r:X.mg "enumerate" = none)(t:PA X [a] f)(v:starEach [a] X.env=[(false,eval a X.env)]:=by rfl) :
 PI X (.Tuple es k j) (.Call (.Name "enumerate" p) [a] [] L) (Me X.K f):=by
 intro M s σ H R I h;refine Call_ (IX I o r (u:=.type "enumerate") (by decide +kernel) (PyProof.Rows.callWith_type1 (AS (t L M s σ H _ I h) λN c⟨O,Y,d,w,x⟩=>?_) (by rw[v];rfl) (by rfl)));obtain⟨l,rfl,⟨P,y⟩,q⟩:=x;obtain⟨A,rfl,G⟩:=Fp w;obtain rfl:A=Value.ref l:=G;obtain⟨J,Q,e,z⟩:=d.tuple y;have g:c.heap.IsTuple l J.toArray:=e;obtain⟨S,B,_⟩:=id g;have i:l<c.heap.objs.size:=A5 B;refine Z0 g λC m D T E=>?_;refine wpAny_pyIter_enum (s:={c with heap:=C}) m ?_;refine⟨_,[c.heap.objs.size+1,c.heap.objs.size],_,_,Y,rfl,d.kept (t':=c.toks) E,Z1 (Nat.succ_ne_self _) (Nat.ne_of_gt (Nat.lt_succ_of_lt i)) (CU i),⟨⟨_,m⟩,D⟩,λb F=>?_,q⟩
 have n:c.heap.objs.size<=b:=by
  have K:b=c.heap.objs.size+1\/b=c.heap.objs.size:=(by simpa using F);rcases K with rfl|rfl;exact Nat.le_add_right _ _;exact AD _
 exact d.fpOk n (d.hok.fresh n)
variable {xs:List V}{D:Ends}{σ:St}
def Z3{K:Ah}{l:Addr}{g:TG}{tb:TS}(Pv:Nat->St->Hp->Prop)(f:Pv 0 σ H)(h:∀i σ H,Pv i σ H->Ap K H l xs)
 (j:∀i x T σ H,xs[i]?=some x->H T=none->Pv i σ H->g (.ref T) σ (upd H T (.tup [.int i,x])) λσ2 a=>tb {D with nx:=Pv (i+1),ct:=Pv (i+1),bk:=D.nx} σ2 a) (hd:∀σ H,Pv xs.length σ H->D.nx σ H) :
 ∃W:Nat->Nat->St->Hp->Prop,(∃m,W 0 m σ H)/\∀i m σ H,W i m σ H ->
  ((HW K l).stop i H/\D.nx σ H)\/((HW K l).go i H/\∃N:St->Hp->Prop,(∀σ' H',N σ' H'->∃c,c<m/\W (i+1) c σ' H')/\∀x H',(HW K l).yld i H x H'->g x σ H' λσ2 a=>tb {D with nx:=N,ct:=N,bk:=D.nx} σ2 a):=by
 refine⟨λi m σ H=>m=xs.length-i/\i<=xs.length/\Pv i σ H,⟨_,rfl,Cm _,f⟩,?_⟩;rintro i m σ H ⟨rfl,q,p⟩;have b:=h i σ H p;by_cases d:i<xs.length;refine .inr ⟨⟨xs,xs[i],b,by simp[d]⟩,Pv (i+1),λσ' H' k=>⟨xs.length-(i+1),by lia,rfl,d,k⟩,λv H' y=>?_⟩;obtain⟨T,x,n,rfl,rfl,o⟩:=y;exact j i x T σ H (o xs b) n p;have e:i=xs.length:=(by lia);refine .inl ⟨⟨xs,b,by lia⟩,?_⟩;rw[e] at p;exact hd σ H p
section
variable {X:Cx}
end
section
variable {prog:Program} {w:World} {A:Around} {E:D'} {s:Shared}
variable {z a o j q:Addr}{ys:Array Value}{u:Value}
def Z4{i p:Addr}{k m:Nat}{xs:Array Value}{x y v:Value}(D:ZipApart z a o i j p q)(B:IsZip s.heap z a o .none)(ea:IsPair s.heap a (.ref i) (.ref j))(eo:IsPair s.heap o u v)
 (ei:s.heap.IsTupleIter i p k) (ej:s.heap.IsTupleIter j q m) (tp:s.heap.IsTuple p xs) (tq:s.heap.IsTuple q ys) (hx:xs[k]?=some x) (hy:ys[m]?=some y)
 (ah:∀g,IsZip g z a o (rawInt s.heap.objs.size)->IsPair g o x y->g.IsTupleIter i p (k+1)->g.IsTupleIter j q (m+1)->IsPair g s.heap.objs.size x y->g.objs.size=s.heap.objs.size+1->(∀c d,c≠z->c≠o->c≠i->c≠j->s.heap.get? c=some d->g.get? c=some d)->Q (.ref s.heap.objs.size) {s with heap:=g}) :
 wpAny (model prog w) A (Builtin.«zip.__next__» ⟨[.ref z],[]⟩) (λf t=>∃v,f=.done (.ret v)/\Q v t) E s:=by
 show wpAny _ _ (field (.ref z) 2 >>= _) _ _ _;refine Ad (wpAny_field B rfl (x:=.bool false) rfl ?_);show wpAny _ _ (field (.ref z) 3 >>= _) _ _ _;refine Ad (wpAny_field B rfl (x:=.ref a) rfl (Ad (Gk ea rfl ?_)));show wpAny _ _ (Builtin.SmallTypes.ownedTupleIsFree (.ref z) >>= _) _ _ _;refine Ad ?_;unfold Builtin.SmallTypes.ownedTupleIsFree;refine Ad (wpAny_field B rfl (x:=.none) rfl (Aw ?_));simp only[if_true];refine Ad (Hi (Ad (wpAny_field B rfl (x:=.ref o) rfl (Ad (wpAny_setField_rec B (by simp) λaa M h=>?_)))))
 replace M:IsZip aa z a o .ellipsis:=M
 refine Ad ?_;simp only[List.zipIdx_cons,List.zipIdx_nil,List.forIn_cons,List.forIn_nil];refine Ad (Ad (wpAny_onRaise ?_));show wpAny _ _ (Builtin.SmallTypes.nextOf (.ref i) >>= _) _ _ _;refine Ad (Qc (ei.extBut h.extBut D.i1z) (tp.extBut h.extBut D.l1z) hx λab i2 l=>Aw ?_);have U:IsPair ab o u v:=l.extBut _ _ D.TOi1 (h.extBut _ _ D.TOz eo);refine Ad (Gk U rfl (Ad (wpAny_updateSeq_pair U λae N r=>Ad (wpAny_letGo (Aw ?_)))))
 replace N:IsPair ae o x v:=N
 refine Ad (Ad (wpAny_onRaise ?_));show wpAny _ _ (Builtin.SmallTypes.nextOf (.ref j) >>= _) _ _ _;refine Ad (Qc (((ej.extBut h.extBut D.i2z).extBut l.extBut D.i12.symm).extBut r.extBut D.TOi2.symm) (((tq.extBut h.extBut D.l2z).extBut l.extBut D.l2i1).extBut r.extBut D.l2TO) hy λg4 j4 C=>Aw ?_);have V:IsPair g4 o x v:=C.extBut _ _ D.TOi2 N;refine Ad (Gk V rfl (Ad (wpAny_updateSeq_pair V λb H F=>Ad (wpAny_letGo (Aw (Aw ?_))))))
 replace H:IsPair b o x y:=H
 refine Ad (Gk H rfl (Ad (wpAny_newTuple ?_)));have sz:b.objs.size=s.heap.objs.size:=(by rw[F.1,C.1,r.1,l.1,h.1]);have W:IsZip b z a o .ellipsis:=F.extBut _ _ D.TOz.symm (C.extBut _ _ D.i2z.symm (r.extBut _ _ D.TOz.symm (l.extBut _ _ D.i1z.symm M)));have k5:∀c d,c≠z->c≠o->c≠i->c≠j->s.heap.get? c=some d->b.get? c=some d:=λc d I J O P e=>F.extBut _ _ J (C.extBut _ _ P (r.extBut _ _ J (l.extBut _ _ O (h.extBut _ _ I e))));have i5:b.IsTupleIter i p (k+1):=((i2.extBut r.extBut D.TOi1.symm).extBut C.extBut D.i12).extBut F.extBut D.TOi1.symm;have j5:b.IsTupleIter j q (m+1):=j4.extBut F.extBut D.TOi2.symm;have X:z<b.objs.size:=A5 W;show wpAny _ _ (Builtin.SmallTypes.ownedTupleHandOut (.ref z) (.ref b.objs.size) >>= _) _ _ _;refine Ad ?_;unfold Builtin.SmallTypes.ownedTupleHandOut;have z6:IsZip (b.push {cls:=.type "tuple",data:=.seq #[x,y]}) z a o .ellipsis:=Be _ W;refine Ad (wpAny_setField_rec z6 (by simp) λg7 R S=>?_)
 replace R:IsZip g7 z a o (rawInt b.objs.size):=R
 refine wpAny_setField_rec R (by simp) λG K T=>?_
 replace K:IsZip G z a o (rawInt b.objs.size):=K
 have L:∀c d,c≠z->b.get? c=some d->G.get? c=some d:=λc d n e=>T.extBut _ _ n (S.extBut _ _ n (Be _ e));have Y:IsPair G b.objs.size x y:=T.extBut _ _ (Nat.ne_of_gt X) (S.extBut _ _ (Nat.ne_of_gt X) (B9 _ rfl));have Z:G.objs.size=b.objs.size+1:=(by rw[T.1,S.1,Heap.size_push]);rw[sz] at K Y Z;refine Aw ⟨_,rfl,?_⟩;show Q (.ref b.objs.size) _;rw[sz];obtain⟨oi,e1,e2⟩:=i5;obtain⟨oj,af,ag⟩:=j5;exact ah G K (L _ _ D.TOz H) ⟨oi,L _ _ D.i1z e1,e2⟩ ⟨oj,L _ _ D.i2z af,ag⟩ Y Z λc d I J O P e=>L c d I (k5 c d I J O P e)
def Z5{i p:Addr}{k m:Nat}{xs:Array Value}{v:Value}{Q:PySem.Fin->Shared->Prop}(J:A.handled=none)(D:ZipApart z a o i j p q)(r:IsZip s.heap z a o .none)(U:IsPair s.heap a (.ref i) (.ref j))(V:IsPair s.heap o u v)
 (K:s.heap.IsTupleIter i p k) (W:s.heap.IsTupleIter j q m) (L:s.heap.IsTuple p xs) (X:s.heap.IsTuple q ys) (aa:xs[k]?=none\/ys[m]?=none)
 (T:∀g e,(∀c d,c≠z->c≠o->c≠i->c≠j->s.heap.get? c=some d->g.get? c=some d)->(∃d,g.get? e=some d/\d.cls=.type "StopIteration")->E (.ref e) {s with heap:=g}) :
 wpAny (model prog w) A (Builtin.«zip.__next__» ⟨[.ref z],[]⟩) Q E s:=by
 show wpAny _ _ (field (.ref z) 2 >>= _) _ _ _;refine Ad (wpAny_field r rfl (x:=.bool false) rfl ?_);show wpAny _ _ (field (.ref z) 3 >>= _) _ _ _;refine Ad (wpAny_field r rfl (x:=.ref a) rfl (Ad (Gk U rfl ?_)));show wpAny _ _ (Builtin.SmallTypes.ownedTupleIsFree (.ref z) >>= _) _ _ _;refine Ad ?_;unfold Builtin.SmallTypes.ownedTupleIsFree;refine Ad (wpAny_field r rfl (x:=.none) rfl (Aw ?_));simp only[if_true];refine Ad (Hi (Ad (wpAny_field r rfl (x:=.ref o) rfl (Ad (wpAny_setField_rec r (by simp) λY C b=>?_)))))
 replace C:IsZip Y z a o .ellipsis:=C
 refine Ad ?_;simp only[List.zipIdx_cons,List.zipIdx_nil,List.forIn_cons,List.forIn_nil];refine Ad (Ad (wpAny_onRaise ?_));show wpAny _ _ (Builtin.SmallTypes.nextOf (.ref i) >>= _) _ _ _
 cases F:xs[k]? with
 |none =>
   refine Ad (Tf J (K.extBut b.extBut D.i1z) (L.extBut b.extBut D.l1z) F λG e f H=>?_);obtain⟨d,l,y⟩:=H;have M:IsZip G z a o .ellipsis:=f _ _ D.i1z.symm C;have ne:e≠z:=λt=>by subst t;rw[M] at l;cases l;simp at y
   exact wpAny_setField_rec M (by simp) λN ζ n=>T N e (λc d B ζ I ζ t=>n.extBut _ _ B (f _ _ I (b.extBut _ _ B t))) ⟨d,n.extBut _ _ ne l,y⟩
 |some x =>
   have Z:ys[m]?=none:=by
    rcases aa with h|h;rw[F] at h;cases h;exact h
   refine Ad (Qc (K.extBut b.extBut D.i1z) (L.extBut b.extBut D.l1z) F λG i2 f=>Aw ?_);have O:IsPair G o u v:=f.extBut _ _ D.TOi1 (b.extBut _ _ D.TOz V);refine Ad (Gk O rfl (Ad (wpAny_updateSeq_pair O λN o3 n=>Ad (wpAny_letGo (Aw ?_)))));refine Ad (Ad (wpAny_onRaise ?_));show wpAny _ _ (Builtin.SmallTypes.nextOf (.ref j) >>= _) _ _ _;refine Ad (Tf J (((W.extBut b.extBut D.i2z).extBut f.extBut D.i12.symm).extBut n.extBut D.TOi2.symm) (((X.extBut b.extBut D.l2z).extBut f.extBut D.l2i1).extBut n.extBut D.l2TO) Z λg4 e P H=>?_);obtain⟨d,l,y⟩:=H;have R:IsZip g4 z a o .ellipsis:=P _ _ D.i2z.symm (n.extBut _ _ D.TOz.symm (f.extBut _ _ D.i1z.symm C));have ne:e≠z:=λt=>by subst t;rw[R] at l;cases l;simp at y
   exact wpAny_setField_rec R (by simp) λg5 ζ S=>T g5 e (λc d B n2 I n4 t=>S.extBut _ _ B (P _ _ n4 (n.extBut _ _ n2 (f.extBut _ _ I (b.extBut _ _ B t))))) ⟨d,S.extBut _ _ ne l,y⟩
theorem Z6{i p:Addr}{k m:Nat}{xs:Array Value}{x y v:Value}{Q:Option Value->Shared->Prop}(D:ZipApart z a o i j p q)(b:IsZip s.heap z a o .none)(f:IsPair s.heap a (.ref i) (.ref j))(h:IsPair s.heap o u v)
 (l:s.heap.IsTupleIter i p k) (n:s.heap.IsTupleIter j q m) (r:s.heap.IsTuple p xs) (t:s.heap.IsTuple q ys) (B:xs[k]?=some x) (C:ys[m]?=some y)
 (N:∀g,IsZip g z a o (rawInt s.heap.objs.size)->IsPair g o x y->g.IsTupleIter i p (k+1)->g.IsTupleIter j q (m+1)->IsPair g s.heap.objs.size x y->g.objs.size=s.heap.objs.size+1->(∀c d,c≠z->c≠o->c≠i->c≠j->s.heap.get? c=some d->g.get? c=some d)->Q (some (.ref s.heap.objs.size)) {s with heap:=g}):wpAny (model prog w) A (pyNext (.ref z)) Q E s:=by
 have e:s.TypeIs (.ref z) "zip" :=⟨_,b,rfl⟩;unfold pyNext;exact Ad (wpAny_attempt (wpAny_callSpecial?_slot (name:=Str.ofString "__next__") e F.slot_zip_next (wpAny_call_entry F.slot_zip_next e F.entry_zip_next (Z4 D b f h l n r t B C λg G H I J K L M=>Aw (N g G H I J K L M)) (F.args_zip_next_1 _))))
theorem Z7{i p:Addr}{k m:Nat}{xs:Array Value}{v:Value}{Q:Option Value->Shared->Prop}(l:A.handled=none)(D:ZipApart z a o i j p q)(f:IsZip s.heap z a o .none)(n:IsPair s.heap a (.ref i) (.ref j))(r:IsPair s.heap o u v)
 (t:s.heap.IsTupleIter i p k) (x:s.heap.IsTupleIter j q m) (y:s.heap.IsTuple p xs) (B:s.heap.IsTuple q ys) (K:xs[k]?=none\/ys[m]?=none)
 (J:∀g,(∀c d,c≠z->c≠o->c≠i->c≠j->s.heap.get? c=some d->g.get? c=some d)->Q none {s with heap:=g}):wpAny (model prog w) A (pyNext (.ref z)) Q E s:=by
 have h:s.TypeIs (.ref z) "zip" :=⟨_,f,rfl⟩;unfold pyNext;refine Ad (wpAny_attempt (wpAny_callSpecial?_slot (name:=Str.ofString "__next__") h F.slot_zip_next (wpAny_call_entry F.slot_zip_next h F.entry_zip_next (Z5 l D f n r t x y B K λg e C G=>?_) (F.args_zip_next_1 _))));obtain⟨d,H,I⟩:=G;exact Ad (wpAny_isInstance (T:= "StopIteration") (b:=true) ⟨d,H,I⟩ isSubtype_stop (Aw (J _ C)))
end
abbrev Qd (h:Heap) (p:Addr):Heap:=h.push {cls:=.type "tuple_iterator",data:=.fields #[.ref p,.int 0 0]}
abbrev Qe (h:Heap) (p q:Addr):Heap:=(Qd h p).push {cls:=.type "tuple_iterator",data:=.fields #[.ref q,.int 0 0]}
abbrev Qf (h:Heap) (p q:Addr):Heap:=(Qe h p q).push {cls:=.type "tuple",data:=.seq #[.ref h.objs.size,.ref (Qd h p).objs.size]}
abbrev Qg (h:Heap) (p q:Addr):Heap:=(Qf h p q).push {cls:=.type "tuple",data:=.seq #[.none,.none]}
abbrev Mf (h:Heap) (p q:Addr):Heap:=(Qg h p q).push {cls:=.type "zip",data:=.fields #[.none,.bool false,.bool false,.ref (Qe h p q).objs.size,.ref (Qf h p q).objs.size]}
def Z8(p q:Addr)(xs ys:Array Value):Meets (Builtin.«zip.__new__» ⟨[.type "zip",.ref p,.ref q],[]⟩) (λζ R s=>s.heap.IsTuple p xs/\s.heap.IsTuple q ys/\R (.ok (.ret (.ref (Qg s.heap p q).objs.size))) {s with heap:=Mf s.heap p q}):=
 .of_wp λprog w A R s h=>by
  obtain⟨a,g,d,tk,b⟩:=s;obtain⟨c,e,h⟩:=h;have j:=sub_zip;have f:Heap.IsTuple (Shared.heap ⟨a,g,d,tk,b⟩) p xs:=c;have i:Heap.IsTuple (Shared.heap ⟨a.push {cls:=.type "tuple_iterator",data:=.fields #[.ref p,.int 0 0]},g,d,tk,b⟩) q ys:=Heap.IsTuple.push e _
  wp_walk using wpAny_pyIter_tuple f,wpAny_pyIter_tuple i
  exact⟨_,rfl,h⟩
theorem Z9{w:World}{p q:Addr}{xs ys:Array Value}(m:s.heap.IsTuple p xs)(n:s.heap.IsTuple q ys)
 (h:∀g,IsZip g (s.heap.objs.size+4) (s.heap.objs.size+2) (s.heap.objs.size+3) .none->IsPair g (s.heap.objs.size+2) (.ref s.heap.objs.size) (.ref (s.heap.objs.size+1))->IsPair g (s.heap.objs.size+3) .none .none->g.IsTupleIter s.heap.objs.size p 0->g.IsTupleIter (s.heap.objs.size+1) q 0->g.objs.size=s.heap.objs.size+5->(∀c o,s.heap.get? c=some o->g.get? c=some o)->Q (.ref (s.heap.objs.size+4)) {s with heap:=g}) :
 wpAny (model prog w) A (call (.type "zip") [.ref p,.ref q]) Q E s:=by
 refine callType_new F.called_zip (by decide) (F.typeCall_zip_2 _ _) (F.newCall_zip_2 _ _) (λu=>F.args_object_init_3 u _ _) F.entry_zip_new (Z8 p q xs ys) ⟨m,n,?_⟩;have a:(Qd s.heap p).objs.size=s.heap.objs.size+1:=Heap.size_push ..;have b:(Qe s.heap p q).objs.size=s.heap.objs.size+2:=(by rw[Heap.size_push,a]);have d:(Qf s.heap p q).objs.size=s.heap.objs.size+3:=(by rw[Heap.size_push,b]);have f:(Qg s.heap p q).objs.size=s.heap.objs.size+4:=(by rw[Heap.size_push,d]);have r:(Mf s.heap p q).objs.size=s.heap.objs.size+5:=(by rw[Heap.size_push,f]);have i:(Mf s.heap p q).get? (Qg s.heap p q).objs.size=some _:=B9 _ rfl;have j:(Mf s.heap p q).get? (Qf s.heap p q).objs.size=some _:=Be _ (B9 _ rfl);have k:(Mf s.heap p q).get? (Qe s.heap p q).objs.size=some _:=Be _ (Be _ (B9 _ rfl));have l:(Mf s.heap p q).get? (Qd s.heap p).objs.size=some _:=Be _ (Be _ (Be _ (B9 _ rfl)));have t:(Mf s.heap p q).get? s.heap.objs.size=some _:=Be _ (Be _ (Be _ (Be _ (B9 _ rfl))));show _/\_;rw[b,d,f] at i;rw[a,b] at k;rw[d] at j;rw[a] at l;rw[f];exact⟨⟨_,i,rfl⟩,h _ i k j ⟨_,t,rfl,rfl⟩ ⟨_,l,rfl,rfl⟩ r λc o e=>Be _ (Be _ (Be _ (Be _ (Be _ e))))⟩
def HX (K:Ah) (l1 l2:Addr):It:=
 ⟨λi H=>∃xs ys x y,Ap K H l1 xs/\Ap K H l2 ys/\xs[i]?=some x/\ys[i]?=some y,
  λi H v H'=>∃T x y,H T=none/\v=.ref T/\H'=upd H T (.tup [x,y])/\(∀xs,Ap K H l1 xs->xs[i]?=some x)/\∀ys,Ap K H l2 ys->ys[i]?=some y,
  λi H=>∃xs ys,Ap K H l1 xs/\Ap K H l2 ys/\(xs.length<=i\/ys.length<=i)⟩
def OJ (z TI TO i1 i2 l1 l2:Addr) (i:Nat) (h:Heap):Prop:=IsZip h z TI TO .none/\IsPair h TI (.ref i1) (.ref i2)/\(∃a b,IsPair h TO a b)/\h.IsTupleIter i1 l1 i/\h.IsTupleIter i2 l2 i
theorem cA{an:Program}{w:World}{K:Ah}{k:Nat}{z TI TO g j l1 l2:Addr}(D:ZipApart z TI TO g j l1 l2) :
 Fo an w K (.Tuple es k L) (HX K l1 l2) [z,TI,TO,g,j] z (OJ z TI TO g j l1 l2) where
 mem:=by simp
 obj:=λi h F b d=>by
  obtain⟨G,J,⟨a,c,N⟩,⟨o1,e1,c1,d1⟩,⟨o2,e2,c2,d2⟩⟩:=F;simp at d;rcases d with rfl|rfl|rfl|rfl|rfl;exact⟨_,G,λv q=>by cases q⟩;exact⟨_,J,λv q=>by cases q⟩;exact⟨_,N,λv q=>by cases q⟩;exact⟨_,e1,λv q=>by rw[d1] at q;cases q⟩;exact⟨_,e2,λv q=>by rw[d2] at q;cases q⟩
 keep:=λi h h' F T=>by
  obtain⟨G,J,⟨a,c,N⟩,O,P⟩:=F;exact⟨T z (by simp) _ G,T TI (by simp) _ J,⟨a,c,T TO (by simp) _ N⟩,O.at λo e=>T g (by simp) o e,P.at λo e=>T j (by simp) o e⟩
 item:=by
  intro aa hP hw hK B i aj s σ H E I C F hg;subst hP hw hK;obtain⟨xs,ys,x,y,Y,Z,hx,hy⟩:=hg;obtain⟨G,J,⟨a,c,N⟩,O,P⟩:=F;obtain⟨a0,af,p1,ao⟩:=I.tuple Y;obtain⟨a7,ag,ab,aq⟩:=I.tuple Z;obtain⟨V,ar,au⟩:=af.get hx;obtain⟨W,av,aw⟩:=ag.get hy;refine Z6 D G J N O P p1 ab (x:=V) (y:=W) (by simpa using ar) (by simpa using av) λh' a1 a2 a3 a4 a5 a6 M=>?_;refine⟨_,rfl,wpAny_letOwnedTupleGo_zip (s:={s with heap:=h'}) a1 λU a8 S=>?_⟩;have p:=C z (by simp);have A:=C TO (by simp);have r:=C g (by simp);have t:=C j (by simp);have G6:∀b u,H b=some u->b≠z/\b≠TO/\b≠g/\b≠j:=λb u e=>⟨AK e p.1,AK e A.1,AK e r.1,AK e t.1⟩;have keep:∀b o,b≠z->b≠TO->b≠g->b≠j->s.heap.get? b=some o->U.get? b=some o:=λb o X n2 n3 n4 e=>(S.2 b X).trans (M b o X n2 n3 n4 e);have f:∀{b:Addr},b∉[z,TO,g,j]->b≠z/\b≠TO/\b≠g/\b≠j:=λ{b}d=>by simpa using d
  have I1:Inv aa aj σ H {s with heap:=U}:=by
   refine I.step (g':=s.gens) (t':=s.toks) (d':=s.drawn) (h':=U) (ch:=[z,TO,g,j]) (λb d=>?_) (λb l ζ ζ d e ζ=>keep b l (f d).1 (f d).2.1 (f d).2.2.1 (f d).2.2.2 e) (λb l ζ ζ d e ζ=>⟨l.slots,keep b l (f d).1 (f d).2.1 (f d).2.2.1 (f d).2.2.2 e⟩)
    (λζ ζ ζ ζ n=>n) (λb l d e=>⟨l,keep b l (f d).1 (f d).2.1 (f d).2.2.1 (f d).2.2.2 e⟩) (λζ ζ e=>e) (λζ ζ ζ e=>e) (λb ps e=>⟨#[],by rw[e];simp⟩) (λm hm=>?_) (λb u e=>?_) I.bare
   have:b=z\/b=TO\/b=g\/b=j:=(by simpa using d);rcases this with rfl|rfl|rfl|rfl;exact⟨p.2.2.2.1,p.2.1,p.2.2.2.2.1,p.2.2.2.2.2⟩;exact⟨A.2.2.2.1,A.2.1,A.2.2.2.2.1,A.2.2.2.2.2⟩;exact⟨r.2.2.2.1,r.2.1,r.2.2.2.2.1,r.2.2.2.2.2⟩;exact⟨t.2.2.2.1,t.2.1,t.2.2.2.2.1,t.2.2.2.2.2⟩;obtain⟨o,es,ep,ho,ae⟩:=hm;exact⟨o,es,ep,keep _ o (Ne.symm p.2.1) (Ne.symm A.2.1) (Ne.symm r.2.1) (Ne.symm t.2.1) ho,ae⟩;refine(I.hok b u e).stay (λc v B q=>?_) (λζ q=>q) λζ ζ q=>q
   have ah:∃Q,H c=some Q:=by
    rcases B with rfl|B;exact⟨_,e⟩;exact⟨_,B⟩
   obtain⟨Q,R⟩:=ah;obtain⟨X,n2,n3,n4⟩:=G6 c Q R;exact keep c v X n2 n3 n4 q
  have ax:s.heap.objs.size≠z:=Nat.ne_of_gt (A5 G);have ak:H s.heap.objs.size=none:=I.hok.fresh (AD _);have al:U.get? s.heap.objs.size=some {cls:=.type "tuple",data:=.seq #[V,W]}:=(S.2 _ ax).trans a5
  have I2:Inv aa aj σ (upd H s.heap.objs.size (.tup [x,y])) {s with heap:=U}:=by
   refine I1.track (I.fpOk (AD _) ak) ⟨_,al⟩ ?_;exact⟨by show 2<=sizeLine;decide,[V,W],.cons au (.cons aw .nil),⟨_,al,rfl,_,rfl⟩⟩
  refine⟨.ref s.heap.objs.size,_,I2,rfl,⟨s.heap.objs.size,x,y,ak,rfl,rfl,λzs ai=>by rw[I.tuple_inj ai Y];exact hx,λzs ai=>by rw[I.tuple_inj ai Z];exact hy⟩,?_,λb d=>?_⟩;refine⟨a8,S.extBut _ _ D.TIz (M _ _ D.TIz D.TITO D.TIi1 D.TIi2 J),⟨V,W,S.extBut _ _ D.TOz a2⟩,a3.extBut S.extBut D.i1z,a4.extBut S.extBut D.i2z⟩;have ay:=(C b d).1;rw[AE (λq=>?_)];exact ay;have az:b=z\/b=TI\/b=TO\/b=g\/b=j:=(by simpa using d);obtain⟨o1,e1,_⟩:=O;obtain⟨o2,e2,_⟩:=P
  have lt:b<s.heap.objs.size:=by
   rcases az with rfl|rfl|rfl|rfl|rfl;exact A5 G;exact A5 J;exact A5 N;exact A5 e1;exact A5 e2
  rw[q] at lt;exact absurd lt (Gi _)
 done:=by
  intro aa hP hw hK B i aj s σ H E I C F hg;subst hP hw hK;obtain⟨xs,ys,Y,Z,aB⟩:=hg;obtain⟨G,J,⟨a,c,N⟩,O,P⟩:=F;obtain⟨a0,af,p1,ao⟩:=I.tuple Y;obtain⟨a7,ag,ab,aq⟩:=I.tuple Z;have a9:=af.length;have aA:=ag.length;refine Z7 (I.ok.hd B) D G J N O P p1 ab (by simp;lia) λh' M=>⟨rfl,?_⟩;have p:=C z (by simp);have A:=C TO (by simp);have r:=C g (by simp);have t:=C j (by simp);have f:∀{b:Addr},b∉[z,TO,g,j]->b≠z/\b≠TO/\b≠g/\b≠j:=λ{b}d=>by simpa using d
  refine I.step (g':=s.gens) (t':=s.toks) (d':=s.drawn) (h':=h') (ch:=[z,TO,g,j]) (λb d=>?_) (λb l ζ ζ d e ζ=>M b l (f d).1 (f d).2.1 (f d).2.2.1 (f d).2.2.2 e) (λb l ζ ζ d e ζ=>⟨l.slots,M b l (f d).1 (f d).2.1 (f d).2.2.1 (f d).2.2.2 e⟩)
   (λζ ζ ζ ζ n=>n) (λb l d e=>⟨l,M b l (f d).1 (f d).2.1 (f d).2.2.1 (f d).2.2.2 e⟩) (λζ ζ e=>e) (λζ ζ ζ e=>e) (λb ps e=>⟨#[],by rw[e];simp⟩) (λm hm=>?_) (λb u e=>?_) I.bare
  have:b=z\/b=TO\/b=g\/b=j:=(by simpa using d);rcases this with rfl|rfl|rfl|rfl;exact⟨p.2.2.2.1,p.2.1,p.2.2.2.2.1,p.2.2.2.2.2⟩;exact⟨A.2.2.2.1,A.2.1,A.2.2.2.2.1,A.2.2.2.2.2⟩;exact⟨r.2.2.2.1,r.2.1,r.2.2.2.2.1,r.2.2.2.2.2⟩;exact⟨t.2.2.2.1,t.2.1,t.2.2.2.2.1,t.2.2.2.2.2⟩;obtain⟨o,es,ep,ho,ae⟩:=hm;exact⟨o,es,ep,M _ o (Ne.symm p.2.1) (Ne.symm A.2.1) (Ne.symm r.2.1) (Ne.symm t.2.1) ho,ae⟩;refine(I.hok b u e).stay (λc v B q=>?_) (λζ q=>q) λζ ζ q=>q
  have ah:∃Q,H c=some Q:=by
   rcases B with rfl|B;exact⟨_,e⟩;exact⟨_,B⟩
  obtain⟨Q,R⟩:=ah;exact M c v (AK R p.1) (AK R A.1) (AK R r.1) (AK R t.1) q
 self:=λζ ζ ζ ζ ζ F h=>wpAny_pyIter_zip F.1 h
def cB{K:Ah}{a b:Addr}{ys:List V}{g:TG}{tb:TS}(Pv:Nat->St->Hp->Prop)(j:Pv 0 σ H)(k:∀i σ H,Pv i σ H->Ap K H a xs/\Ap K H b ys)
 (l:∀i x y T σ H,xs[i]?=some x->ys[i]?=some y->H T=none->Pv i σ H->g (.ref T) σ (upd H T (.tup [x,y])) λσ2 c=>tb {D with nx:=Pv (i+1),ct:=Pv (i+1),bk:=D.nx} σ2 c) (hd:∀σ H,Pv (min xs.length ys.length) σ H->D.nx σ H) :
 ∃W:Nat->Nat->St->Hp->Prop,(∃m,W 0 m σ H)/\∀i m σ H,W i m σ H ->
  ((HX K a b).stop i H/\D.nx σ H)\/((HX K a b).go i H/\∃N:St->Hp->Prop,(∀σ' H',N σ' H'->∃h,h<m/\W (i+1) h σ' H')/\∀x H',(HX K a b).yld i H x H'->g x σ H' λσ2 c=>tb {D with nx:=N,ct:=N,bk:=D.nx} σ2 c):=by
 refine⟨λi m σ H=>m=min xs.length ys.length-i/\i<=min xs.length ys.length/\Pv i σ H,⟨_,rfl,Cm _,j⟩,?_⟩;rintro i m σ H ⟨rfl,z,p⟩;obtain⟨d,f⟩:=k i σ H p;by_cases w:i<min xs.length ys.length;have n:i<xs.length:=(by lia);have o:i<ys.length:=(by lia);refine .inr ⟨⟨xs,ys,xs[i],ys[i],d,f,by simp[n],by simp[o]⟩,Pv (i+1),λσ' H' q=>⟨min xs.length ys.length-(i+1),by lia,rfl,w,q⟩,λv H' y=>?_⟩;obtain⟨T,x,r,s,rfl,rfl,t,u⟩:=y;exact l i x r T σ H (t xs d) (u ys f) s p;have e:i=min xs.length ys.length:=(by lia);refine .inl ⟨⟨xs,ys,d,f,by lia⟩,?_⟩;rw[e] at p;exact hd σ H p
def OK (K:Ah) (ta:TA):TI:=λσ H R=>ta σ H λvs Y=>∃l1 l2,vs=[.ref l1,.ref l2]/\(((∃xs,Ae K Y l1 xs)/\(∃ys,Ae K Y l2 ys)/\R (Oj K l1 l2) Y)\/((∃xs,Ap K Y l1 xs)/\(∃ys,Ap K Y l2 ys)/\R (HX K l1 l2) Y))
def Wv{X:Cx}{k:Nat}{j:Pos}{a b:Expr}{D:TA}{p:Pos}(F:Gl X "zip")(G:X.mg "zip" = none)(K:PA X [a,b] D)(M:starEach [a,b] X.env=[(false,eval a X.env),(false,eval b X.env)]:=by rfl)(E:starEach [b] X.env=[(false,eval b X.env)]:=by rfl) :
 PI X (.Tuple es k j) (.Call (.Name "zip" p) [a,b] [] L) (OK X.K D):=by
 intro ae s σ H ah I h;refine Call_ (IX I F G (u:=.type "zip") (by decide +kernel) (PyProof.Rows.callWith_type1 (AS (K L ae s σ H _ I h) λus c⟨vs,Y,d,N,O⟩=>?_) (by rw[M,E]) (by rw[E];rfl)));obtain⟨l,m,rfl,P⟩:=O;obtain⟨Q,R,rfl,T,U⟩:=Jd N;obtain rfl:Q=Value.ref l:=T;obtain rfl:R=Value.ref m:=U;rcases P with⟨⟨xs,w⟩,⟨S,x⟩,q⟩|⟨⟨xs,w⟩,⟨S,x⟩,q⟩;obtain⟨af,V,f,W⟩:=d.list w;obtain⟨ag,Z,J,aa⟩:=d.list x;have n:l<c.heap.objs.size:=by obtain⟨_,e,_⟩:=f.isList;exact A5 e
 have o:m<c.heap.objs.size:=by obtain⟨_,e,_⟩:=J.isList;exact A5 e
 refine call_zip_2 f.isList J.isList λr g y z A B ab t=>?_;refine wpAny_pyIter_zip (s:={c with heap:=r}) g ?_;refine⟨_,[c.heap.objs.size+4,c.heap.objs.size+2,c.heap.objs.size+3,c.heap.objs.size,c.heap.objs.size+1],_,_,Y,rfl,d.kept (t':=c.toks) t,YO (zipApart_new n o),⟨g,y,⟨_,_,z⟩,A,B⟩,λb v=>?_,q⟩
 have i:c.heap.objs.size<=b:=by
  have C:b=c.heap.objs.size+4\/b=c.heap.objs.size+2\/b=c.heap.objs.size+3\/b=c.heap.objs.size\/b=c.heap.objs.size+1:=(by simpa using v);rcases C with rfl|rfl|rfl|rfl|rfl;exact Nat.le_add_right _ _;exact Nat.le_add_right _ _;exact Nat.le_add_right _ _;exact AD _;exact Nat.le_add_right _ _
 exact d.fpOk i (d.hok.fresh i);obtain⟨af,V,f,W⟩:=d.tuple w;obtain⟨ag,Z,J,aa⟩:=d.tuple x;have n:l<c.heap.objs.size:=by obtain⟨_,e,_⟩:=f;exact A5 e
 have o:m<c.heap.objs.size:=by obtain⟨_,e,_⟩:=J;exact A5 e
 refine Z9 f J λr g y z A B ab t=>?_;refine wpAny_pyIter_zip (s:={c with heap:=r}) g ?_;refine⟨_,[c.heap.objs.size+4,c.heap.objs.size+2,c.heap.objs.size+3,c.heap.objs.size,c.heap.objs.size+1],_,_,Y,rfl,d.kept (t':=c.toks) t,cA (zipApart_new n o),⟨g,y,⟨_,_,z⟩,A,B⟩,λb v=>?_,q⟩
 have i:c.heap.objs.size<=b:=by
  have C:b=c.heap.objs.size+4\/b=c.heap.objs.size+2\/b=c.heap.objs.size+3\/b=c.heap.objs.size\/b=c.heap.objs.size+1:=(by simpa using v);rcases C with rfl|rfl|rfl|rfl|rfl;exact Nat.le_add_right _ _;exact Nat.le_add_right _ _;exact Nat.le_add_right _ _;exact AD _;exact Nat.le_add_right _ _
 exact d.fpOk i (d.hok.fresh i)
mutual
inductive Bd (F:Addr->Prop) (H:Hp):V->Dt->Prop where
 | non:Bd F H .non .non
 | bl (b:Bool):Bd F H (.bl b) (.bl b)
 | int (i:Int):Bd F H (.int i) (.int i)
 | str (x:Str):Bd F H (.str x) (.str x)
 | tup {a:Addr} {vs:List V} {ds:List Dt} (h:H a=some (.tup vs)) (t:Ax F H vs ds):Bd F H (.ref a) (.tup ds)
 | lst {a:Addr} {vs:List V} {ds:List Dt} (h:H a=some (.lst vs)) (f:F a) (t:Ax F H vs ds):Bd F H (.ref a) (.lst ds)
inductive Ax (F:Addr->Prop) (H:Hp):List V->List Dt->Prop where
 | nil:Ax F H [] []
 | cons {v:V} {d:Dt} {vs:List V} {ds:List Dt} (h:Bd F H v d) (t:Ax F H vs ds):Ax F H (v :: vs) (d :: ds)
end
mutual
theorem Bd.go {F G:Addr->Prop}{H H':Hp} (e:∀ a vs,H a=some (.tup vs)->H' a=some (.tup vs)) (l:∀ a vs,H a=some (.lst vs)->F a->H' a=some (.lst vs)/\G a) {v:V} {d:Dt} (h:Bd F H v d):Bd G H' v d:=by
 cases h with
 | non=>exact .non
 | bl b=>exact .bl b
 | int i=>exact .int i
 | str x=>exact .str x
 | tup h t=>exact .tup (e _ _ h) (Ax.go e l t)
 | lst h f t=>exact .lst (l _ _ h f).1 (l _ _ h f).2 (Ax.go e l t)
theorem Ax.go {F G:Addr->Prop}{H H':Hp} (e:∀ a vs,H a=some (.tup vs)->H' a=some (.tup vs)) (l:∀ a vs,H a=some (.lst vs)->F a->H' a=some (.lst vs)/\G a) {vs:List V} {b:List Dt} (h:Ax F H vs b):Ax G H' vs b:=by
 cases h with
 | nil=>exact .nil
 | cons h t=>exact .cons (Bd.go e l h) (Ax.go e l t)
end
mutual
theorem Bd.dt {K:Ah}{F:Addr->Prop}{H:Hp}{v:V}{d:Dt} (h:Bd F H v d):Ar K H v d:=by
 cases h with
 | non=>exact .non
 | bl b=>exact .bl b
 | int i=>exact .int i
 | str x=>exact .str x
 | tup h t=>exact .tup (Ap.of h) (Ax.dts t)
 | lst h f t=>exact .lst (Ae.of h) (Ax.dts t)
theorem Ax.dts {K:Ah}{F:Addr->Prop}{H:Hp}{vs:List V}{a:List Dt} (h:Ax F H vs a):Aj K H vs a:=by
 cases h with
 | nil=>exact .nil
 | cons h t=>exact .cons (Bd.dt h) (Ax.dts t)
end
section
variable {F G M:Addr->Prop} {H H':Hp} {v:V} {d:Dt} {vs us:List V} {ds es:List Dt}
def Bd.same(s:Ac H H')(h:Bd F H v d):Bd F H' v d:=h.go (λζ ζ q=>s _ _ q) λζ ζ q f=>⟨s _ _ q,f⟩
def Ax.same(s:Ac H H')(h:Ax F H vs ds):Ax F H' vs ds:=h.go (λζ ζ q=>s _ _ q) λζ ζ q f=>⟨s _ _ q,f⟩
def Ax.keeps(k:Keeps M H H')(a:∀x,F x->¬M x)(h:Ax F H vs ds):Ax F H' vs ds:=h.go (λζ ζ q=>k.tup q) λζ ζ q f=>⟨k.at_ _ _ q (a _ f),f⟩
def Bd.mono(e:∀x o,H x=some o->F x->G x)(h:Bd F H v d):Bd G H v d:=h.go (λζ ζ q=>q) λζ ζ q f=>⟨q,e _ _ q f⟩
def Ax.mono(e:∀x o,H x=some o->F x->G x)(h:Ax F H vs ds):Ax G H vs ds:=h.go (λζ ζ q=>q) λζ ζ q f=>⟨q,e _ _ q f⟩
theorem Ax.length:∀{vs:List V}{ds:List Dt},Ax F H vs ds->vs.length=ds.length
 |_,_,.nil=>rfl
 |_,_,.cons _ t=>by rw[El,El,Ax.length t]
theorem Ax.snoc:∀{vs:List V}{ds:List Dt},Ax F H vs ds->Bd F H v d->Ax F H (vs++[v]) (ds++[d])
 |_,_,.nil,h=>.cons h .nil
 |_,_,.cons a t,h=>.cons a (Ax.snoc t h)
theorem Ax.get:∀{vs:List V}{ds:List Dt}{i:Nat}{v:V},Ax F H vs ds->vs[i]?=some v->∃d,ds[i]?=some d/\Bd F H v d
 |_,_,i,v,.nil,e=>by simp at e
 |_,_,0,v,.cons a t,e=>by simp at e;subst e;exact⟨_,rfl,a⟩
 |_,_,i+1,v,.cons a t,e=>by
   obtain⟨d,b,c⟩:=Ax.get (i:=i) t (by simpa using e);exact⟨d,by simpa using b,c⟩
theorem Ax.of_all{α:Type}{f:α->V}{g:α->Dt}:∀{l:List α},(∀x∈l,Bd F H (f x) (g x))->Ax F H (l.map f) (l.map g)
 |[],_=>.nil
 |x::l,h=>.cons (h x BB) (Ax.of_all λy a=>h y (Co _ a))
end
theorem Tg{α:Type}{f:α->List V}{D:α->Dt}{F:Addr->Prop}{H:Hp}(d:∀(r:α)(t:Addr),H t=some (.tup (f r))->Bd F H (.ref t) (D r)):∀{ts:List Addr}{c:List α},RT f H ts c->Ax F H (ts.map V.ref) (c.map D)
 |[],[],_=>.nil
 |[],_::_,h=>by have:=h.len;simp at this
 |_::_,[],h=>by have:=h.len;simp at this
 |t::ts,r::c,h=>.cons (d r t (h.at_ 0 t r rfl rfl)) (Tg d ⟨by simpa using h.len,λn a b e g=>h.at_ (n+1) a b (by simpa using e) (by simpa using g)⟩)
variable {F:Addr->Prop}
def HY(r:Aq)(t:Addr)(h:H t=some (.tup (GY r))):Bd F H (.ref t) (P5 r):=.tup h (.cons (.int _) (.cons (.str _) (.cons (.int _) .nil)))
def CQ.own{t:Addr}(h:CQ F H t w):Bd F H (.ref t) (CG.D w):=by
 obtain⟨d,a,b,c⟩:=h;exact .lst a c (Tg HY b)
variable {b:AQ}
def DP.own{t:Addr}(h:DP F H t b):Bd F H (.ref t) (DS.D b):=by
 obtain⟨l,f,a,c,d,e⟩:=h;exact .tup a (.cons (.lst c e (Tg HY d)) (.cons (.int _) (.cons (.int _) .nil)))
def KZ (ss:List Bk) (m:Aq):DO:=match ss[m.1.toNat]? with
 |some s=>(match s.2[m.2.2.toNat]? with
   |some p=>p
   |none=>default)
 |none=>default
def Ww{k:Nat}{s:Bk}{p:DO}(a:m.1=(n:Int))(b:m.2.2=(k:Int))(c:ss[n]?=some s)(d:s.2[k]?=some p):KZ ss m=p:=by
 unfold KZ;rw[a,b,Bo,Bo,c];dsimp only;rw[d]
def Cs (ss:List Bk) (w:List Aq):DO:=match w.getLast? with
 |some m=>KZ ss m
 |none=>default
def Du (ss:List Bk) (w:List Aq):Prop:=∃(v:List Aq)(m:Aq),w=v++[m]/\Ev ss m/\m.2.1=("told" : Str)
def Qh(ss:List Bk)(v:List Aq)(m:Aq):Cs ss (v++[m])=KZ ss m:=by
 unfold Cs;rw[List.getLast?_concat]
def FC (W:Wd) (w:List Aq):Option Int:=if(Cs W.ss w).2.2.1=("by" : Str)/\W.as[(Cs W.ss w).2.2.2.toNat]?=some none then some (Cs W.ss w).2.2.2 else none
def FD (W:Wd):List (List Aq)->Option Ow
 |[]=>none
 |w::ws=>match FC W w with
   |some q=>some (w,q)
   |none=>FD W ws
def Bz (W:Wd) (w:List Aq):Option Int:=if(Cs W.ss w).2.2.1=("thing" : Str) then some (Cs W.ss w).2.2.2 else match W.as[(Cs W.ss w).2.2.2.toNat]? with
 |some (some p)=>if p.1=("thing" : Str) then some p.2 else none
 |_=>none
noncomputable def FL (ss:List Bk) (ord:A') (ws:List (List Aq)):List Ow->Option Ow
 |[]=>none
 |o::os=>if(ws.any λv=>Cn ss ord v o.1)=true then FL ss ord ws os else some o
abbrev Wt:Type:=Int×List Aq×Int
abbrev HZ:Option Wt->Dt
 |none=>.non
 |some p=>.tup [.int p.1,CG.D p.2.1,.int p.2.2]
noncomputable def Ew (W:Wd) (ord:A') (ws:List (List Aq)) (os:List Ow):Option Ow:=match FL W.ss ord ws os with
 |some o=>some o
 |none=>FD W (CS W.ss ord ws ws)
def Dh (W:Wd) (seen:List (List Aq)) (at_:Int):Str×Int:=if ∀w∈seen,Bz W w=none then("none",at_) else match seen with
 |[]=>("none",at_)
 |w::_=>(match Bz W w with
   |some n=>if ∀v∈seen,Bz W v=some n then("thing",n) else("torn",at_)
   |none=>("torn",at_))
noncomputable def Ce (W:Wd) (ord:A') (ws:List (List Aq)) (os:List Ow) (at_:Int):C'×Option Wt:=match Ew W ord ws os with
 |some o=>(none,some (at_,o.1,o.2))
 |none=>(some (Dh W (CS W.ss ord ws ws) at_),none)
variable {W:Wd}{os:List Ow}{o:Ow}
def Nn{ws:List (List Aq)}{at_:Int}(h:Ew W ord ws os=some o):Ce W ord ws os at_=(none,some (at_,o.1,o.2)):=by unfold Ce;rw[h]
def JI{ws:List (List Aq)}{at_:Int}(h:Ew W ord ws os=none):Ce W ord ws os at_=(some (Dh W (CS W.ss ord ws ws) at_),none):=by unfold Ce;rw[h]
def Wx{ws:List (List Aq)}(h:Ew W ord ws os=none):FD W (CS W.ss ord ws ws)=none:=by
 unfold Ew at h
 cases e:FL W.ss ord ws os with
 |some o=>rw[e] at h;cases h
 |none=>rw[e] at h;exact h
def Ti{a:List (List Aq)}{at_:Int}(h:∀w∈a,Bz W w=none):Dh W a at_=(("none" : Str),at_):=Al h
def Tj{r:List (List Aq)}{at_:Int}(h:¬∀v∈w::r,Bz W v=none)(k:¬∀v∈w::r,Bz W v=Bz W w):Dh W (w::r) at_=(("torn" : Str),at_):=by
 unfold Dh;rw[Ak h];dsimp only
 cases e:Bz W w with
 |none=>rfl
 |some n =>
   rw[e] at k;exact Ak k
def Tl{r:List (List Aq)}{at_:Int}(h:¬∀v∈w::r,Bz W v=none)(k:∀v∈w::r,Bz W v=Bz W w):∃n,Bz W w=some n/\Dh W (w::r) at_=(("thing" : Str),n):=by
 cases e:Bz W w with
 |none=>exact absurd (λv a=>by rw[k v a,e]) h
 |some n =>
   refine⟨n,rfl,?_⟩;unfold Dh;rw[Ak h];dsimp only;rw[e];exact Al λv a=>by rw[k v a,e]
def Wy{a b:Option Int}(h:Ef a=Ef b):a=b:=by
 cases a<;>cases b<;>first|rfl|(cases h;rfl)|cases h
def JJ{a:Option Int}:Ef a=.non↔a=none:=⟨λh=>Wy (b:=none) h,λh=>by rw[h];rfl⟩
def cC(a b:Option Int):Lv (Ef a) (Ef b)=true:=by cases a<;>cases b<;>rfl
def FX:(((l.map λw=>Ef (Bz W w)).map λv=>decide (v=V.non)).all id=true)↔∀w∈l,Bz W w=none:=by
 simp only[List.all_map,List.all_eq_true,Function.comp,id,decide_eq_true_eq,JJ]
def H1:(((l.map λw=>Ef (Bz W w)).map λv=>!decide (v=Ef (Bz W w))).any id=true)↔¬∀v∈l,Bz W v=Bz W w:=by
 simp only[List.any_map,Gh,Function.comp,id,Bool.not_eq_true',decide_eq_false_iff_not];refine⟨λ⟨v,a,b⟩h=>b (by rw[h v a]),λh=>?_⟩;refine Classical.byContradiction λn=>h λv c=>?_;exact Classical.byContradiction λm=>n ⟨v,c,λz=>m (Wy z)⟩
abbrev Lk:Type:=List AQ×List (List Aq)×List (List Aq)
abbrev No (l:Lk):Dt:=.tup [.lst (l.1.map DS.D),.lst (l.2.1.map CG.D),.lst (l.2.2.map CG.D)]
structure CH (W:Wd) (ord:A') (sc st:Int) (x:Str) (l:Lk) (os:List Ow):Prop where
 b:Dg W sc st l.1
 f:Nl W x l.1 l.2.1
 s:l.2.2=CS W.ss ord l.2.1 l.2.1
 o:OC W l.1 os
abbrev CI (W:Wd) (n:Int):Str×Int:=match W.gs[n.toNat]? with
 |some p=>Dr W.gs W.as p
 |none=>("no",0)
inductive LU (W:Wd) (inn:Int) (ord:A'):Int->Int->List Str->Int->C'->Option Wt->List Lk->List Int->Prop where
 |stop {sc st:Int} {x:Str} {r:List Str} {at_:Int} {l:Lk} {os:List Ow} {a:C'} {w:Option Wt} (h:CH W ord sc st x l os) (e:Ce W ord l.2.1 os at_=(a,w)) (n:(∀k,a≠some (("thing" : Str),k))\/r=[]):LU W inn ord sc st (x::r) at_ a w [l] []
 |opn {sc st:Int} {x y:Str} {r:List Str} {at_:Int} {l:Lk} {os:List Ow} {n q:Int} {w:Option Wt} (h:CH W ord sc st x l os) (e:Ce W ord l.2.1 os at_=(some (("thing" : Str),n),w)) (i:CI W n=(("open" : Str),q)):LU W inn ord sc st (x::y::r) at_ none (some (at_,[],q)) [l] [n]
 |no {sc st:Int} {x y:Str} {r:List Str} {at_:Int} {l:Lk} {os:List Ow} {n q:Int} {w:Option Wt} (h:CH W ord sc st x l os) (e:Ce W ord l.2.1 os at_=(some (("thing" : Str),n),w)) (i:CI W n=(("no" : Str),q)):LU W inn ord sc st (x::y::r) at_ (some ("none",at_+1)) none [l] [n]
 |go {sc st:Int} {x y:Str} {r:List Str} {at_:Int} {l:Lk} {os:List Ow} {n q:Int} {w w':Option Wt} {a:C'} {ls:List Lk} {ts:List Int} (h:CH W ord sc st x l os) (e:Ce W ord l.2.1 os at_=(some (("thing" : Str),n),w)) (i:CI W n=(("to" : Str),q)) (k:LU W inn ord q inn (y::r) (at_+1) a w' ls ts):LU W inn ord sc st (x::y::r) at_ a w' (l::ls) (n::ts)
variable {sc st:Int}{x:Str}
def To(ok:B2 W)(e:0<=sc/\sc<W.ss.length)(f:0<=st/\st<W.sts.length){bs:List AQ}(c:Dg W sc st bs)(a:w∈DY W x bs):Du W.ss w:=by
 have d:=(S6 ok e f c a).1;obtain⟨b,g,j,q,h,_,_,rfl⟩:=S3 a;exact⟨b.1,_,rfl,d _ (by simp),rfl⟩
def Qi{all:List (List Aq)}(h:w∈CS ss ord all l):w∈l:=(M0.mp h).1
def Np(c:Bn W)(h:Du W.ss w):Fv W.gs.length W.as.length (Cs W.ss w):=by
 obtain⟨v,m,rfl,⟨n,k,s,d,f,a,g⟩,i⟩:=h;rcases g with⟨e,_⟩|⟨_,b⟩;exact absurd (i.symm.trans e) S5;rw[Qh,Ww d f a (AC b)];exact c.tl s (Bl a) _ (Ep b)
def Wz{l:Addr}{v:List Aq}(h:CQ F H l (v++[m])):∃(a:List Addr)(t:Addr),H l=some (.lst (a.map V.ref))/\Bv (a.map V.ref) (-1)=some (.ref t)/\H t=some (.tup (GY m)):=by
 obtain⟨a,f,b,_⟩:=h;have g:=b.len;rw[AY,DJ] at g;have d:v.length<a.length:=(by lia);have i:=AC d;refine⟨a,a[v.length],f,?_,b.at_ v.length _ m i (by simp)⟩
 have e:a.map V.ref=(a.take v.length).map V.ref++[V.ref a[v.length]]:=by
  have:a=a.take v.length++[a[v.length]]:=by
   have c:=List.take_append_drop v.length a;rw[M1 d,List.drop_eq_nil_of_le (by lia)] at c;exact c.symm
  conv=>lhs;rw[this]
  rw[Br];rfl
 rw[e];exact S1 _ _
def Tp (F:Addr->Prop) (H:Hp) (v:V):Option Ow->Prop
 |none=>v=.non
 |some o=>∃p l,v=.ref p/\H p=some (.tup [.ref l,.int o.2])/\CQ F H l o.1
def FK.way{t:Addr}{p:Ow}(h:FK F H t p):∃l,H t=some (.tup [.ref l,.int p.2])/\CQ F H l p.1:=by
 obtain⟨l,a,b,c,d,e⟩:=h;exact⟨l,b,a,c,d,e⟩
variable {α:Type}
def Tq{l:List α}{x:α}(h:l[i]?=some x):l.drop i=x::l.drop (i+1):=by
 obtain⟨a,rfl⟩:=A8.mp h;exact M1 a
def WA{ws:List (List Aq)}(h:(ws.any λv=>Cn ss ord v o.1)=false):FL ss ord ws (o::os)=some o:=by
 unfold FL;rw[h,Ak Cz]
def WB{ws:List (List Aq)}(h:(ws.any λv=>Cn ss ord v o.1)=true):FL ss ord ws (o::os)=FL ss ord ws os:=by
 conv=>lhs;unfold FL
 rw[h,Al rfl]
variable {q:Int}
def WC{ws:List (List Aq)}(h:FC W w=some q):FD W (w::ws)=some (w,q):=by
 unfold FD;rw[h]
def Qj{ws:List (List Aq)}(h:FC W w=none):FD W (w::ws)=FD W ws:=by
 conv=>lhs;unfold FD
 rw[h]
theorem Tr{W:Wd}:∀{ws:List (List Aq)},FD W ws=none->∀w∈ws,FC W w=none
 |[],_,w,h=>by cases h
 | x :: ws,e,w,h=>by
   cases ex:FC W x with
   |some q=>rw[WC ex] at e;cases e
   |none =>
     rw[Qj ex] at e;rcases Cj.mp h with rfl|h;exact ex;exact Tr e w h
def Bd.two{m:Addr}{d e:Dt}(h:Bd F H (.ref m) (.tup [d,e])):∃x y,H m=some (.tup [x,y])/\Bd F H x d/\Bd F H y e:=by
 cases h with
 | tup h t =>
   cases t with
   |cons a t =>
     cases t with
     |cons b t =>
       cases t with
       |nil=>exact⟨_,_,h,a,b⟩
def Bd.ansN(h:Bd F H v (CW none)):v=.non:=by cases h;rfl
def Bd.ansS{p:Str×Int}(h:Bd F H v (CW (some p))):∃t,v=.ref t/\H t=some (.tup [.str p.1,.int p.2]):=by
 have c:Bd F H v (.tup [.str p.1,.int p.2]):=h
 cases v with
 |ref m =>
   obtain⟨x,y,e,a,b⟩:=c.two;cases a;cases b;exact⟨m,rfl,e⟩
 |_=>cases c
def Ts:("none" : Str)≠("thing" : Str):=by decide +kernel
def WD:("torn" : Str)≠("thing" : Str):=by decide +kernel
set_option tactic.hygienic true in
def cD{a:List (List Aq)}{at_ n:Int}(h:Dh W a at_=(("thing" : Str),n)):∃w∈a,Bz W w=some n:=by
 unfold Dh at h;split at h;exact absurd (BJ Prod.fst h) Ts;split at h;exact absurd (BJ Prod.fst h) Ts;rename_i w r _;split at h;rename_i m b;split at h;refine⟨w,BB,?_⟩;have e:m=n:=BJ Prod.snd h;rw[b,e];exact absurd (BJ Prod.fst h) WD;exact absurd (BJ Prod.fst h) WD
set_option tactic.hygienic true in
def cE(ok:B2 W)(b:Bn W)(c:Du W.ss w){n:Int}(h:Bz W w=some n):0<=n/\n<W.gs.length:=by
 have tk:=Np b c;unfold Bz at h;split at h;rename_i d;have e:=AO h;rcases tk with⟨_,f⟩|⟨a,_⟩;rw[<-e];exact f;rw[d] at a;exact absurd a (by decide +kernel);split at h;rename_i p g;split at h;rename_i i;rw[<-AO h];exact ok.an p (Bl g) i;cases h;cases h
def K0(ok:B2 W)(a:Bn W){ws:List (List Aq)}{at_ n:Int}{w:Option Wt}(b:∀w∈ws,Du W.ss w)(h:Ce W ord ws os at_=(some (("thing" : Str),n),w)):0<=n/\n<W.gs.length:=by
 unfold Ce at h;split at h;cases BJ Prod.fst h;obtain⟨w,c,d⟩:=cD (AO (BJ Prod.fst h));exact cE ok a (b w (Qi c)) d
def cF(ths:List (Str×Int))(as:List (C'))(q:Int):(Ee ths as q).1=("to" : Str)\/(Ee ths as q).1=("open" : Str)\/(Ee ths as q).1=("no" : Str):=by
 unfold Ee;split;split;split;split;exact .inl rfl;exact .inr (.inr rfl);exact .inr (.inr rfl);exact .inr (.inr rfl);exact .inr (.inl rfl);exact .inr (.inr rfl)
def cG(ths:List (Str×Int))(as:List (C'))(p:Str×Int):(Dr ths as p).1=("to" : Str)\/(Dr ths as p).1=("open" : Str)\/(Dr ths as p).1=("no" : Str):=by
 unfold Dr;split;exact .inl rfl;split;exact cF ths as p.2;exact .inr (.inr rfl)
structure LC (K:Ah) (F:Addr->Prop) (H:Hp) (nt A t:Addr) (W:Wd) (qs:List Qu) (inn:Int) (ord:A'):Prop where
 net:∃(S T R:Addr)(us Gs Es ts qt:List Addr),H nt=some (.tup [.ref S,.ref T,.ref R])/\Fw H S T R us Gs Es ts qt W.ss W.gs qs
 ans:Hb K H A W.as
 tab:FR K F H t W.sts inn ord
structure Qk (W:Wd) (qs:List Qu) (inn:Int) (ord:A'):Prop where
 ok:B2 W
 sm:Bn W
 ol:ord.length<=40
 irr:∀x,(x,x)∉ord
 inn:0<=inn/\inn<W.sts.length
 q:∀q∈qs,(0<=q.1/\q.1<W.ss.length)/\(0<=q.2.1/\q.2.1<W.sts.length)/\1<=q.2.2.length/\q.2.2.length<=8
def LC.same{K:Ah}{F:Addr->Prop}{H H':Hp}{a A t:Addr}{W:Wd}{qs:List Qu}{inn:Int}{ord:A'}(e:Ac H H')(h:LC K F H a A t W qs inn ord):LC K F H' a A t W qs inn ord:=by
 obtain⟨⟨S,T,R,d,f,g,i,j,k,l⟩,b,c⟩:=h;exact⟨⟨S,T,R,d,f,g,i,j,e _ _ k,l.same e⟩,b.same e,c.same e⟩
variable {inn:Int}
def LC.caseH{K:Ah}{a A t:Addr}{qs:List Qu}(h:LC K F H a A t W qs inn ord):Bq K H a A t W:=by
 obtain⟨⟨S,T,R,d,e,f,g,i,j,k⟩,b,c⟩:=h;exact⟨⟨S,T,R,d,e,f,g,i,qs,j,k⟩,b,c.caseT⟩
variable {a:C'}{ls:List Lk}{ts:List Int}
def Mg{at_:Int}{p:List Str}{w:Option Wt}(h:LU W inn ord sc st p at_ a w ls ts):ls.length<=p.length:=by
 induction h with
 |stop=>simp
 |opn=>simp
 |no=>simp
 |go _ _ _ _ b=>simpa using b
def Dn:Nat->Dt->Prop
 |0,_=>False
 |_+1,.non=>True
 |_+1,.bl _=>False
 |_+1,.int _=>True
 |_+1,.str _=>True
 |n+1,.tup l=>∀d∈l,Dn n d
 |n+1,.lst l=>∀d∈l,Dn n d
structure FE (W:Wd):Prop where
 st:∀s∈W.ss,s.1.length<=8
 kst:∀s∈W.ss,∀p∈s.1,Fu W.ss.length W.as.length p
 kth:∀p∈W.gs,FS W.ss.length W.as.length p
 an:∀p,some p∈W.as->p.1=("thing" : Str)->0<=p.2/\p.2<W.gs.length
 go:∀s∈W.sts,∀p∈s.1,0<=p.2/\p.2<W.sts.length
def WE(h:FE W){k:Str×Int}(c:k∈W.gs)(b:k.1=("part" : Str)):0<=k.2/\k.2<W.ss.length:=by
 rcases h.kth k c with⟨a,_⟩|⟨_,d⟩|⟨a,_⟩;rw[b] at a;exact absurd a (by decide +kernel);exact d;rw[b] at a;exact absurd a (by decide +kernel)
set_option tactic.hygienic true in
def cH(h:FE W){g:Str×Int}(e:Ee W.gs W.as q=g)(a:g.1=("to" : Str)):0<=g.2/\g.2<W.ss.length:=by
 unfold Ee at e;split at e;split at e;split at e;rename_i k b;split at e;rename_i c;subst e;exact WE (k:=k) h (Bl b) c;subst e;exact absurd a Gc;subst e;exact absurd a Gc;subst e;exact absurd a Gc;subst e;exact absurd a P2;subst e;exact absurd a Gc
set_option tactic.hygienic true in
def cI(h:FE W){p:Str×Int}(b:p∈W.gs){g:Str×Int}(e:Dr W.gs W.as p=g)(a:g.1=("to" : Str)):0<=g.2/\g.2<W.ss.length:=by
 unfold Dr at e;split at e;rename_i c;subst e;exact WE (k:=p) h b c;split at e;exact cH h e a;subst e;exact absurd a Gc
set_option tactic.hygienic true in
def cJ(h:FE W){s:Bk}(c:s∈W.ss){p:B8}(d:p∈s.1){g:Str×Int}(e:BO W.gs W.as p=g)(a:g.1=("to" : Str)):0<=g.2/\g.2<W.ss.length:=by
 unfold BO at e;split at e;rename_i j;subst e;rcases h.kst s c p d with⟨_,f⟩|⟨b,_⟩;exact f;rw[j] at b;exact absurd b (by decide +kernel);split at e;split at e;split at e;rename_i k i;exact cI h (Bl i) e a;subst e;exact absurd a Gc;subst e;exact absurd a Gc;subst e;exact absurd a P2;subst e;exact absurd a Gc
def Cc.kid0(ok:FE W){c:AQ}(h:Cc W b)(k:c∈CA W b):Cc W c:=by
 obtain⟨r,e,g,i,rfl⟩:=AJ.mp k;have f:=V5 e;obtain⟨j,p,a,l,m,rfl⟩:=L7 e;obtain⟨s,n,o⟩:=V3 (Bl l);refine⟨?_,?_,?_⟩;rw[f,List.nodup_append]
 exact⟨h.nd,by simp,λx d y q=>by
  rw[AZ.mp q]
  exact λz=>i (z▸d)⟩
 rw[f];intro x d;rcases BI.mp d with d|d;exact h.rng x d;rw[AZ.mp d];exact cJ ok n o rfl g;obtain⟨t,u,v⟩:=V4 (SY m);exact ok.go t u _ v
def AR.ok0(ok:FE W)(d:0<=sc/\sc<W.ss.length)(e:0<=st/\st<W.sts.length)(h:AR W sc st b):Cc W b:=by
 induction h with
 |root=>exact⟨by simp[AV],λx a=>by simp[AV] at a;rw[a];exact d,e⟩
 |kid _ k c=>exact c.kid0 ok k
def EQ (W:Wd) (sc st:Int):Nat->List AQ
 |0=>[([],sc,st)]
 |d+1=>(EQ W sc st d).flatMap (CA W)
def cK(h:AR W sc st b):b∈EQ W sc st b.1.length:=by
 induction h with
 |root=>exact BB
 |@kid a c h k d =>
   obtain⟨r,_,_,_,rfl⟩:=AJ.mp k;show _∈EQ W sc st (a.1++[r.1]).length;rw[AY,DJ];exact List.mem_flatMap.mpr ⟨a,d,k⟩
variable {B:Nat}
set_option tactic.hygienic true in
def WF(h:∀s∈W.ss,s.1.length<=B)(sc:Int):(BY W sc).length<=B:=by
 unfold BY;split;rename_i s a;exact h s (Bl a);exact Cm _
theorem WG{W:Wd}{B:Nat}(h:∀s∈W.ss,s.1.length<=B)(sc st:Int):∀d,(EQ W sc st d).length<=B ^ d
 |0=>by show 1<=_;rw[Nat.pow_zero];exact AD _
 |d+1=>by
   have a:((EQ W sc st d).flatMap (CA W)).length<=(EQ W sc st d).length*B:=S4 _ λb=>Em (V1 W b) (WF h _);have c:=Nat.mul_le_mul_right B (WG h sc st d);rw[Nat.pow_succ];exact Em a c
def JK (B:Nat):Nat->Nat
 |0=>0
 |n+1=>JK B n+B ^ n
theorem WH{α:Type} [DecidableEq α]:∀{F l:List α},F.Nodup->(∀x∈F,x∈l)->F.length<=l.length
 |[],_,_,_=>Cm _
 |x::F,l,c,h=>by
   have a:=h x BB;obtain⟨d,f⟩:=Gw.mp c
   have:=WH (l:=l.erase x) f λy b=>by
    have g:y≠x:=λe=>d (e▸b);exact(List.mem_erase_of_ne g).mpr (h y (Co _ b))
   rw[List.length_erase_of_mem a] at this;have i:0<l.length:=List.length_pos_of_mem a;rw[El];lia
theorem WI{W:Wd}{B:Nat}(h:∀s∈W.ss,s.1.length<=B)(sc st:Int):∀n,((List.range n).flatMap (EQ W sc st)).length<=JK B n
 |0=>AD _
 |n+1=>by
   rw[List.range_succ,List.flatMap_append,AY];have a:=WI h sc st n;have b:=WG h sc st n;have c:([n].flatMap (EQ W sc st)).length=(EQ W sc st n).length:=(by simp);show _<=JK B n+B ^ n;lia
def Ia(ok:FE W)(h:∀s∈W.ss,s.1.length<=B)(sc st:Int)(F:List AQ)(g:0<=sc/\sc<W.ss.length)(i:0<=st/\st<W.sts.length)(e:F.Nodup)(a:∀b∈F,AR W sc st b):F.length<=JK B W.ss.length:=by
 refine Em (WH (l:=(List.range W.ss.length).flatMap (EQ W sc st)) e λb c=>?_) (WI h sc st _);have d:=(a b c).ok0 ok g i;have f:=KS W.ss.length (AV b) d.nd d.rng;rw[show(AV b).length=b.1.length+1 by unfold AV;simp] at f;exact List.mem_flatMap.mpr ⟨b.1.length,List.mem_range.mpr (by lia),cK (a b c)⟩
theorem Tt{α:Type}{f:AQ->List α}{k:Nat}:∀(bs:List AQ),(∀b∈bs,(f b).length<=k)->(bs.flatMap f).length<=bs.length*k
 |[],_=>by simp
 |b::bs,h=>by
   rw[List.flatMap_cons,AY,El,Nat.succ_mul];have:=h b BB;have:=Tt bs λc a=>h c (Co _ a);lia
set_option tactic.hygienic true in
def cL(ok:FE W)(h:∀s∈W.ss,s.1.length<=B)(e:W.ss.length<=100)(i:JK B W.ss.length*max 2 B<=62)(k:∀s∈W.ss,s.2.length<=2)(l:∀s∈W.ss,∀p∈s.2,Fv W.gs.length W.as.length p):B2 W/\Bn W:=by
 have q:JK B W.ss.length*2<=62:=Em (Nat.mul_le_mul_left _ (Nat.le_max_left _ _)) i;have r:JK B W.ss.length*B<=62:=Em (Nat.mul_le_mul_left _ (Nat.le_max_right _ _)) i;have j:∀(sc st:Int)(bs:List AQ),(0<=sc/\sc<W.ss.length)->(0<=st/\st<W.sts.length)->Dg W sc st bs->bs.length<=JK B W.ss.length:=λsc st bs a c d=>Ia ok h sc st bs a c d.nd λb f=>(d.mem b).mp f;refine⟨⟨e,ok.st,ok.kst,ok.kth,ok.an,ok.go,λsc st F a c m n=>?_⟩,⟨l,λx sc st bs a c d=>?_,λsc st bs a c d=>?_⟩⟩;have:=Ia ok h sc st F a c m n;lia;have g:=j sc st bs a c d
 have o:(DY W x bs).length<=bs.length*2:=Tt _ λb f=>Em (Wa W b x _ 0) (by
  unfold Gp;split;rename_i s e;exact k s (Bl e)
  exact Cm _)
 have:=Nat.mul_le_mul_right 2 g;lia;have g:=j sc st bs a c d;have o:(Gd W bs).length<=bs.length*B:=Tt _ λb f=>Em (List.length_filterMap_le _ _) (Em (L6 _ _ _ _ _) (WF h _));have:=Nat.mul_le_mul_right B g;lia
variable {us:List Ow}
def Ql{l m:Lk}(h:CH W ord sc st x l os)(k:CH W ord sc st x m us):l=m/\os=us:=by
 have a:=h.b.uniq k.b;have b:=h.f;have c:=h.o;rw[a] at b c;have d:=b.uniq k.f;have e:l.2.2=m.2.2:=(by rw[h.s,k.s,d]);exact⟨Prod.ext a (Prod.ext d e),c.uniq k.o⟩
def LU.inv{at_:Int}{r:List Str}{w:Option Wt}(k:LU W inn ord sc st (x::r) at_ a w ls ts):∃l os,CH W ord sc st x l os /\
 (∀b d,Ce W ord l.2.1 os at_=(b,d)->((∀k,b≠some (("thing" : Str),k))\/r=[])->b=a/\d=w/\ls=[l]/\ts=[]) /\
 ∀n d,Ce W ord l.2.1 os at_=(some (("thing" : Str),n),d)->r≠[]->∀s q,CI W n=(s,q)->(s=("open" : Str)->a=none/\w=some (at_,[],q)/\ls=[l]/\ts=[n])/\(s=("no" : Str)->a=some (("none" : Str),at_+1)/\w=none/\ls=[l]/\ts=[n])/\(s=("to" : Str)->∃p t,LU W inn ord q inn r (at_+1) a w p t/\ls=l::p/\ts=n::t):=by
 have g:("open" : Str)≠("no" : Str):=(by decide +kernel);have j:("open" : Str)≠("to" : Str):=(by decide +kernel);have o:("no" : Str)≠("to" : Str):=(by decide +kernel)
 cases k with
 |stop h e n=>exact⟨_,_,h,λb d c ζ=>(by rw[e] at c;cases c;exact⟨rfl,rfl,rfl,rfl⟩),λm d c u=>(by rw[e] at c;cases c;exact(n.elim (λn=>n _ rfl) u).elim)⟩
 |opn h e i=>exact⟨_,_,h,λb d c n=>(by rw[e] at c;cases c;exact(n.elim (λn=>n _ rfl) nofun).elim),λm d c ζ s q f=>(by rw[e] at c;cases c;rw[i] at f;cases f;exact⟨λζ=>⟨rfl,rfl,rfl,rfl⟩,λz=>absurd z g,λz=>absurd z j⟩)⟩
 |no h e i=>exact⟨_,_,h,λb d c n=>(by rw[e] at c;cases c;exact(n.elim (λn=>n _ rfl) nofun).elim),λm d c ζ s q f=>(by rw[e] at c;cases c;rw[i] at f;cases f;exact⟨λz=>absurd z.symm g,λζ=>⟨rfl,rfl,rfl,rfl⟩,λz=>absurd z o⟩)⟩
 |go h e i k=>exact⟨_,_,h,λb d c n=>(by rw[e] at c;cases c;exact(n.elim (λn=>n _ rfl) nofun).elim),λm d c ζ s q f=>(by rw[e] at c;cases c;rw[i] at f;cases f;exact⟨λz=>absurd z.symm j,λz=>absurd z.symm o,λζ=>⟨_,_,k,rfl,rfl⟩⟩)⟩
def JL{at_:Int}{p:List Str}{w:Option Wt}(h:LU W inn ord sc st p at_ a w ls ts):∀{d:C'}{f:Option Wt}{g:List Lk}{j:List Int},LU W inn ord sc st p at_ d f g j->a=d/\w=f/\ls=g/\ts=j:=by
 induction h with
 |stop h e n =>
   intro d f g j k;obtain⟨l,os,b,c,_⟩:=k.inv;obtain⟨rfl,rfl⟩:=Ql h b;obtain⟨rfl,rfl,rfl,rfl⟩:=c _ _ e n;exact⟨rfl,rfl,rfl,rfl⟩
 |opn h e i =>
   intro d f g j k;obtain⟨l,os,b,_,c⟩:=k.inv;obtain⟨rfl,rfl⟩:=Ql h b;obtain⟨rfl,rfl,rfl,rfl⟩:=(c _ _ e nofun _ _ i).1 rfl;exact⟨rfl,rfl,rfl,rfl⟩
 |no h e i =>
   intro d f g j k;obtain⟨l,os,b,_,c⟩:=k.inv;obtain⟨rfl,rfl⟩:=Ql h b;obtain⟨rfl,rfl,rfl,rfl⟩:=(c _ _ e nofun _ _ i).2.1 rfl;exact⟨rfl,rfl,rfl,rfl⟩
 |go h e i u m =>
   intro d f g j k;obtain⟨l,os,b,_,c⟩:=k.inv;obtain⟨rfl,rfl⟩:=Ql h b;obtain⟨_,_,o,rfl,rfl⟩:=(c _ _ e nofun _ _ i).2.2 rfl;obtain⟨q,r,s,t⟩:=m o;exact⟨q,r,by rw[s],by rw[t]⟩
section
variable {ss:List Bk} {ord:A'}
def Ib{p:Prop}(h:dec p=true):p:=by
 by_cases e:p;exact e;rw[Gb e] at h;cases h
theorem WJ(irr:∀x,(x,x)∉ord)(tr:∀x y z,(x,y)∈ord->(y,z)∈ord->(x,z)∈ord):∀(a b c:List Aq),Cn ss ord a b=true->Cn ss ord b c=true->Cn ss ord a c=true
 |x::s,y::t,z::u,d,f=>by
   by_cases h:x=y;subst h;rw[OD] at d;by_cases g:x=z;subst g;rw[OD] at f ⊢;exact WJ irr tr s t u d f;rw[KW ss ord _ _ g] at f ⊢;exact f;rw[KW ss ord _ _ h] at d;by_cases g:y=z;subst g;rw[KW ss ord _ _ h];exact d;rw[KW ss ord _ _ g] at f;have i:=tr _ _ _ (Ib d) (Ib f);have j:x≠z:=λe=>irr _ (by rw[<-e] at i;exact i);rw[KW ss ord _ _ j];exact Fs i
 |[],_,_,d,_=>by rw[L9 ss ord (.inl rfl)] at d;cases d
 |_::_,[],_,d,_=>by rw[L9 ss ord (.inr rfl)] at d;cases d
 |_::_,_::_,[],_,f=>by rw[L9 ss ord (.inr rfl)] at f;cases f
end
structure Later (as as':List (C')):Prop where
 len:as'.length=as.length
 old:∀(n:Nat)(p:Str×Int),as[n]?=some (some p)->as'[n]?=some (some p)
section
variable {ths:List (Str×Int)} {as as':List (C')}
def Qm(h:Later as as')(e:as[n]?=none):as'[n]?=none:=by
 rw[List.getElem?_eq_none_iff] at e ⊢;rw[h.len];exact e
def cM(h:Later as as')(a:(Ee ths as q).1≠("open" : Str)):Ee ths as' q=Ee ths as q:=by
 unfold Ee at a ⊢
 cases e:as[q.toNat]? with
 |none=>rw[Qm h e]
 |some o =>
   cases o with
   |none=>rw[e] at a;exact absurd rfl a
   |some p=>rw[h.old _ _ e]
def WK(h:Later as as'){k:Str×Int}(c:(Dr ths as k).1≠("open" : Str)):Dr ths as' k=Dr ths as k:=by
 unfold Dr at c ⊢;by_cases a:k.1=("part" : Str);rw[Al a,Al a];rw[Ak a] at c;rw[Ak a,Ak a];by_cases b:k.1=("sort" : Str);rw[Al b] at c;rw[Al b,Al b];exact cM h c;rw[Ak b,Ak b]
def Tu(h:Later as as'){p:B8}(a:(BO ths as p).1≠("open" : Str)):BO ths as' p=BO ths as p:=by
 unfold BO at a ⊢;by_cases b:p.2.1=("to" : Str);rw[Al b,Al b];rw[Ak b] at a;rw[Ak b,Ak b]
 cases e:as[p.2.2.toNat]? with
 |none=>rw[Qm h e]
 |some o =>
   cases o with
   |none=>rw[e] at a;exact absurd rfl a
   |some w =>
     rw[h.old _ _ e];rw[e] at a;dsimp only at a ⊢;by_cases c:w.1=("thing" : Str);rw[Al c] at a;rw[Al c,Al c]
     cases d:ths[w.2.toNat]? with
     |none=>rfl
     |some k=>rw[d] at a;exact WK h a
     rw[Ak c,Ak c]
def cN(h:Later as as'){p:B8}(a:(BO ths as' p).1=("open" : Str)):(BO ths as p).1=("open" : Str):=by
 by_cases e:(BO ths as p).1=("open" : Str);exact e;rw[Tu h e] at a;exact a
end
abbrev Wd.late (W:Wd) (as':List (C')):Wd:=⟨W.ss,W.gs,as',W.sts⟩
def IM (W:Wd) (sc st:Int) (o:List Aq):Prop:=∃b,AR W sc st b/\∃(j:Nat)(p:B8)(a:Int),(BY W b.2.1)[j]?=some p/\En (DX W b.2.2) p.1=some a/\(BO W.gs W.as p).1=("open" : Str)/\o=b.1++[(b.2.1,("step" : Str),(j:Int))]
section
variable {W:Wd} {as':List (C')} {sc st:Int}
def JM:("to" : Str)≠("open" : Str):=by decide +kernel
def Tv{j:Nat}{p:B8}{a:Int}{s t:Int}(b:(BY W s)[j]?=some p)(c:En (DX W t) p.1=some a):((s,("step" : Str),(j:Int)),BO W.gs W.as p,a)∈GG W s t:=
 BP.mpr ⟨j,p,a,b,c,by rw[Nat.zero_add]⟩
def cO(h:Later W.as as')(f:AR W sc st b):AR (W.late as') sc st b:=by
 induction f with
 |root=>exact .root
 |@kid b c _ k g =>
   obtain⟨r,i,d,l,rfl⟩:=AJ.mp k;obtain⟨j,p,a,m,n,rfl⟩:=L7 i;have e:=Tu h (p:=p) (ths:=W.gs) (by rw[show(BO W.gs W.as p).1=_ from d];exact JM);refine .kid g (AJ.mpr ⟨_,Tv (W:=W.late as') m n,?_⟩);show(BO W.gs as' p).1=_/\(BO W.gs as' p).2∉_/\_=(_,(BO W.gs as' p).2,_);rw[e];exact⟨d,l,rfl⟩
def WL(h:Later W.as as')(m:AR (W.late as') sc st b):AR W sc st b\/∃o,IM W sc st o/\o <+: b.1:=by
 induction m with
 |root=>exact .inl .root
 |@kid b c _ k d =>
   obtain⟨r,n,q,s,rfl⟩:=AJ.mp k;obtain⟨j,p,a,f,g,rfl⟩:=L7 n;rcases d with d|⟨o,t,u⟩;by_cases e:(BO W.gs W.as p).1=("open" : Str);exact .inr ⟨_,⟨b,d,j,p,a,f,g,e,rfl⟩,List.prefix_refl _⟩;have v:=Tu h e;refine .inl (.kid d (AJ.mpr ⟨_,Tv f g,?_⟩));show(BO W.gs W.as p).1=_/\(BO W.gs W.as p).2∉_/\(_,(BO W.gs as' p).2,_)=(_,(BO W.gs W.as p).2,_);have i:(BO W.gs as' p).1=("to" : Str):=q;have l:(BO W.gs as' p).2∉AV b:=s;rw[v] at i l ⊢;exact⟨i,l,rfl⟩;exact .inr ⟨o,t,u.trans (IB _ _)⟩
def cP(h:Later W.as as'){o:List Aq}(e:IM (W.late as') sc st o):∃c,IM W sc st c/\c <+: o:=by
 obtain⟨b,d,j,p,a,f,g,i,rfl⟩:=e;rcases WL h d with d|⟨c,k,l⟩;exact⟨_,⟨b,d,j,p,a,f,g,cN h i,rfl⟩,List.prefix_refl _⟩;exact⟨c,k,l.trans (IB _ _)⟩
def JN (W:Wd) (sc st:Int) (x:Str) (w:List Aq):Prop:=∃b,AR W sc st b/\∃(j:Nat)(q:DO),(Gp W b.2.1)[j]?=some q/\q.2.1=x/\q.1∈Hd W b.2.2/\w=b.1++[(b.2.1,("told" : Str),(j:Int))]
def WM(h:Later W.as as')(a:JN W sc st x w):JN (W.late as') sc st x w:=by
 obtain⟨b,c,r⟩:=a;exact⟨b,cO h c,r⟩
def cQ(h:Later W.as as')(c:JN (W.late as') sc st x w):JN W sc st x w\/∃o,IM W sc st o/\o <+: w:=by
 obtain⟨b,a,j,q,d,e,f,rfl⟩:=c;rcases WL h a with a|⟨g,i,k⟩;exact .inl ⟨b,a,j,q,d,e,f,rfl⟩;exact .inr ⟨g,i,k.trans (IB _ _)⟩
theorem Tx{ss:List Bk}{ord:A'}:∀{f o w:List Aq},Cn ss ord f o=true->o <+: w->Cn ss ord f w=true
 |x::f,y::o,w,h,a=>by
   obtain⟨u,rfl⟩:=a;by_cases e:x=y;subst e;rw[OD] at h;show Cn ss ord (x::f) (x::(o++u))=true;rw[OD];exact Tx h (IB o u);rw[KW ss ord _ _ e] at h;show Cn ss ord (x::f) (y::(o++u))=true;rw[KW ss ord _ _ e];exact h
 |[],_,_,h,_=>by rw[L9 ss ord (.inl rfl)] at h;cases h
 |_::_,[],_,h,_=>by rw[L9 ss ord (.inr rfl)] at h;cases h
def cR(irr:∀x,(x,x)∉ord)(tr:∀x y z,(x,y)∈ord->(y,z)∈ord->(x,z)∈ord)(h:Later W.as as'){ws i:List (List Aq)}
 (n:∀w,w∈ws↔JN W sc st x w) (p:∀w,w∈i↔JN (W.late as') sc st x w) (s:∀o,IM W sc st o->∃f∈ws,Cn ss ord f o=true) (w:List Aq):w∈CS ss ord i i↔w∈CS ss ord ws ws:=by
 have sub:∀v∈ws,v∈i:=λv m=>(p v).mpr (WM h ((n v).mp m))
 have r:∀v∈i,v∈ws\/∃f∈ws,Cn ss ord f v=true:=λv m=>by
  rcases cQ h ((p v).mp m) with e|⟨o,j,c⟩;exact .inl ((n v).mpr e);obtain⟨f,k,g⟩:=s o j;exact .inr ⟨f,k,Tx g c⟩
 have q:∀(l:List (List Aq))v,v∈CS ss ord l l↔v∈l/\∀u∈l,Cn ss ord u v=false:=λl v=>by
  unfold CS;rw[M0,Bool.not_eq_true',List.any_eq_false];exact⟨λ⟨a,b⟩=>⟨a,λu d=>by have:=b u d;simpa using this⟩,λ⟨a,b⟩=>⟨a,λu d=>by rw[b u d];simp⟩⟩
 rw[q,q];constructor;rintro⟨j,c⟩;rcases r w j with e|⟨f,k,g⟩;exact⟨e,λu d=>c u (sub u d)⟩;rw[c f (sub f k)] at g;cases g;rintro⟨j,c⟩;refine⟨sub w j,λu d=>?_⟩;rcases r u d with e|⟨f,k,g⟩;exact c u e
 cases e:Cn ss ord u w with
 |false=>rfl
 |true =>
   have:=WJ irr tr f u w g e;rw[c f k] at this;cases this
def cS(h:Later W.as as'){ws a:List (List Aq)}(sub:∀v∈ws,v∈a)(b:∀o,IM W sc st o->∃f∈ws,Cn ss ord f o=true):∀o,IM (W.late as') sc st o->∃f∈a,Cn ss ord f o=true:=λo c=>by
 obtain⟨d,e,g⟩:=cP h c;obtain⟨f,i,j⟩:=b d e;exact⟨f,sub f i,Tx j g⟩
end
section
variable {W:Wd} {sc st:Int}
def JO(h:AR W sc st b)(e:b.1=[]):b=([],sc,st):=by
 cases h with
 |root=>rfl
 |kid _ k =>
   obtain⟨r,_,_,_,rfl⟩:=AJ.mp k;simp at e
def JP(h:AR W sc st b):∀{c:AQ},AR W sc st c->b.1=c.1->b=c:=by
 induction h with
 |root=>intro c a e;exact(JO a e.symm).symm
 |@kid b p q k i =>
   intro c a e;obtain⟨r,j,_,_,rfl⟩:=AJ.mp k
   cases a with
   |root=>simp at e
   |@kid d _ hd l =>
     obtain⟨f,o,_,_,rfl⟩:=AJ.mp l;have g:b.1++[r.1]=d.1++[f.1]:=e;have m:=List.append_inj_left' g rfl;have n:r.1=f.1:=(by simpa using List.append_inj_right' g rfl);have:=i hd m;subst this;rw[V0 j o n]
theorem WN{b:AQ}{x:Str}:∀{l:List DO}{i j:Nat}{q:DO},l[j]?=some q->q.2.1=x->q.1∈Hd W b.2.2->b.1++[(b.2.1,("told" : Str),((i+j:Nat):Int))]∈DQ W b x l i
 |p::l,i,0,q,a,c,d=>by
   cases a;refine Ek _ ?_;unfold Fy;rw[Al ⟨c,d⟩];exact AZ.mpr rfl
 |p::l,i,j+1,q,a,c,d=>by
   refine Dj _ ?_;rw[show i+(j+1)=i+1+j by lia];exact WN (by simpa using a) c d
def WO{bs:List AQ}(c:∀b,b∈bs↔AR W sc st b)(w:List Aq):w∈DY W x bs↔JN W sc st x w:=by
 constructor;intro h;obtain⟨b,a,r⟩:=S3 h;exact⟨b,(c b).mp a,r⟩;rintro⟨b,a,j,q,d,e,f,rfl⟩;refine List.mem_flatMap.mpr ⟨b,(c b).mpr a,?_⟩;have:=WN (b:=b) (i:=0) d e f;rw[Nat.zero_add] at this;exact this
theorem WP{b:AQ}{x:Str}:∀{l:List DO}{i:Nat},(DQ W b x l i).Nodup
 |[],_=>List.nodup_nil
 |q::l,i=>by
   refine List.nodup_append.mpr ⟨?_,WP,λv hv c a e=>?_⟩;unfold Fy;split;exact List.pairwise_singleton _ _;exact List.nodup_nil;subst e;unfold Fy at hv;split at hv;rw[AZ.mp hv] at a;obtain⟨j,d,_,_,_,e⟩:=OB a;have:=List.append_inj_right' e rfl;simp at this;lia;cases hv
theorem WQ{α β:Type}{f:α->List β}:∀{l:List α},(∀a∈l,(f a).Nodup)->l.Pairwise (λa b=>∀x∈f a,x∉f b)->(l.flatMap f).Nodup
 |[],_,_=>List.nodup_nil
 |a::l,g,h=>by
   rw[List.flatMap_cons];obtain⟨i,j⟩:=List.pairwise_cons.mp h;refine List.nodup_append.mpr ⟨g a BB,WQ (λb c=>g b (Co _ c)) j,λx k y d e=>?_⟩;subst e;obtain⟨b,c,d⟩:=List.mem_flatMap.mp d;exact i b c x k d
def WR{bs:List AQ}(c:Dg W sc st bs):(DY W x bs).Nodup:=by
 refine WQ (λb ζ=>WP) ?_;refine c.nd.imp_of_mem λ{a b}d e i v f k=>?_;obtain⟨j,q,_,_,_,g⟩:=OB f;obtain⟨l,m,_,_,_,h⟩:=OB k;exact i (JP ((c.mem a).mp d) ((c.mem b).mp e) (List.append_inj_left' (g.symm.trans h) rfl))
def WS{bs:List AQ}(h:Dg W sc st bs)(o:List Aq):IM W sc st o↔∃r∈Gd W bs,r.1=o:=by
 constructor;rintro⟨b,c,j,p,a,d,f,g,rfl⟩;refine⟨(_,(BO W.gs W.as p).2),List.mem_flatMap.mpr ⟨b,(h.mem b).mpr c,List.mem_filterMap.mpr ⟨_,Tv d f,?_⟩⟩,rfl⟩;unfold ow;exact Al g;rintro⟨r,i,rfl⟩;obtain⟨b,c,j,p,a,d,f,g,e⟩:=Wc i;exact⟨b,(h.mem b).mp c,j,p,a,d,f,g,by rw[e]⟩
def JQ{ws a:List (List Aq)}(b:ws.Nodup)(c:a.Nodup)(d:ws.Pairwise CG.O.kle)(e:a.Pairwise CG.O.kle)(h:∀w,w∈CS ss ord a a↔w∈CS ss ord ws ws):CS ss ord a a=CS ss ord ws ws:=
 LW (O:=CG.O) ((List.perm_ext_iff_of_nodup (c.filter _) (b.filter _)).mpr h) (e.filter _) (d.filter _)
end
theorem DU{ss:List Bk}{ord:A'}{ws:List (List Aq)}:∀{os:List Ow},FL ss ord ws os=none↔∀o∈os,(ws.any λv=>Cn ss ord v o.1)=true
 |[]=>⟨λζ o b=>(by cases b),λζ=>rfl⟩
 | o :: os=>by
   cases e:ws.any λv=>Cn ss ord v o.1 with
   |true =>
     rw[WB e,DU];refine⟨λh p a=>?_,λh p a=>h p (Co _ a)⟩;rcases Cj.mp a with rfl|a;exact e;exact h p a
   |false =>
     rw[WA e];refine⟨λh=>(by cases h),λh=>?_⟩;have:=h o BB;rw[e] at this;cases this
theorem WT{W:Wd}:∀{ws:List (List Aq)},(∀w∈ws,FC W w=none)->FD W ws=none
 |[],_=>rfl
 |w::ws,h=>by rw[Qj (h w BB)];exact WT λv hv=>h v (Co _ hv)
def cT{ws:List (List Aq)}(h:Ew W ord ws os=none):FL W.ss ord ws os=none:=by
 unfold Ew at h
 cases e:FL W.ss ord ws os with
 |some o=>rw[e] at h;cases h
 |none=>rfl
def cU{ws:List (List Aq)}(a:FL W.ss ord ws os=none)(b:FD W (CS W.ss ord ws ws)=none):Ew W ord ws os=none:=by
 unfold Ew;rw[a];exact b
variable {as as':List (C')}
def cV(h:Later as as')(e:as'[n]?=some none):as[n]?=some none:=by
 cases c:as[n]? with
 |none=>rw[Qm h c] at e;cases e
 |some o =>
   cases o with
   |none=>rfl
   |some p=>rw[h.old n p c] at e;cases e
section
variable {W:Wd} {as':List (C')} {ord:A'} {sc st:Int}
def cW(h:Later W.as as')(e:FC W w=none):FC (W.late as') w=none:=by
 unfold FC at e ⊢;refine Ak λc=>?_;rw[Al ⟨c.1,cV h c.2⟩] at e;cases e
def cX(h:Later W.as as')(d:Bn W)(f:Du W.ss w)(e:FC W w=none):Bz (W.late as') w=Bz W w:=by
 unfold Bz
 show(if(Cs W.ss w).2.2.1=("thing" : Str) then some (Cs W.ss w).2.2.2 else match as'[(Cs W.ss w).2.2.2.toNat]? with
  |some (some p)=>if p.1=("thing" : Str) then some p.2 else none
  |_=>none)=_
 rcases Np d f with⟨a,_⟩|⟨a,_⟩;rw[Al a,Al a];by_cases b:(Cs W.ss w).2.2.1=("thing" : Str);rw[Al b,Al b];rw[Ak b,Ak b];unfold FC at e
 cases c:W.as[(Cs W.ss w).2.2.2.toNat]? with
 |none=>rw[Qm h c]
 |some o =>
   cases o with
   |none=>rw[Al ⟨a,c⟩] at e;cases e
   |some p=>rw[h.old _ p c]
def cY(irr:∀x,(x,x)∉ord)(tr:∀x y z,(x,y)∈ord->(y,z)∈ord->(x,z)∈ord)(h:Later W.as as')(ok:B2 W)(q:Bn W)(A:0<=sc/\sc<W.ss.length)(B:0<=st/\st<W.sts.length){l m:Lk}(a:CH W ord sc st x l os)(b:CH (W.late as') ord sc st x m us)(g:Ew W ord l.2.1 os=none) :
 m.2.2=l.2.2/\Ew (W.late as') ord m.2.1 us=none/\∀w∈l.2.2,Bz (W.late as') w=Bz W w:=by
 have i:∀w,w∈l.2.1↔JN W sc st x w:=λw=>a.f.perm.mem_iff.trans (WO a.b.mem w);have j:∀w,w∈m.2.1↔JN (W.late as') sc st x w:=λw=>b.f.perm.mem_iff.trans (WO b.b.mem w)
 have k:∀o,IM W sc st o->∃f∈l.2.1,Cn W.ss ord f o=true:=λo d=>by
  obtain⟨r,s,e⟩:=(WS a.b o).mp d;have:=DU.mp (cT g) r (a.o.perm.mem_iff.mpr s);rw[e] at this;exact Gh.mp this
 have C:=cR (ss:=W.ss) irr tr h i j k
 have n:m.2.2=l.2.2:=by
  rw[b.s,a.s];exact JQ (a.f.perm.nodup_iff.mpr (WR a.b)) (b.f.perm.nodup_iff.mpr (WR b.b)) a.f.srt b.f.srt C
 have p:∀w∈l.2.2,FC W w=none:=by
  have:=Tr (Wx g);rw[<-a.s] at this;exact this
 refine⟨n,cU ?_ ?_,λw c=>?_⟩;refine DU.mpr λo d=>?_;have t:IM (W.late as') sc st o.1:=(WS b.b o.1).mpr ⟨o,b.o.perm.mem_iff.mp d,rfl⟩;exact Gh.mpr (cS (ss:=W.ss) h (λv u=>(j v).mpr (WM h ((i v).mp u))) k o.1 t);have:FD (W.late as') m.2.2=none:=WT λw c=>cW h (p w (by rw[<-n];exact c));rw[b.s] at this;exact this;refine cX h q ?_ (p w c);rw[a.s] at c;exact To ok A B a.b (a.f.perm.mem_iff.mp (Qi c))
def WU:∀{b:List (List Aq)}(at_:Int),(∀w∈b,Bz (W.late as') w=Bz W w)->Dh (W.late as') b at_=Dh W b at_:=λ{b}at_ h=>by
 by_cases c:∀w∈b,Bz W w=none;rw[Ti c,Ti λw d=>by rw[h w d];exact c w d]
 cases b with
 |nil=>exact absurd (λw d=>by cases d) c
 |cons w r =>
   have f:¬∀v∈w::r,Bz (W.late as') v=none:=λz=>c λv a=>by rw[<-h v a];exact z v a
   by_cases e:∀v∈w::r,Bz W v=Bz W w;have m:∀v∈w::r,Bz (W.late as') v=Bz (W.late as') w:=λv a=>by rw[h v a,h w BB];exact e v a
   obtain⟨n,i,j⟩:=Tl (at_:=at_) c e;obtain⟨k,g,l⟩:=Tl (at_:=at_) f m;rw[h w BB,i] at g;rw[j,l,AO g];rw[Tj c e,Tj f λz=>e λv a=>by rw[<-h v a,<-h w BB];exact z v a]
def cZ{ws:List (List Aq)}{at_:Int}(h:Ce W ord ws os at_=(a,none)):Ew W ord ws os=none/\a=some (Dh W (CS W.ss ord ws ws) at_):=by
 cases e:Ew W ord ws os with
 |some o=>rw[Nn e] at h;cases BJ Prod.snd h
 |none=>rw[JI e] at h;exact⟨rfl,(BJ Prod.fst h).symm⟩
def WV{ws:List (List Aq)}{at_ n:Int}{w:Option Wt}(h:Ce W ord ws os at_=(some (("thing" : Str),n),w)):w=none:=by
 cases e:Ew W ord ws os with
 |some o=>rw[Nn e] at h;cases BJ Prod.fst h
 |none=>rw[JI e] at h;exact(BJ Prod.snd h).symm
def Tz(irr:∀x,(x,x)∉ord)(tr:∀x y z,(x,y)∈ord->(y,z)∈ord->(x,z)∈ord)(h:Later W.as as')(ok:B2 W)(g:Bn W)(o:0<=sc/\sc<W.ss.length)(p:0<=st/\st<W.sts.length){l m:Lk}(b:CH W ord sc st x l os)(d:CH (W.late as') ord sc st x m us){at_:Int}(e:Ce W ord l.2.1 os at_=(a,none)) :
 m.2.2=l.2.2/\Ce (W.late as') ord m.2.1 us at_=(a,none):=by
 obtain⟨c,i⟩:=cZ e;obtain⟨f,j,k⟩:=cY irr tr h ok g o p b d c;refine⟨f,?_⟩;rw[JI j,i];show(some (Dh (W.late as') (CS W.ss ord m.2.1 m.2.1) at_),none)=_
 have n:CS W.ss ord m.2.1 m.2.1=CS W.ss ord l.2.1 l.2.1:=by
  have:=d.s;rw[<-b.s,<-f,this]
 rw[n,WU at_ λw c=>k w (by rw[b.s];exact c)]
def WW(h:Later W.as as'){n:Int}(a:(CI W n).1≠("open" : Str)):CI (W.late as') n=CI W n:=by
 unfold CI at a ⊢
 show(match W.gs[n.toNat]? with
  |some p=>Dr W.gs as' p
  |none=>(("no" : Str),(0:Int)))=_
 cases e:W.gs[n.toNat]? with
 |none=>rfl
 |some p =>
   rw[e] at a;exact WK h a
def Qn(ok:B2 W){n:Int}(b:0<=n/\n<W.gs.length)(h:CI W n=(("to" : Str),q)):0<=q/\q<W.ss.length:=by
 obtain⟨j,c⟩:=DL b.1;have a:j<W.gs.length:=(by lia);have d:CI W n=Dr W.gs W.as W.gs[j]:=by unfold CI;rw[c,Bo,AC a]
 rw[d] at h;have:=S0 ok (Ep a) rfl (BJ Prod.fst h);rw[BJ Prod.snd h] at this;exact this
def JR(ok:B2 W)(c:0<=sc/\sc<W.ss.length)(d:0<=st/\st<W.sts.length){l:Lk}(a:CH W ord sc st x l os):∀w∈l.2.1,Du W.ss w:=λw b=>To ok c d a.b (a.f.perm.mem_iff.mp b)
end
def dA:("no" : Str)≠("open" : Str):=by decide +kernel
def dB:("to" : Str)≠("open" : Str):=by decide +kernel
def JS(irr:∀x,(x,x)∉ord)(tr:∀x y z,(x,y)∈ord->(y,z)∈ord->(x,z)∈ord)(h:Later W.as as')(ok:B2 W)(u:Bn W)(J:0<=inn/\inn<W.sts.length){at_:Int}{p:List Str}{w:Option Wt}(k:LU W inn ord sc st p at_ a w ls ts) :
 w=none->0<=sc/\sc<W.ss.length->0<=st/\st<W.sts.length->∀{g:C'}{j:Option Wt}{s:List Lk}{v:List Int},LU (W.late as') inn ord sc st p at_ g j s v->g=a/\j=none/\s.map (·.2.2)=ls.map (·.2.2):=by
 induction k with
 |stop b e n =>
   intro l d f g j s v m;subst l;obtain⟨B,C,t,c,_⟩:=m.inv;obtain⟨o,q⟩:=Tz irr tr h ok u d f b t e;obtain⟨rfl,rfl,rfl,_⟩:=c _ _ q n;exact⟨rfl,rfl,by rw[List.map_singleton,List.map_singleton,o]⟩
 |opn b e i=>intro l;cases l
 |no b e i =>
   intro _ d f g j s v m;have A:=WV e;subst A;have r:=WW h (n:=_) (show(CI W _).1≠("open" : Str) by rw[i];exact dA);rw[i] at r;obtain⟨B,C,t,_,c⟩:=m.inv;obtain⟨o,q⟩:=Tz irr tr h ok u d f b t e;obtain⟨rfl,rfl,rfl,_⟩:=(c _ _ q nofun _ _ r).2.1 rfl;exact⟨rfl,rfl,by rw[List.map_singleton,List.map_singleton,o]⟩
 |go b e i K D =>
   intro l d f g j s v m;have A:=WV e;subst A;have r:=WW h (n:=_) (show(CI W _).1≠("open" : Str) by rw[i];exact dB);rw[i] at r;obtain⟨B,C,t,_,c⟩:=m.inv;obtain⟨o,q⟩:=Tz irr tr h ok u d f b t e;obtain⟨_,_,E,rfl,rfl⟩:=(c _ _ q nofun _ _ r).2.2 rfl;have F:=K0 ok u (JR ok d f b) e;obtain⟨G,H,I⟩:=D l (Qn ok F i) J E;exact⟨G,H,by rw[D9,D9,o,I]⟩
section
variable {ths:List (Str×Int)} {as:List (C')}
end
section
variable {W:Wd} {ord:A'} {sc st:Int}
end
set_option tactic.hygienic true in
def dC{at_:Int}{p:List Str}{w:Option Wt}(k:LU W inn ord sc st p at_ a w ls ts):(a=none/\∃t,w=some t)\/(∃x,a=some x)/\w=none:=by
 induction k with
 |stop h e n =>
   rename_i os _ _
   cases b:Ew W ord _ os with
   |some o=>rw[Nn b] at e;cases e;exact .inl ⟨rfl,_,rfl⟩
   |none=>rw[JI b] at e;cases e;exact .inr ⟨⟨_,rfl⟩,rfl⟩
 |opn=>exact .inl ⟨rfl,_,rfl⟩
 |no=>exact .inr ⟨⟨_,rfl⟩,rfl⟩
 |go _ _ _ _ c=>exact c
def Gq (xs:Array Nat):Prop:=xs.toList.Pairwise (· < ·)
def Gq.lt{xs:Array Nat}(h:Gq xs){a b:Nat}(e:a<b)(c:b<xs.size):xs.getD a 0<xs.getD b 0:=by
 have d:a<xs.size:=(by lia);have:=(List.pairwise_iff_getElem.mp h) a b (by simpa using d) (by simpa using c) e;rw[Array.getD_eq_getD_getElem?,Array.getD_eq_getD_getElem?,Array.getElem?_eq_getElem d,Array.getElem?_eq_getElem c];simpa using this
def Gq.le{xs:Array Nat}(h:Gq xs){a b:Nat}(d:a<=b)(c:b<xs.size):xs.getD a 0<=xs.getD b 0:=by
 rcases Nat.lt_or_eq_of_le d with e|e;exact Dm (h.lt e c);rw[e];exact AD _
def JT{xs:Array Nat}{d:Nat}(h:i<xs.size):xs.getD i d=xs.getD i 0:=by
 rw[Array.getD_eq_getD_getElem?,Array.getD_eq_getD_getElem?,Array.getElem?_eq_getElem h];rfl
theorem TD{xs:Array Nat}(e:Gq xs)(j:Nat):∀(b lo a:Nat),a<=xs.size->lo<=a->a-lo<=b->(∀i,i<lo->xs.getD i 0<j)->(∀i,a<=i->i<xs.size->j<=xs.getD i 0) ->
 SetTable.below.go xs j b lo a<=xs.size/\(∀i,i<SetTable.below.go xs j b lo a->xs.getD i 0<j)/\∀i,SetTable.below.go xs j b lo a<=i->i<xs.size->j<=xs.getD i 0
 |0,lo,a,f,m,n,g,h=>by
   have:lo=a:=(by lia);subst this;exact⟨f,g,h⟩
 |b+1,lo,a,f,m,n,g,h=>by
   unfold SetTable.below.go;by_cases c:lo<a;rw[Al c];dsimp only;have k:(lo+a)/2<xs.size:=(by lia);rw[JT k];by_cases d:xs.getD ((lo+a)/2) 0<j;rw[Al d];exact TD e j b _ a f (by lia) (by lia) (λi l=>Nat.lt_of_le_of_lt (e.le (by lia) k) d) h;rw[Ak d];exact TD e j b lo _ (by lia) (by lia) (by lia) g (λi l o=>Em (Nat.le_of_not_lt d) (e.le l o));rw[Ak c];have:lo=a:=(by lia);subst this;exact⟨f,g,h⟩
def TF{xs:Array Nat}(a:Gq xs)(j:Nat):SetTable.below xs j<=xs.size/\(∀i,i<SetTable.below xs j->xs.getD i 0<j)/\∀i,SetTable.below xs j<=i->i<xs.size->j<=xs.getD i 0:=
 TD a j xs.size 0 xs.size (AD _) (Cm _) (by lia) (λi h=>by lia) (λi b c=>by lia)
def dD{xs:Array Nat}(a:Gq xs):SetTable.below xs 0=0:=by
 obtain⟨_,b,_⟩:=TF a 0
 cases e:SetTable.below xs 0 with
 |zero=>rfl
 |succ n=>have:=b 0 (by lia);lia
variable {j:Nat}
def dE{xs:Array Nat}(a:Gq xs)(h:xs[i]?=some j):SetTable.below xs (j+1)=i+1:=by
 obtain⟨f,b,d⟩:=TF a (j+1);have e:i<xs.size:=(Array.getElem?_eq_some_iff.mp h).1;have g:xs.getD i 0=j:=by rw[Array.getD_eq_getD_getElem?,h];rfl
 rcases Nat.lt_trichotomy (SetTable.below xs (j+1)) (i+1) with c|c|c;have:=d i (by lia) e;lia;exact c;have k:=b (i+1) c;have l:xs.getD i 0<xs.getD (i+1) 0:=a.lt (Q7 i) (show i+1<xs.size by lia);lia
def dG(xs:Array α)(p:Nat)(x:α)(a:p<=xs.size):(SetTable.insertAt xs p x).toList=xs.toList.take p++[x]++xs.toList.drop p:=by
 unfold SetTable.insertAt;simp[Array.toList_extract];exact List.take_of_length_le (by simp)
def dH{xs:Array Nat}(e:Gq xs)(n:xs[SetTable.below xs j]?≠some j):Gq (SetTable.insertAt xs (SetTable.below xs j) j):=by
 obtain⟨o,f,q⟩:=TF e j;generalize SetTable.below xs j=p at o f q n;unfold Gq;rw[dG xs p j o]
 have g:∀{i:Nat}(c:i<xs.toList.length),xs.toList[i]=xs.getD i 0:=λ{i}c=>by
  have m:i<xs.size:=(by simpa using c);rw[Array.getD_eq_getD_getElem?,Array.getElem?_eq_getElem m];simp
 refine List.pairwise_append.mpr ⟨List.pairwise_append.mpr ⟨e.sublist (List.take_sublist _ _),List.pairwise_singleton _ _,λa d b h=>?_⟩,e.sublist (List.drop_sublist _ _),λa d b h=>?_⟩;rw[AZ.mp h];obtain⟨i,c,rfl⟩:=List.getElem_of_mem d;rw[FN] at c;rw[List.getElem_take,g (by lia)];exact f i (by lia);obtain⟨i,c,rfl⟩:=List.getElem_of_mem h;rw[Ks] at c;rw[List.getElem_drop,g (by lia)];have m:p+i<xs.size:=by simp at c;lia
 have s:j<xs.getD p 0:=by
  have l:p<xs.size:=(by lia);have:=q p (AD _) l;have ne:xs.getD p 0≠j:=λz=>n (by rw[Array.getElem?_eq_getElem l];rw[Array.getD_eq_getD_getElem?,Array.getElem?_eq_getElem l] at z;exact BJ some z);lia
 have t:=e.le (show p<=p+i by lia) m;rcases BI.mp d with d|d;obtain⟨k,r,rfl⟩:=List.getElem_of_mem d;rw[FN] at r;rw[List.getElem_take,g (by lia)];have:=f k (by lia);lia;rw[AZ.mp d];lia
structure GI (led:Bool) (t:SetTable):Prop where
 ris:Gq t.place
 dum:t.dummies=#[]
 led:t.led=led
theorem WX{t:SetTable}{hashAt:Nat->Int}{h:Int}(hd:t.dummies=#[]):∀(a:Nat)(p:SetTable.Probe){j:Nat}{d:Option Nat},p.dummy=none->SetTable.probe.go t hashAt h a p=some (.empty j d)->t.slot j=.empty/\d=none
 |0,p,j,d,_,e=>by cases e
 |a+1,p,j,d,b,e=>by
   unfold SetTable.probe.go at e
   have l:∀q:SetTable.Probe,q.dummy=none->(t.advance q).dummy=none:=λq f=>by
    unfold SetTable.advance;split;exact f;exact f
   cases c:t.slot p.j with
   |empty=>rw[c] at e;cases e;exact⟨c,b⟩
   |dummy =>
     exfalso;have k:SetTable.has t.dummies p.j=false:=by rw[hd];unfold SetTable.has;simp
     unfold SetTable.slot at c;dsimp only at c;rw[k] at c;by_cases g:(t.place[SetTable.below t.place p.j]?==some p.j)=true;rw[Al g] at c;cases c;rw[Ak g] at c;cases c
   |live i =>
     rw[c] at e;dsimp only at e;split at e;cases e;exact WX hd a _ (l p b) e
def dI{t:SetTable}(h:t.slot j=.empty):t.place[SetTable.below t.place j]?≠some j:=λe=>by
 unfold SetTable.slot at h;simp only[e] at h;simp at h
variable {led:Bool}
def Qo{t:SetTable}(h:GI led t)(n:Nat):GI led (t.standIn n):=⟨by
 show Gq (Array.range n);unfold Gq;rw[Array.toList_range]
 exact List.pairwise_lt_range,rfl,h.led⟩
def Mh{t:SetTable}(h:GI led t)(a:t.slot j=.empty):GI led (t.put j).1:=by
 refine⟨dH h.ris (dI a),?_,h.led⟩;show(if SetTable.has t.dummies j then SetTable.eraseAt t.dummies (SetTable.below t.dummies j) else t.dummies)=#[];rw[h.dum]
 have:SetTable.has #[] j=false:=by unfold SetTable.has;simp
 rw[this];rfl
def dJ {t:SetTable} (h:GI led t) (es:Array (Int × Value)) (k:Int) (x:Value):GI led (layNew t es k x).2.1:=by
 unfold layNew
 cases e:t.freeSlot k with
 |none=>exact Qo h _
 | some r =>
   obtain⟨i,l⟩:=r;dsimp only
   have b:t.slot i=.empty:=by
    unfold SetTable.freeSlot at e
    cases c:t.probe (λζ=>k+1) k (t.probeStart k) with
    |none=>rw[c] at e;cases e
    |some m =>
      rw[c] at e
      cases m with
      |candidate=>cases e
      |empty j d =>
        obtain⟨f,g⟩:=WX h.dum _ _ rfl c;subst g;cases e;exact f
   have a:=Mh h b;unfold SetTable.orStandIn;split;exact a;exact Qo a _
def JU{e l k:Nat}{plain:Bool}{f:Array Int}{r:SetTable×Array Nat}(h:SetTable.laid e l k led plain f=some r):GI led r.1:=by
 unfold SetTable.laid at h
 cases c:SetTable.layClean e f with
 |none=>rw[c] at h;cases h
 |some owner =>
   rw[c] at h;cases h;refine⟨?_,rfl,rfl⟩;unfold Gq;dsimp only
   have:(List.map (λx=>x.1) (List.filterMap (λj=>Option.map (λx=>(j,x)) (owner.getD j none)) (List.range (e+1)))).Pairwise (· < ·):=by
    rw[List.pairwise_map];refine List.Pairwise.filterMap _ (λa b i c g d hd=>?_) (List.pairwise_lt_range (n:=e+1));obtain⟨x,_,rfl⟩:=EX.mp g;obtain⟨y,_,rfl⟩:=EX.mp hd;exact i
   exact this
def dL{t:SetTable}(h:GI led t)(es:Array (Int×Value))(a:Nat):GI led (relayAll t es a).2.1:=by
 unfold relayAll
 cases c:t.relaid (es.map (·.1)) a with
 |none=>exact Qo h _
 |some r =>
   obtain⟨b,order⟩:=r;dsimp only;split;have:=JU c;rw[h.led] at this;exact this;exact Qo h _
section
variable {prog:Program} {w:World} {α:Type} [DecidableEq α] [BEq α] [LawfulBEq α]
def B3 (knd:KeyKind prog w α) (C:Bool) (hp:Heap) (D:Addr) (M:α->Bool) (n:Nat):Prop:=
 ∃(ob:Obj)(es:Array (Int×Value))(ep:Nat)(tb:SetTable),hp.get? D=some ob/\ob.ExactSet/\ob.data=.set es ep tb/\ElemsOf knd es.toList/\(∀y,M y=true↔∃e∈es.toList,knd.is y e.2=true)/\es.size<scanBound/\tb.fits es.size=true/\es.size=n/\GI C tb
variable {knd:KeyKind prog w α} {C:Bool} {A:Around} {E:D'} {s:Shared} {D:Addr}
variable {M:α->Bool}
def B3.keep{a b:Heap}(x:B3 knd C a D M n)(k:∀ob,a.get? D=some ob->b.get? D=some ob):B3 knd C b D M n:=by
 obtain⟨ob,es,c,d,e,x⟩:=x;exact⟨ob,es,c,d,k _ e,x⟩
def B3.cong{a:Heap}{b:α->Bool}{c:Nat}(x:B3 knd C a D M n)(d:∀y,b y=M y)(e:c=n):B3 knd C a D b c:=by
 obtain⟨f,es,g,h,i,j,k,l,m,o,p,q,r⟩:=x;exact⟨f,es,g,h,i,j,k,l,λy=>by rw[d];exact m y,o,p,by rw[e];exact q,r⟩
variable {tb:SetTable}
def Mi(x:GI C tb):GI C {tb with plain:=false}:=⟨x.ris,x.dum,x.led⟩
def WY{ob:Obj}{es a:Array (Int×Value)}{ep:Nat}{b:SetTable}(h:s.heap.get? D=some ob)(d:ob.ExactSet)(i:ob.data=.set es ep tb)(j:ElemsOf knd a.toList)(k:∀y,M y=true↔∃e∈a.toList,knd.is y e.2=true)(f:a.size<scanBound)(l:b.fits a.size=true)(n:GI C b){Q:Unit->Shared->Prop}
 (q:∀c,Heap.SameBut D s.heap c->(∃g,c.get? D=some g/\g.ExactSet/\g.data=.set a (ep+1) b)->B3 knd C c D M a.size->Q () {s with heap:=c}):wpAny (model prog w) A (storeSet D a b) Q E s:=by
 obtain⟨m,_⟩:=SetOf_store (knd:=knd) h d i j k f l;exact wpAny_storeSet_of h i (q _ (Heap.SameBut.update ..) ⟨_,m,d,rfl⟩ ⟨_,a,ep+1,b,m,d,rfl,j,k,f,l,rfl,n⟩) (fits_of_scanBound f)
def WZ{l:Array (Int×Value)}{m:List (Int×Value)}(p:l.toList.Perm m):l.size=m.length:=by rw[<-Array.length_toList,p.length_eq]
def TH(b:Bool){u:Shared}{Q:Unit->Shared->Prop}(q:Q () u):wpAny (model prog w) A (match b with|true=>rule "set.scan.the-table-gave-way"|false=>pure ()) Q E u:=by
 cases b;exact Aw q;exact Hi q
def W0{ob:Obj}{es c:Array (Int×Value)}{ep:Nat}{d:SetTable}(r:s.heap.get? D=some ob)(t:ob.ExactSet)(v:ob.data=.set es ep tb)(i:ElemsOf knd c.toList)(j:∀y,M y=true↔∃e∈c.toList,knd.is y e.2=true)(k:c.size<scanBound)(x:d.fits c.size=true)(l:GI C d){z:Bool}{Q:Option Bool->Shared->Prop}
 {g:Bool->Sem Unit} (B:∀(b:Bool)(u:Shared)(m:Unit->Shared->Prop),m () u->wpAny (model prog w) A (g b) m E u)
 (q:∀f,Heap.SameBut D s.heap f->B3 knd C f D M c.size->Q (some true) {s with heap:=f}) :
 wpAny (model prog w) A (storeSet D c d >>= λζ=>if(!z && d.tooFull)=true then g (relayAll d c (SetTable.grown c.size)).2.2 >>= λζ=>storeSet D (relayAll d c (SetTable.grown c.size)).1 (relayAll d c (SetTable.grown c.size)).2.1 >>= λζ=>pure (some true) else pure (some true)) Q E s:=by
 refine Ad (WY r t v i j k x l λf n⟨S,F,G,H⟩I=>?_);split;have h:=relayAll_perm d c (SetTable.grown c.size);have o:=relayAll_fits d c (SetTable.grown c.size);have tk:=dL l c (SetTable.grown c.size);generalize relayAll d c (SetTable.grown c.size)=J at h o tk;obtain⟨K,P,R⟩:=J;have p:K.size=c.size:=(WZ h).trans (Array.length_toList ..);refine Ad (B _ _ _ (Ad ?_));refine WY (s:={s with heap:=f}) F G H (i.perm h) (λy=>(j y).trans ⟨λ⟨e,a,b⟩=>⟨e,h.mem_iff.mpr a,b⟩,λ⟨e,a,b⟩=>⟨e,h.mem_iff.mp a,b⟩⟩) (by rw[p];exact k) o tk λL N ζ O=>?_;exact Aw (q L (n.trans N) (O.cong (λζ=>rfl) p.symm));exact Aw (q f n I)
def JV{y:α}{x:Value}{Q:Bool->Shared->Prop}(r:knd.is y x=true)(t:x.scannable=true)(R:B3 knd C s.heap D M n)(aa:n+1<scanBound)
 (q:∀a,Heap.SameBut D s.heap a->B3 knd C a D (λz=>M z || decide (z=y)) (if M y then n else n+1)->Q (!M y) {s with heap:=a}):wpAny (model prog w) A (setAddHashed D x (knd.hash y)) Q E s:=by
 obtain⟨S,es,T,tb,f,v,g,m,o,G,B,H,I⟩:=R;unfold setAddHashed setAddHashedIn;refine Fl (Ad (wpAny_setState_of f g B ?_));dsimp only;rw[byScan_of t G m,Al rfl];unfold setAddByScan;refine Ad (Ad (Hi (Ad (wpAny_setScan_of r f g B m ?_))))
 cases fd:List.findIdx? (λe=>knd.is y e.2) es.toList with
 |some j =>
   obtain⟨U,V,_⟩:=List.findIdx?_eq_some_iff_getElem.mp fd;have h:M y=true:=(o y).mpr ⟨_,Ep U,V⟩;dsimp only;refine Aw (Aw ?_)
   have O:=q s.heap (Heap.SameBut.refl ..) ⟨S,es,T,tb,f,v,g,m,λz=>by
    rw[<-o z,Bool.or_eq_true,decide_eq_true_eq];refine⟨λc=>?_,.inl⟩;rcases c with c|c;exact c;rw[c];exact h,G,B,by rw[h];exact H,I⟩
   rw[h] at O;exact O
 |none =>
   have h:M y=false:=by
    cases c:M y with
    |false=>rfl
    |true =>
      obtain⟨e,W,X⟩:=(o y).mp c;have:=List.findIdx?_eq_none_iff.mp fd e W;rw[X] at this;cases this
   dsimp only;have d:=layNew_perm tb es (knd.hash y) x;have i:=layNew_fits tb es (knd.hash y) x;have tk:=dJ I es (knd.hash y) x;generalize layNew tb es (knd.hash y) x=Y at d i tk;obtain⟨p,t1,wd,gv⟩:=Y;dsimp only at d i tk;rw[Array.toList_push] at d;have J:p.size=n+1:=by rw[WZ d,AY,Array.length_toList,H];rfl
   have K:ElemsOf knd p.toList:=(m.push r t).perm d;have L:=mem_push_iff r o d;have N:p.size<scanBound:=by rw[J];exact aa
   have P:∀a,Heap.SameBut D s.heap a->B3 knd C a D (λz=>M z || decide (z=y)) p.size->Q true {s with heap:=a}:=λa k l=>by
    have:=q a k;rw[h] at this;exact this (l.cong (λζ=>rfl) J.symm)
   refine Ad (TH _ ?_);split;rw[hashByValue_scannable 8 t];refine Ad (Aw ?_);refine W0 f v g K L N (by split;exact i;exact SetTable.fits_plain_off i) (by split;exact tk;exact Mi tk) (λb u Z F=>TH b F) λa k l=>?_;exact Aw (P a k l);refine Ad (Aw ?_);rw[Al rfl];exact W0 f v g K L N i tk (λb u Z F=>TH b F) λa k l=>Aw (P a k l)
end
abbrev BQ (w:World):Bool:=!(w.params.followText "set-order")
abbrev Ic (b:Bool):Obj:={cls:=.type "set",dict:=none,data:=.set #[] 0 (.fresh 0 0 b)}
section
variable {prog:Program} {w:World} {A:Around} {E:D'} {s:Shared}
theorem JW(x:Value)(q:Q (.ref s.heap.objs.size) {s with heap:=s.heap.push (Ic (BQ w))}) :
 codeAny (model prog w) A (.call (.builtin "set.__new__") ⟨[.type "set",x],[]⟩) (wants Q E) s:=by
 refine codeAny_of_tree ?_;show wpAny _ A.in1 (checkBuiltinCall "set.__new__" ⟨[.type "set",x],[]⟩ >>= λζ=>again (.builtin "set.__new__" ⟨[.type "set",x],[]⟩)) _ _ s;refine Ad (wpAny_of_eq (F.newCall_set_1 x) (Aw ⟨plainId_quiet F.plain_set_new _,codeAny_builtin F.entry_set_new ?_⟩));rw[Around.under_plainId F.plain_set_new _];have a:=sub_set_self;unfold Builtin.«set.__new__» Builtin.Frozenset.newClass
 cases s with
 |mk b g d tk os =>
   dsimp only at q ⊢
   wp_walk
   refine wpAny_askSetting (Aw ?_);dsimp only;simp only[newObj];exact Ad (wpAny_alloc (Aw (Aw q)))
end
def B4 (f:Nat->Int) (i:Nat):List Int:=((List.range i).map f).foldl step_dedup []
def OL(f:Nat->Int)(i:Nat):B4 f (i+1)=step_dedup (B4 f i) (f i):=by
 unfold B4;rw[List.range_succ,Br,Kt];rfl
def Ie(l:List Int)(x:Int):(step_dedup l x).length=if l.any (·==x) then l.length else l.length+1:=by
 unfold step_dedup;split<;>simp
def Ig(l:List Int)(x y:Int):(step_dedup l x).any (·==y)=(l.any (·==y) || decide (y=x)):=by
 unfold step_dedup;by_cases h:l.any (·==x)=true;rw[Al h];by_cases e:y=x;subst e;rw[h];rfl;rw[Do e,Bool.or_false];rw[Ak h,List.any_append];congr 1;by_cases e:y=x;subst e;simp;rw[Do e]
 simp
 exact λz=>e z.symm
theorem W1(f:Nat->Int):∀i,(B4 f i).length<=i
 |0=>AD _
 |i+1=>by
   have:=W1 f i;rw[OL,Ie];split<;>lia
theorem W2(f:Nat->Int):∀(i:Nat)(y:Int),(B4 f i).any (·==y)=true↔∃j,j<i/\f j=y
 |0,y=>by
   constructor;intro h;cases h;rintro⟨j,h,_⟩;lia
 |i+1,y=>by
   rw[OL,Ig,Bool.or_eq_true,W2 f i y,decide_eq_true_iff];constructor;rintro(⟨j,h,e⟩|e);exact⟨j,by lia,e⟩;exact⟨i,by lia,e.symm⟩;rintro⟨j,h,e⟩;by_cases a:j=i;subst a;exact .inr e.symm;exact .inl ⟨j,by lia,e⟩
section
variable {prog:Program} {w:World} {A:Around} {R:Result->Shared->Prop} {It:Addr} {fp r:List Addr} {G:Array GenState->Array GenState->Prop} {n:Nat} {Pn:Nat->Value->Prop} {Sn:Nat->Shared->Prop}
theorem dM(c:WalksS prog w A.in1 It fp r G n Pn Sn)(D:Addr)(l:D∉fp)(f:Nat->Int)(u:∀i v,Pn i v->∃t,v=.int (f i) t)(Q:n+1<scanBound) :
 ∀(k i:Nat)(s:Shared),n-i=k->i<=n->Sn i s->B3 (intKind prog w) (BQ w) s.heap D (λy=>(B4 f i).any (·==y)) (B4 f i).length ->
  (∀Z,Moved (D::r) G s Z->B3 (intKind prog w) (BQ w) Z.heap D (λy=>(B4 f n).any (·==y)) (B4 f n).length->R (.ok (.ret .none)) Z) ->
  codeAny (model prog w) A (.builtin "set.update.loop" ⟨[.ref D,.ref It],[]⟩) R s:=by
 have p:D∉r:=λz=>l (c.sub _ z);have sub:∀b∈r,b∈D::r:=λb z=>Co _ z;intro k
 induction k with
 |zero =>
   intro i s x B st g j;obtain rfl:i=n:=by lia
   refine codeAny_builtin F.entry_set_update_loop ?_;rw[Around.under_plainId F.plain_set_update_loop _];show wpAny _ A.in1 (pyNext (.ref It) >>= _) _ _ s;refine Ad (c.done s _ _ st λa d=>?_);show wpAny _ A.in1 (ret Value.none) _ _ a;refine Aw (j a (d.mono sub) ?_);exact g.keep λC e=>d.heap D _ p e
 |succ k E =>
   intro i s x B st g j;have lt:i<n:=(by lia);refine codeAny_builtin F.entry_set_update_loop ?_;rw[Around.under_plainId F.plain_set_update_loop _];show wpAny _ A.in1 (pyNext (.ref It) >>= _) _ _ s;refine Ad (c.item i s _ _ lt st λv a pv J d=>?_);obtain⟨t,rfl⟩:=u i v pv;have K:B3 (intKind prog w) (BQ w) a.heap D (λy=>(B4 f i).any (·==y)) (B4 f i).length:=g.keep λC e=>d.heap D _ p e;show wpAny _ A.in1 (holding [Value.int (f i) t] (setAdd D (.int (f i) t)) >>= _) _ _ a;refine Ad (Fl ?_);unfold setAdd;refine Fl ?_;have q:(intKind prog w).is (f i) (.int (f i) t)=true:=intKind_is _ _ _ _;refine Ad ((intKind prog w).pyHash (k:=f i) q ?_);have P:(B4 f i).length+1<scanBound:=by have:=W1 f i;lia
   refine JV (knd:=intKind prog w) (s:={a with toks:=a.toks+1}) q rfl K P λH m L=>?_
   have M:B3 (intKind prog w) (BQ w) H D (λy=>(B4 f (i+1)).any (·==y)) (B4 f (i+1)).length:=
    L.cong (λy=>by rw[OL,Ig]) (by rw[OL,Ie])
   refine Aw ⟨plainId_quiet F.plain_set_update_loop _,E (i+1) _ (by lia) lt (c.frame _ a _ _ J (Nat.le_succ _) λb h o e=>?_) M λI N O=>?_⟩;rw[m.2 b λz:b=D=>l (by rw[<-z];exact h)];exact e;refine j I (Moved.trans c.gtrans ((d.mono sub).then_heap (Nat.le_succ _) λb o h e=>?_) N) O;rw[m.2 b λz:b=D=>h (by rw[z];exact BB)];exact e
end
section
variable {prog:Program} {w:World} {A:Around} {E:D'} {s:Shared}
set_option maxRecDepth 100000 in
set_option maxHeartbeats 3200000 in
theorem dN {l:Addr} {a:Array Value} {f:Nat->Int} {Q:D'} (J:A.handled=none) (K:s.heap.IsList l a) (L:∀ (i:Nat) (v:Value),a[i]? = some v -> ∃ t,v=.int (f i) t) (d:a.size + 1 < scanBound)
 (h:∀(h':Heap)(tk:Nat),B3 (intKind prog w) (BQ w) h' s.heap.objs.size (λy=>(B4 f a.size).any (·==y)) (B4 f a.size).length ->
  (∀b o,b<s.heap.objs.size->s.heap.get? b=some o->h'.get? b=some o)->Q (.ref s.heap.objs.size) {s with heap:=h',toks:=tk}) :
 wpAny (model prog w) A (call (.type "set") [.ref l]) Q E s:=by
 obtain⟨c,tl,ao⟩:=F.called_set.mro;have av:=F.called_set.made;have aq:=F.called_set.sub;refine wpAny_call (codeAny_of_tree ?_);show wpAny _ _ (callAny (.type "set") _) _ _ _;refine Aw ⟨Code.quiet_builtin _ (by decide +kernel),codeAny_builtin F.entry_type_call ?_⟩;rw[Around.under_plain (weight_type_call_type "set" [.ref l] []) rfl];have h1:=F.called_set.notType;have h2:=F.called_set.canCreate;have ai:=F.typeCall_set_1 (.ref l)
 repeat (any_goals (first|assumption|wp_step))
 refine codeAny_mono (JW (.ref l) (E:=E) (Q:=λn p=>n=.ref s.heap.objs.size/\p={s with heap:=s.heap.push (Ic (BQ w))}) ⟨rfl,rfl⟩) λr p j=>?_
 cases r with
 |error e=>exact j
 | ok M =>
   cases M with
   | ret n =>
     obtain⟨rfl,rfl⟩:=j;have q:(s.heap.push (Ic (BQ w))).get? s.heap.objs.size=some (Ic (BQ w)):=B9 _ rfl;have N:Shared.TypeIs {s with heap:=s.heap.push (Ic (BQ w))} (.ref s.heap.objs.size) "set" :=⟨_,q,rfl⟩;have aj:=F.called_set.init.lookup;have ak:=F.called_set.init.bind (.ref s.heap.objs.size)
     repeat (any_goals (first|assumption|wp_step))
     refine codeAny_mono (codeAny_call_builtin (R:=wants (λr u=>r=.none/\∃h' tk,u={s with heap:=h',toks:=tk}/\B3 (intKind prog w) (BQ w) h' s.heap.objs.size (λy=>(B4 f a.size).any (·==y)) (B4 f a.size).length /\
      (∀b o,b<s.heap.objs.size->s.heap.get? b=some o->h'.get? b=some o)) E) F.called_set.init.plain F.entry_set_init (check_set_init_1 N ?_)) λO u k=>?_
     . obtain⟨⟨oc,P,al,W⟩,C,D,x,G⟩:=K
       simp only at D G;subst D;subst G;have ah:(s.heap.push (Ic (BQ w))).get? l=some {cls:=.type "list",dict:=P,data:=.seq a x,slots:=W}:=Be _ C;have ar:=F.sub_list_set;have au:=F.sub_list_frozenset;have an:(Value.type "list" == Value.type "dict")=false:=(by decide);have H:(s.heap.push (Ic (BQ w))).IsList l a:=⟨_,ah,rfl,x,rfl⟩;unfold Builtin.«set.__init__» noKeywords Builtin.Frozenset.updateFrom;generalize X:pyIter=PI
       wp_walk
       subst X;refine wpAny_pyIter_list H (Ad (wpAny_runValue ?_));have I:l<s.heap.objs.size:=A5 C;have Y:A.in1.in1.in1.handled=none:=(by simp[J])
       have Z:l≠(s.heap.push (Ic (BQ w))).objs.size:=by
        rw[Heap.size_push];exact CU (Nat.lt_succ_of_lt I)
       have aa:s.heap.objs.size∉[(s.heap.push (Ic (BQ w))).objs.size,l]:=by
        rw[Heap.size_push];intro z;rcases Cj.mp z with z|z;exact absurd z (CU (Q7 _));exact absurd (AZ.mp z) (Nat.ne_of_gt I)
       refine dM ((Walks.list Y _ l Z a).toS) s.heap.objs.size aa f L d (a.size-0) 0 _ (by lia) (Cm _) ⟨⟨_,B9 _ rfl,rfl,rfl⟩,(H.push _)⟩ ?hS0 ?hR
       case hS0 =>
        have S:((s.heap.push (Ic (BQ w))).push {cls:=.type "list_iterator",data:=.fields #[.ref l,.int 0 0]}).get? s.heap.objs.size=some (Ic (BQ w)):=Be _ q;exact⟨_,#[],0,_,S,⟨rfl,rfl,rfl⟩,rfl,(λe T=>by simp at T),(λy=>by simp[B4]),by decide,rfl,rfl,⟨List.Pairwise.nil,rfl,rfl⟩⟩
       case hR =>
        rintro⟨h',U,V,ab,ae⟩ g m;obtain rfl:U=s.gens:=g.gens;obtain rfl:V=s.drawn:=g.drawn;obtain rfl:ae=s.os:=g.os;show wpAny _ _ _ _ _ _;refine Aw ?_;show wpAny _ _ (ret Value.none) _ _ _;refine Aw ⟨rfl,h',ab,rfl,m,λb o d e=>?_⟩;refine g.heap b o (λz=>?_) (Be _ (Be _ e));rcases Cj.mp z with z|z;exact absurd z (CU d);have B:=AZ.mp z;rw[Heap.size_push] at B;exact absurd B (CU (Nat.lt_succ_of_lt d))
     . cases O with
       |error e=>exact k
       |ok af =>
         cases af with
         |ret r =>
           obtain⟨rfl,h',tk,rfl,m,ag⟩:=k
           repeat (any_goals (first|assumption|wp_step))
           exact h _ _ m ag
         |_=>exact k.elim
   |_=>exact j.elim
end
def dO:entryFor table "set.__iter__" = some Builtin.«frozenset.__iter__»:=entryFor_alias (id':= "frozenset.__iter__") (by kernel_rfl) rfl (by decide +kernel) (by kernel_rfl)
def BC:Slot "set_iterator" "__next__" "set_iterator.__next__" :=.of (owner:= "set_iterator") (n:= "__next__") (by rw[typeLookup_type,builtinLookup_eq_fast];kernel_rfl) (by decide +kernel) (by decide +kernel) (by decide +kernel) (by first|exact .inl (by decide +kernel)|exact .inr (by decide +kernel)) (by rw[isSubtype_type];kernel_rfl)
def Qp:entryFor table "set_iterator.__next__" = some Builtin.«set_iterator.__next__»:=entryFor_of_tree (by kernel_rfl)
def W3:Manifest.owners.lookup (String.ofList ['r','o','t','a','r','e','t','i','_','t','e','s'].reverse)=some Manifest.sig_set_iterator:=by kernel_rfl
def Qq(a:Value):argsOk "set_iterator.__next__" ⟨[a],[]⟩:=by
 unfold argsOk;rw[signature?_of (id:= "set_iterator.__next__") (n:=['_','_','t','x','e','n','_','_']) (o:=['r','o','t','a','r','e','t','i','_','t','e','s']) (by kernel_rfl) W3];kernel_rfl
abbrev Ex (f:Value) (i n ep:Nat) (D:Addr):Obj:={cls:=.type "set_iterator",data:=.fields #[f,rawInt i,.ref D,rawInt n,rawInt ep]}
structure E6 (hp:Heap) (D:Addr) (es:Array (Int×Value)) (ep:Nat) (tb:SetTable):Prop where
 ex:∃ob,hp.get? D=some ob/\ob.ExactSet/\ob.data=.set es ep tb
 fit:tb.fits es.size=true
section
variable {prog:Program} {w:World} {A:Around} {E:D'} {s:Shared} {It D:Addr} {es:Array (Int×Value)} {ep:Nat} {tb:SetTable}
def E6.entries(x:E6 s.heap D es ep tb){Q:Array (Int×Value)->Shared->Prop}(q:Q es s):wpAny (model prog w) A (setEntries D) Q E s:=by
 obtain⟨b,a,_,c⟩:=x.ex;exact wpAny_setEntries_of a c x.fit q
def E6.state(x:E6 s.heap D es ep tb){Q:(Array (Int×Value)×Nat×SetTable)->Shared->Prop}(q:Q (es,ep,tb) s):wpAny (model prog w) A (setState D) Q E s:=by
 obtain⟨b,a,_,c⟩:=x.ex;exact wpAny_setState_of a c x.fit q
def E6.keep{c d:Heap}(x:E6 c D es ep tb)(k:∀ob,c.get? D=some ob->d.get? D=some ob):E6 d D es ep tb:=by
 obtain⟨ob,a,b⟩:=x.ex;exact⟨⟨ob,k _ a,b⟩,x.fit⟩
def dP{c a:Nat}{v:Value}{Q:Option Value->Shared->Prop}(hit:s.heap.get? It=some (Ex (rawInt c) i es.size ep D))(g:E6 s.heap D es ep tb)
 (h:∀(B:Around)(j:D')(d:Option (Value×Nat)->Shared->Prop),d (some (v,a)) s->wpAny (model prog w) B (setNext D c i ep) d j s)
 (q:∀b,b.get? It=some (Ex (rawInt a) (i+1) es.size ep D)->Heap.SameBut It s.heap b->Q (some v) {s with heap:=b}):wpAny (model prog w) A (pyNext (.ref It)) Q E s:=by
 have e:s.TypeIs (.ref It) "set_iterator" :=⟨_,hit,rfl⟩;unfold pyNext;refine Ad (wpAny_attempt (wpAny_callSpecial?_slot (name:=Str.ofString "__next__") e BC (wpAny_call_entry BC e Qp ?_ (Qq _))));unfold Builtin.«set_iterator.__next__» slotArgs;simp only[List.isEmpty_nil,Bool.not_true,Fk,↓reduceIte,Gx,bne_self_eq_false];refine Ad (Aw ?_);refine Ad (wpAny_fieldsOf hit rfl ?_);show wpAny _ _ (setEntries D >>= _) _ _ s;refine Ad (g.entries ?_);rw[Ak (by simp)];refine Ad (h _ _ _ ?_);show wpAny _ _ (setField (Value.ref It) 0 (rawInt a) >>= _) _ _ s;refine Ad (wpAny_setField hit rfl (by simp) ?_);have f:(s.heap.update It (Obj.mapFields (·.setIfInBounds 0 (rawInt a)))).get? It=some (Ex (rawInt a) i es.size ep D):=Heap.get?_update_self _ hit rfl;refine Ad (wpAny_setField f rfl (by simp) ?_);have k:=Heap.get?_update_self (Obj.mapFields (·.setIfInBounds 1 (rawInt ((i:Int)+1)))) f rfl;exact Aw ⟨_,rfl,Aw (q _ k ((Heap.SameBut.update ..).trans (Heap.SameBut.update ..)))⟩
def W4{vs:Array Value}{ob:Obj}{Q:Option Value->Shared->Prop}(d:A.handled=none)(hit:s.heap.get? It=some ob)(hd:ob.data=.fields vs)(hz:2<vs.size)
 (q:∀c,Heap.ExtBut It s.heap c->Q none {s with heap:=c}):wpAny (model prog w) A.in1 (setField (Value.ref It) 2 Value.none >>= λζ=>newExc (Value.type "StopIteration") [] >>= λe=>raiseNew (α:=Fin) e) (λf Z=>∃v,f=Fin.done (Flow.ret v)/\wpAny (model prog w) A (pure (some v)) Q E Z)
  (λe Z=>wpAny (model prog w) A (isInstance e (Value.type "StopIteration") >>= λb=>if b=true then pure none else throw e) Q E Z) s:=by
 refine Ad (wpAny_setField hit hd hz ?_);refine Ad ?_;simp only[newExc,newTuple];refine Ad (wpAny_newObj_type ?_ (by size_fits));refine Ad (m:=firstArgMember _ _) (wpAny_of_eq (a:=Value.none) (by first|rfl|(simp only[firstArgMember];rfl)) ?_);refine wpAny_newObj_type ?_ (by size_fits);simp only[raiseNew];refine Ad (wpAny_handled ?_);rw[show A.in1.handled=none from d];refine Ad (Aw (wpAny_throw ?_))
 refine Ad (wpAny_isInstance (T:= "StopIteration") (b:=true) ⟨_,B9 _ rfl,rfl⟩ isSubtype_stop ?_);exact Aw (q _ (((Heap.SameBut.update ..).extBut.push _).push _))
def dQ{a:Nat}{Q:Option Value->Shared->Prop}(e:A.handled=none)(hit:s.heap.get? It=some (Ex (rawInt a) i es.size ep D))(f:E6 s.heap D es ep tb)
 (g:∀(B:Around)(h:D')(b:Option (Value×Nat)->Shared->Prop),b none s->wpAny (model prog w) B (setNext D a i ep) b h s)
 (q:∀c,Heap.ExtBut It s.heap c->Q none {s with heap:=c}):wpAny (model prog w) A (pyNext (.ref It)) Q E s:=by
 have d:s.TypeIs (.ref It) "set_iterator" :=⟨_,hit,rfl⟩;unfold pyNext;refine Ad (wpAny_attempt (wpAny_callSpecial?_slot (name:=Str.ofString "__next__") d BC (wpAny_call_entry BC d Qp ?_ (Qq _))));unfold Builtin.«set_iterator.__next__» slotArgs;simp only[List.isEmpty_nil,Bool.not_true,Fk,↓reduceIte,Gx,bne_self_eq_false];refine Ad (Aw ?_);refine Ad (wpAny_fieldsOf hit rfl ?_);show wpAny _ _ (setEntries D >>= _) _ _ s;refine Ad (f.entries ?_);rw[Ak (by simp)];refine Ad (g _ _ _ ?_);exact W4 e hit rfl (by simp) q
def dR{ps:Array Value}{p:Nat}{t:Tok}{v:Value}{hv:Int}{Q:Option Value->Shared->Prop}(hit:s.heap.get? It=some (Ex (.ref T) i es.size ep D))(b:E6 s.heap D es ep tb)(f:s.heap.IsTuple T ps)(a:ps[i]?=some (.int p t))(hv:es[p]?=some (hv,v))
 (q:∀a,a.get? It=some (Ex (.ref T) (i+1) es.size ep D)->Heap.SameBut It s.heap a->Q (some v) {s with heap:=a}):wpAny (model prog w) A (pyNext (.ref It)) Q E s:=by
 have c:s.TypeIs (.ref It) "set_iterator" :=⟨_,hit,rfl⟩;obtain⟨g,d,h,nn,dt⟩:=f;unfold pyNext;refine Ad (wpAny_attempt (wpAny_callSpecial?_slot (name:=Str.ofString "__next__") c BC (wpAny_call_entry BC c Qp ?_ (Qq _))));unfold Builtin.«set_iterator.__next__» slotArgs;simp only[List.isEmpty_nil,Bool.not_true,Fk,↓reduceIte,Gx,bne_self_eq_false];refine Ad (Aw ?_);refine Ad (wpAny_fieldsOf hit rfl ?_);show wpAny _ _ (setEntries D >>= _) _ _ s;refine Ad (b.entries ?_);rw[Ak (by simp)];show wpAny _ _ (seqItems? (.ref T) >>= _) _ _ s;refine Ad (Gk d dt ?_)
 show wpAny _ _ (match ps[i]? with|some (Value.int place tok)=>_|some val=>_|none=>_) _ _ s
 rw[a];show wpAny _ _ (setNextDrawn D p ep >>= _) _ _ s;refine Ad ?_;unfold setNextDrawn;refine Ad (b.state ?_);dsimp only;rw[Ak (by simp)];rw[hv];refine Aw ?_;show wpAny _ _ (setField (Value.ref It) 1 (rawInt ((i:Int)+1)) >>= _) _ _ s;refine Ad (wpAny_setField hit rfl (by simp) ?_);have e:=Heap.get?_update_self (Obj.mapFields (·.setIfInBounds 1 (rawInt ((i:Int)+1)))) hit rfl;exact Aw ⟨_,rfl,Aw (q _ e (Heap.SameBut.update ..))⟩
def dS{ps:Array Value}{Q:Option Value->Shared->Prop}(c:A.handled=none)(hit:s.heap.get? It=some (Ex (.ref T) i es.size ep D))(d:E6 s.heap D es ep tb)(g:s.heap.IsTuple T ps)(a:ps[i]?=none)
 (q:∀a,Heap.ExtBut It s.heap a->Q none {s with heap:=a}):wpAny (model prog w) A (pyNext (.ref It)) Q E s:=by
 have b:s.TypeIs (.ref It) "set_iterator" :=⟨_,hit,rfl⟩;obtain⟨h,e,j,nn,dt⟩:=g;unfold pyNext;refine Ad (wpAny_attempt (wpAny_callSpecial?_slot (name:=Str.ofString "__next__") b BC (wpAny_call_entry BC b Qp ?_ (Qq _))));unfold Builtin.«set_iterator.__next__» slotArgs;simp only[List.isEmpty_nil,Bool.not_true,Fk,↓reduceIte,Gx,bne_self_eq_false];refine Ad (Aw ?_);refine Ad (wpAny_fieldsOf hit rfl ?_);show wpAny _ _ (setEntries D >>= _) _ _ s;refine Ad (d.entries ?_);rw[Ak (by simp)];show wpAny _ _ (seqItems? (.ref T) >>= _) _ _ s;refine Ad (Gk e dt ?_)
 show wpAny _ _ (match ps[i]? with|some (Value.int place tok)=>_|some val=>_|none=>_) _ _ s
 rw[a];show wpAny _ _ (setField (Value.ref It) 0 (rawInt 0) >>= _) _ _ s;refine Ad (wpAny_setField hit rfl (by simp) ?_);have f:=Heap.get?_update_self (Obj.mapFields (·.setIfInBounds 0 (rawInt 0))) hit rfl;exact W4 c f rfl (by simp) λa ex=>q a ((Heap.SameBut.update ..).extBut.trans ex)
def Ih{v:Value}{n:Int}(h:(intKind prog w).is n v=true):∃t,v=.int n t:=by
 have a:Value.isInt n v=true:=h;cases v<;>simp[Value.isInt] at a;subst a;exact⟨_,rfl⟩
theorem TJ{α:Type}:∀{l:List α}{i:Nat}(h:i<l.length),(l[i]::l.eraseIdx i).Perm l
 |x::l,0,_=>List.Perm.refl _
 |x::l,i+1,h=>(List.Perm.swap x _ _).trans (List.Perm.cons x (TJ (l:=l) (i:=i) (by simpa using h)))
theorem W5{α:Type}(nx:Nat->Nat):∀(a k:Nat)(left:List α)(out:Array α),left.length=a->(pickOrder.go nx a k left out).toList.Perm (out.toList++left)
 |0,k,left,out,h=>by
   rw[List.length_eq_zero_iff.mp h];unfold pickOrder.go
   simp
 |a+1,k,left,out,h=>by
   have b:nx k%left.length<left.length:=Nat.mod_lt _ (by lia);unfold pickOrder.go;rw[AC b];dsimp only;refine(W5 nx a (k+1) _ _ (by rw[List.length_eraseIdx,Al b];lia)).trans ?_;rw[Array.toList_push,F5];refine List.Perm.append_left _ ?_;exact TJ b
def dU{c:Source}{Q:Nat->Shared->Prop}(a:n≠0)(q:∀i b,i<n->Q i {s with drawn:=b}):wpAny (model prog w) A (choose c n) Q E s:=
 λζ ζ ζ=>⟨a,q _ _ (Nat.mod_lt _ (Nat.pos_of_ne_zero a))⟩
theorem W6{α:Type}:∀(n:Nat)(xs:List α){A:Around}{E:D'}{s:Shared}{Q:List α->Shared->Prop},xs.length=n->(∀ys b,ys.Perm xs->Q ys {s with drawn:=b})->wpAny (model prog w) A (drawOrder n xs) Q E s
 |0,xs,A,E,s,Q,h,q=>by
   have e:=List.length_eq_zero_iff.mp h;subst e;unfold drawOrder;exact Aw (q [] s.drawn (List.Perm.refl _))
 |n+1,[],A,E,s,Q,h,q=>by cases h
 |n+1,x::xs,A,E,s,Q,h,q=>by
   unfold drawOrder;refine Ad (dU (by simp) λi b a=>?_);rw[AC a];dsimp only;refine Ad (W6 n _ (by rw[List.length_eraseIdx,Al a];lia) λys d c=>?_);exact Aw (q _ d ((List.Perm.cons _ c).trans (TJ a)))
end
def W7:Slot "set_iterator" "__iter__" "set_iterator.__iter__" :=.of (owner:= "set_iterator") (n:= "__iter__") (by rw[typeLookup_type,builtinLookup_eq_fast];kernel_rfl) (by decide +kernel) (by decide +kernel) (by decide +kernel) (by first|exact .inl (by decide +kernel)|exact .inr (by decide +kernel)) (by rw[isSubtype_type];kernel_rfl)
def dV:entryFor table "set_iterator.__iter__" = some Builtin.«dict_keyiterator.__iter__»:=entryFor_alias (id':= "dict_keyiterator.__iter__") (by kernel_rfl) rfl (by decide +kernel) (by kernel_rfl)
def dX(a:Value):argsOk "set_iterator.__iter__" ⟨[a],[]⟩:=by
 unfold argsOk;rw[signature?_of (id:= "set_iterator.__iter__") (n:=['_','_','r','e','t','i','_','_']) (o:=['r','o','t','a','r','e','t','i','_','t','e','s']) (by kernel_rfl) W3];kernel_rfl
section
variable {prog:Program} {w:World} {A:Around} {E:D'} {s:Shared} {It D:Addr} {es:Array (Int×Value)} {ep:Nat} {tb:SetTable}
def W8{f:Value}(hit:s.heap.get? It=some (Ex f i n ep D))(q:Q (.ref It) s):wpAny (model prog w) A (pyIter (.ref It)) Q E s:=by
 have a:s.TypeIs (.ref It) "set_iterator" :=⟨_,hit,rfl⟩;refine wpAny_pyIter_slot a W7 (wpAny_call_entry W7 a dV ?_ (dX _));show wpAny _ _ (ret (.ref It)) _ _ s;exact Aw ⟨_,rfl, "set_iterator",_,a,BC.lookup,q⟩
def Mj{b:Addr}(h:b∈[It]):b∈[It,D]:=by rw[AZ.mp h];exact BB
def W9(p:A.handled=none)(r:It≠D)(f:Nat->Nat)(vs:List Value)(H:vs.length=es.size)
 (t:∀(i:Nat)(v:Value)(s:Shared)(B:Around)(d:D')(c:Option (Value×Nat)->Shared->Prop),vs[i]?=some v->E6 s.heap D es ep tb->c (some (v,f (i+1))) s->wpAny (model prog w) B (setNext D (f i) i ep) c d s)
 (u:∀(s:Shared)(B:Around)(d:D')(c:Option (Value×Nat)->Shared->Prop),E6 s.heap D es ep tb->c none s->wpAny (model prog w) B (setNext D (f es.size) es.size ep) c d s) :
 Walks prog w A It [It,D] [It] es.size (λi v=>vs[i]?=some v) (λi h=>h.get? It=some (Ex (rawInt (f i)) i es.size ep D)/\E6 h D es ep tb) where
 sub:=λb y=>Mj y
 frame:=λi h I⟨a,b⟩k=>⟨k It BB _ a,b.keep λC e=>k D (by simp) _ e⟩
 item:=λi s Q E J⟨a,b⟩q=>by
  have G:i<vs.length:=(by lia);have m:=AC G;refine dP (v:=vs[i]) a b (λB d c g=>t i _ s B d c m b g) λj F n=>?_;have:=q vs[i] j s.toks m ⟨F,b.keep λC e=>(n.2 D (Ne.symm r)).trans e⟩ λx o l e=>(n.2 x (λz=>l (by rw[z];exact BB))).trans e;exact this
 done:=λs Q E⟨a,b⟩q=>dQ p a b (λB d c g=>u s B d c b g) λj ex=>q j s.toks λx o l e=>ex x o (λz=>l (by rw[z];exact BB)) e
 self:=λi s Q E⟨a,_⟩q=>W8 a q
def dY(l:A.handled=none)(m:It≠D)(n:It≠T)(ps:List Nat)(vs:List Value)(G:vs.length=es.size)(hv:∀(i:Nat)(v:Value),vs[i]?=some v->∃(p:Nat)(x:Int),ps[i]?=some p/\es[p]?=some (x,v))(d:ps.length=es.size) :
 Walks prog w A It [It,D,T] [It] es.size (λi v=>vs[i]?=some v) (λi h=>h.get? It=some (Ex (.ref T) i es.size ep D)/\E6 h D es ep tb/\h.IsTuple T (ps.map λp:Nat=>rawInt (p:Int)).toArray) where
 sub:=λb r=>by rw[AZ.mp r];exact BB
 frame:=λi h H⟨a,b,c⟩k=>⟨k It BB _ a,b.keep λu e=>k D (by simp) _ e,let ⟨o,e,x⟩:=c;⟨o,k T (by simp) _ e,x⟩⟩
 item:=λi s Q E I⟨a,b,c⟩q=>by
  have F:i<vs.length:=(by lia);have j:=AC F;obtain⟨p,x,y,B⟩:=hv i _ j;refine dR (v:=vs[i]) (hv:=x) (t:=0) a b c (by simp[y,rawInt]) B λd C f=>?_;exact q vs[i] d s.toks j ⟨C,b.keep λu e=>(f.2 D (Ne.symm m)).trans e,let ⟨o,e,x⟩:=c;⟨o,(f.2 T (Ne.symm n)).trans e,x⟩⟩ λx o g e=>(f.2 x (λz=>g (by rw[z];exact BB))).trans e
 done:=λs Q E⟨a,b,c⟩q=>dS l a b c (by simp[d]) λd ex=>q d s.toks λx o g e=>ex x o (λz=>g (by rw[z];exact BB)) e
 self:=λi s Q E⟨a,_⟩q=>W8 a q
structure E7 (prog:Program) (w:World) (A:Around) (h0 hp:Heap) (D It:Addr) (ks:List Int):Prop where
 walk:∃(fp:List Addr)(St:Nat->Heap->Prop),Walks prog w A It fp [It] ks.length (λi v=>∃t,v=.int (ks.getD i 0) t) St/\St 0 hp/\∀b∈fp,b=D\/h0.objs.size<=b
 keep:∀b o,h0.get? b=some o->hp.get? b=some o
 new:h0.objs.size<=It
def Walks.weaker{a r:List Addr}{P b:Nat->Value->Prop}{St:Nat->Heap->Prop}(W:Walks prog w A It a r n P St)(h:∀i v,P i v->b i v):Walks prog w A It a r n b St where
 sub:=W.sub
 frame:=W.frame
 item:=λi s Q E c st q=>W.item i s Q E c st λv d tk pv=>q v d tk (h i v pv)
 done:=W.done
 self:=W.self
def TK{M:Int->Bool}{vs:List Value}(s:ElemsOf (intKind prog w) es.toList)(u:∀y,M y=true↔∃e∈es.toList,(intKind prog w).is y e.2=true)(f:vs.Perm (es.toList.map (·.2))):∃ks:List Int,ks.length=vs.length/\(∀(i:Nat)(v:Value),vs[i]?=some v->∃t,v=.int (ks.getD i 0) t)/\∀y,M y=true↔y∈ks:=by
 have z:∀v∈vs,∃n t,v=Value.int n t:=λv g=>by
  obtain⟨e,c,rfl⟩:=A3.mp (f.mem_iff.mp g);obtain⟨⟨k,A,_⟩,_⟩:=s e c;obtain⟨t,j⟩:=Ih A;exact⟨k,t,j⟩
 have B:∀l:List Value,(∀v∈l,∃n t,v=Value.int n t)->∃ks:List Int,ks.length=l.length/\∀(i:Nat)(v:Value),l[i]?=some v->∃t,v=.int (ks.getD i 0) t:=λl=>by
  induction l with
  |nil=>exact λζ=>⟨[],rfl,λi v h=>by cases h⟩
  |cons x l C =>
    intro q;obtain⟨ks,a,b⟩:=C λv g=>q v (Co _ g);obtain⟨n,t,e⟩:=q x BB;refine⟨n::ks,by simp[a],λi v h=>?_⟩
    cases i with
    |zero=>simp at h;subst h;exact⟨t,e⟩
    |succ i=>simpa using b i v (by simpa using h)
 obtain⟨ks,a,b⟩:=B vs z;refine⟨ks,a,b,λy=>?_⟩;rw[u y];constructor;rintro⟨e,c,m⟩;obtain⟨t,j⟩:=Ih m;have D:e.2∈vs:=f.mem_iff.mpr (A3.mpr ⟨e,c,rfl⟩);obtain⟨i,o,p⟩:=List.getElem_of_mem D;obtain⟨G,d⟩:=b i _ (AC o);rw[p,j] at d;have E:y=ks.getD i 0:=(by injection d);rw[E,B0,AC (show i<ks.length by lia)];exact Ep _;intro m;obtain⟨i,o,p⟩:=List.getElem_of_mem m;have r:i<vs.length:=(by lia);obtain⟨t,d⟩:=b i _ (AC r);obtain⟨e,c,F⟩:=A3.mp (f.mem_iff.mp (Ep r));refine⟨e,c,?_⟩;rw[F,d,B0,AC o];show(intKind prog w).is y (.int ks[i] t)=true;rw[p];exact intKind_is _ _ _ _
def Xa{ks:List Int}:∀{vs:List Value},vs.length=ks.length->(∀(i:Nat)(v:Value),vs[i]?=some v->∃t,v=.int (ks.getD i 0) t)->IntsAre vs ks:=by
 induction ks with
 |nil=>intro vs a _;cases vs with
   |nil=>exact .nil
   |cons _ _=>simp at a
 |cons x r b =>
   intro vs a h
   cases vs with
   |nil=>simp at a
   |cons v vs =>
     obtain⟨t,e⟩:=h 0 v rfl;obtain rfl:v=.int x t:=e;exact .cons _ _ (b (by simpa using a) λi u c=>h (i+1) u (by simpa using c))
def E7.of{a c:Heap}{d:List Addr}{m:Nat}{vs:List Value}{St:Nat->Heap->Prop}{ks:List Int}(W:Walks prog w A It d [It] m (λi v=>vs[i]?=some v) St)(e:ks.length=m)(f:∀(i:Nat)(v:Value),vs[i]?=some v->∃t,v=.int (ks.getD i 0) t)(st:St 0 c)(lt:∀b∈d,b=D\/a.objs.size<=b)(g:∀b o,a.get? b=some o->c.get? b=some o)(h:a.objs.size<=It):E7 prog w A a c D It ks:=
 ⟨⟨d,St,by rw[e];exact Walks.weaker W f,st,lt⟩,g,h⟩
def TM{f:Value}(b:E6 s.heap D es ep tb)(q:Q (.ref s.heap.objs.size) {s with heap:=s.heap.push (Ex f 0 es.size ep D)}) :
 wpAny (model prog w) A (setEpoch D >>= λe=>newFields "set_iterator" [f,rawInt 0,Value.ref D,rawInt ↑es.size,rawInt ↑e] >>= λv=>ret v) (λg Z=>∃v,g=Fin.done (Flow.ret v)/\∃d r,Z.TypeIs v d/\typeLookup (Value.type d) (Str.ofString "__next__")=pure (some r)/\Q v Z) E s:=by
 obtain⟨h,a,_,c⟩:=b.ex;refine Ad (wpAny_setEpoch_of a c b.fit ?_);refine Ad (wpAny_newObj_type (Aw ⟨_,rfl, "set_iterator",_,⟨_,B9 _ rfl,rfl⟩,BC.lookup,?_⟩));exact q
def Xb{nx:Nat->Nat}{a:Nat}{v:Option (Value×Nat)}(d:w.params.followText "set-order" = true)(f:w.params.setOrder D ep=nx)(hv:((pickOrder nx es)[i]?).map (λe=>(e.2,a))=v)(b:E6 s.heap D es ep tb){Q:Option (Value×Nat)->Shared->Prop}(q:Q v s):wpAny (model prog w) A (setNext D a i ep) Q E s:=by
 unfold setNext;refine Ad (b.state ?_);dsimp only;unfold setsByText;refine Ad (Ad (wpAny_askSetting (Aw ?_)));have c:(model prog w).w.params.followText "set-order" = true:=d;dsimp only;rw[c,Al rfl];rw[Ak (by simp)];refine Ad ?_;unfold setWalk setsByText;refine Ad (b.state ?_);dsimp only;refine Ad (Ad (wpAny_askSetting (Aw ?_)));dsimp only;rw[c,Al rfl];refine Ad (wpAny_askSetting ?_);refine Aw ?_;have g:(model prog w).w.params.setOrder D ep=nx:=f;dsimp only;rw[g,hv];exact Aw q
def Xc{a:Nat}{v:Option (Value×Nat)}(c:w.params.followText "set-order" = false)(d:(!tb.plain && decide (es.size > 1))=false)(e:tb.led=true)(hv:(∃h x j,es[SetTable.below tb.place a]?=some (h,x)/\tb.place[SetTable.below tb.place a]?=some j/\v=some (x,j+1))\/(es[SetTable.below tb.place a]?=none/\v=none))(f:E6 s.heap D es ep tb){Q:Option (Value×Nat)->Shared->Prop}(q:Q v s):wpAny (model prog w) A (setNext D a i ep) Q E s:=by
 unfold setNext;refine Ad (f.state ?_);dsimp only;unfold setsByText;refine Ad (Ad (wpAny_askSetting (Aw ?_)));have k:(model prog w).w.params.followText "set-order" = false:=c
 dsimp only;rw[k,Ak Cz];refine wpAny_ite_split (λh=>absurd (show(!tb.plain && decide (es.size > 1))=true from h) (by rw[d];exact Cz)) (λζ=>?_);refine Ad ?_;show wpAny _ _ (if(!tb.led && !es.isEmpty)=true then _ else _) _ _ _;rw[e];simp only[Bool.not_true,Bool.false_and,Fk,↓reduceIte];refine Aw ?_
 rcases hv with⟨h,x,j,b,g,rfl⟩|⟨b,rfl⟩;rw[b,g];exact Aw q;rw[b];exact Aw q
theorem dZ {M:Int->Bool}(I:A.handled=none) (hS:B3 (intKind prog w) (BQ w) s.heap D M n)
 (q:∀(It:Addr)(r:Heap)(J:Drawn)(ks:List Int),ks.length=n->(∀y,M y=true↔y∈ks)->E7 prog w A s.heap r D It ks->Q (.ref It) {s with heap:=r,drawn:=J}):wpAny (model prog w) A (pyIter (.ref D)) Q E s:=by
 obtain⟨t,es,ep,tb,K,X,x3,L,N,x6,Y,O,P⟩:=hS;have k:E6 s.heap D es ep tb:=⟨⟨t,K,X,x3⟩,Y⟩;have hT:s.TypeIs (.ref D) "set" :=⟨t,K,X.1⟩;have aa:D<s.heap.objs.size:=A5 K;refine wpAny_pyIter_slot hT F.slot_set_iter (wpAny_call_entry F.slot_set_iter hT dO ?_ (F.args_set_iter_1 _));unfold Builtin.«frozenset.__iter__» Builtin.Frozenset.slot0 slotArgs;simp only[List.isEmpty_nil,Bool.not_true,Fk,↓reduceIte,bind_assoc,Gx,bne_self_eq_false];unfold Builtin.Frozenset.addrOf Builtin.Frozenset.sizeOf;refine Ad (Aw ?_);dsimp only;refine Ad (Aw ?_);refine Ad (Ad (k.entries (Aw ?_)));unfold setDrawn setsByText;refine Ad (Ad (k.state ?_));dsimp only;refine Ad (Ad (wpAny_askSetting (Aw ?_)));refine Aw ?_;dsimp only;have n0:s.heap.objs.size≠D:=Nat.ne_of_gt aa
 have ab:∀{b:Addr},b∈[s.heap.objs.size,D]->b=D\/s.heap.objs.size<=b:=λ{b}a=>by
  rcases Cj.mp a with rfl|a;exact .inr (AD _);exact .inl (AZ.mp a)
 cases C:(model prog w).w.params.followText "set-order" with
 |true =>
   simp only[Bool.not_true,Bool.false_and,Fk,↓reduceIte];refine Ad (Aw ?_);refine TM k ?_
   have R:((pickOrder (w.params.setOrder D ep) es).toList).Perm es.toList:=by
    have:=W5 (w.params.setOrder D ep) es.size 0 es.toList #[] (by simp);show(pickOrder.go (w.params.setOrder D ep) es.size 0 es.toList #[]).toList.Perm es.toList;simpa using this
   obtain⟨ks,f,u,z⟩:=TK L N (R.map (·.2));have c:((pickOrder (w.params.setOrder D ep) es).toList.map (·.2)).length=es.size:=by rw[An,R.length_eq];simp
   have W:=W9 (prog:=prog) (w:=w) (A:=A) (It:=s.heap.objs.size) (D:=D) (es:=es) (ep:=ep) (tb:=tb) I n0 (λζ=>0) _ c
    (λi v Z B S U g l m=>Xb (nx:=w.params.setOrder D ep) C rfl (by
     rw[Bh] at g;obtain⟨e,d,rfl⟩:=EX.mp g
     rw[<-Array.getElem?_toList,d];rfl) l m)
    (λZ B S U l m=>Xb (nx:=w.params.setOrder D ep) C rfl (by
     have hz:(pickOrder (w.params.setOrder D ep) es).toList.length=es.size:=by rw[R.length_eq];simp
     rw[<-Array.getElem?_toList,Fh (by lia)];rfl) l m)
   refine q _ _ s.drawn ks (by rw[f,c,O]) z (E7.of W (f.trans c) u ⟨B9 _ rfl,k.keep λt e=>Be _ e⟩ (λb a=>ab a) (λb o e=>Be _ e) (AD _))
 |false =>
   have ae:tb.led=true:=by
    rw[P.led];unfold BQ;have:w.params.followText "set-order" = false:=C;rw[this];rfl
   simp only[Bool.not_false,Bool.true_and]
   cases H:(!tb.plain && decide (es.size > 1)) with
   |true =>
     refine wpAny_ite_split (λζ=>?_) (λh=>absurd (show(!tb.plain && decide (es.size > 1))=true from H) h);refine Ad (W6 es.size _ List.length_range λj J r=>?_)
     have V:j.length=es.size:=by rw[r.length_eq];exact List.length_range
     refine Ad (wpAny_newObj_type ?_ (by show(List.map (λi:Nat=>rawInt (i:Int)) j).toArray.size<=sizeLine;rw[Ck,An,V];exact fits_of_scanBound x6));have af:E6 (s.heap.push {cls:=.type "tuple",data:=.seq (j.map λi:Nat=>rawInt (i:Int)).toArray}) D es ep tb:=k.keep λt e=>Be _ e;refine TM af ?_;have ah:∀p∈j,p<es.size:=λp h=>List.mem_range.mp (r.mem_iff.mp h)
     have vp:(j.map λp=>(es.getD p (0,.none)).2).Perm (es.toList.map (·.2)):=by
      have d:es.toList.map (·.2)=(List.range es.size).map λp=>(es.getD p (0,.none)).2:=by
       refine List.ext_getElem (by simp) λi h1 h2=>?_;simp at h1;simp[h1]
      rw[d];exact r.map _
     obtain⟨ks,f,u,z⟩:=TK L N vp;have c:(j.map λp=>(es.getD p (0,.none)).2).length=es.size:=(by rw[An,V])
     have W:=dY (prog:=prog) (w:=w) (A:=A) (It:=(s.heap.push {cls:=.type "tuple",data:=.seq (j.map λi:Nat=>rawInt (i:Int)).toArray}).objs.size) (D:=D) (T:=s.heap.objs.size) (es:=es) (ep:=ep) (tb:=tb) I (by rw[Heap.size_push];exact Nat.ne_of_gt (Nat.lt_succ_of_lt aa)) (by rw[Heap.size_push];exact Nat.succ_ne_self _) j _ c (λi v g=>by
      rw[Bh] at g;obtain⟨p,d,rfl⟩:=EX.mp g;have ai:=ah p (Bl d);refine⟨p,(es.getD p (0,.none)).1,d,?_⟩
      simp[ai]) V
     refine q _ _ J ks (by rw[f,c,O]) z (E7.of W (f.trans c) u ⟨B9 _ rfl,af.keep λt e=>Be _ e,⟨_,Be _ (B9 _ rfl),rfl,_,rfl⟩⟩ (λb a=>?_) (λb o e=>Be _ (Be _ e)) (by rw[Heap.size_push];exact Nat.le_succ _));rcases Cj.mp a with rfl|a;rw[Heap.size_push];exact .inr (Nat.le_succ _);rcases Cj.mp a with rfl|a;exact .inl rfl;rw[AZ.mp a];exact .inr (AD _)
   |false =>
     refine wpAny_ite_split (λh=>absurd (show(!tb.plain && decide (es.size > 1))=true from h) (by rw[H];exact Cz)) (λζ=>?_);refine Ad (Aw ?_);refine TM k ?_;obtain⟨ks,f,u,z⟩:=TK L N (List.Perm.refl _)
     have c:(es.toList.map (·.2)).length=es.size:=by simp
     have lp:tb.place.size=es.size:=by
      have:=Y;unfold SetTable.fits at this;simp at this;exact this.1
     have ag:∀i,i<=tb.place.size->SetTable.below tb.place (if i=0 then 0 else tb.place.getD (i-1) 0+1)=i:=λi G=>by
      cases i with
      |zero=>exact dD P.ris
      |succ i =>
        have aj:i<tb.place.size:=G;simp only[Nat.add_eq_zero_iff,Nat.one_ne_zero,and_false,↓reduceIte,Nat.add_sub_cancel];refine dE P.ris ?_;rw[Array.getD_eq_getD_getElem?,Array.getElem?_eq_getElem aj];rfl
     have W:=W9 (prog:=prog) (w:=w) (A:=A) (It:=s.heap.objs.size) (D:=D) (es:=es) (ep:=ep) (tb:=tb) I n0 (λi=>if i=0 then 0 else tb.place.getD (i-1) 0+1) _ c
      (λi v Z B S U g l m=>Xc C H ae (.inl (by
       rw[Bh] at g;obtain⟨⟨h,x⟩,d,rfl⟩:=EX.mp g;rw[Array.getElem?_toList] at d;have G:i<tb.place.size:=by rw[lp];exact(Array.getElem?_eq_some_iff.mp d).1
       have a:=ag i (Dm G);refine⟨h,x,tb.place.getD i 0,by rw[a];exact d,?_,by simp⟩
       rw[a,Array.getD_eq_getD_getElem?,Array.getElem?_eq_getElem G];rfl)) l m)
      (λZ B S U l m=>Xc C H ae (.inr ⟨by
       rw[ag es.size (Nat.le_of_eq lp.symm)];simp,rfl⟩) l m)
     refine q _ _ s.drawn ks (by rw[f,c,O]) z (E7.of W (f.trans c) u ⟨B9 _ rfl,k.keep λt e=>Be _ e⟩ (λb a=>ab a) (λb o e=>Be _ e) (AD _))
end
section
variable {prog:Program} {w:World} {A:Around} {E:D'} {s:Shared} {D:Addr}
theorem d3(a:s.TypeIs (.ref D) "set"){Q:Bool->Shared->Prop}(q:∀b,Q b s):wpAny (model prog w) A (Builtin.List.listLengthHint (.ref D)) Q E s:=by
 unfold Builtin.List.listLengthHint;refine Ad (wpAny_specialOf a F.slot_set_len.lookup ?_);generalize AM:("set.__len__" : String)=c
 wp_delta
 rw[show splitId c=some ("set", "__len__") by subst AM;decide +kernel];subst AM;refine Ad (wpAny_isInstance (T:= "set") (b:=true) a (by rw[isSubtype_type];kernel_rfl) (wpAny_ite_split (λh=>absurd h (by decide)) λζ=>?_));refine wpAny_ite_split (λζ=>Ad (M5 a (Aw (q _)))) λh=>absurd (by decide +kernel) h
theorem JX{M:Int->Bool}{R:Result->Shared->Prop}(N:A.handled=none)(r:B3 (intKind prog w) (BQ w) s.heap D M n){S:Addr}(u:S≠D)(res:Value)(x:s.heap.get? S=some {cls:=.type "list",data:=.seq #[]})(O:n<=sizeLine)
 (q:∀h' g tk acc c(ks:List Int),(∀b o,b≠S->s.heap.get? b=some o->h'.get? b=some o)->h'.get? S=some {cls:=.type "list",dict:=none,data:=.seq acc c,slots:=#[]}->ItemsOf (λi v=>∃t,v=.int (ks.getD i 0) t) acc ks.length->ks.length=n->(∀y,M y=true↔y∈ks)->R (.ok (.ret res)) {s with heap:=h',drawn:=g,toks:=tk}) :
 wpAny (model prog w) A.in1 (Builtin.List.listExtendWith (.ref S) (.ref D) res)
  (λab Z=>match ab with|.done f=>R (.ok f) Z|.again B=>B.quiet=true/\codeAny (model prog w) A B R Z) (λe Z=>R (.error e) Z) s:=by
 have C:s.TypeIs (.ref D) "set" :=by obtain⟨k,_,_,_,a,b,_⟩:=r;exact⟨k,a,b.1⟩
 have ae:S<s.heap.objs.size:=A5 x;unfold Builtin.List.listExtendWith;refine Ad (M5 C ?_);rw[Ak (by simp[Builtin.List.listSameRef,u])];refine Ad (dZ (A:=A.in1) N r λIt l g ks E P Q=>?_);obtain⟨⟨T,St,W,st,af⟩,j,U⟩:=Q;have m:=j _ _ x;have G:S∉T:=λz=>(af S z).elim u λy=>absurd ae (Nat.not_lt_of_le y)
 have K:∀(h:Heap)(p:Nat),St 0 h->(∀b o,b≠S->s.heap.get? b=some o->h.get? b=some o)->h.get? S=some {cls:=.type "list",data:=.seq #[] p} ->
  codeAny (model prog w) A (.builtin "list.extend.loop" ⟨[.ref S,.ref It,res],[]⟩) R {s with heap:=h,drawn:=g}:=λh p ag V X=>by
  refine codeAny_extend_loopS W.toS (by rw[E];exact O) S G res ks.length 0 _ #[] p rfl (Cm _) ag X (ItemsOf.nil _) λZ acc c H Y ah=>?_;rw[Moved.eq_with H];refine q Z.heap g Z.toks acc c ks (λb o I e=>H.heap b o (λz=>?_) (V b o I e)) Y ah E P;rcases Cj.mp z with y|y;exact I y;have:=A5 e;rw[AZ.mp y] at this;exact absurd this (Nat.not_lt_of_le U)
 have quiet:(Code.builtin "list.extend.loop" ⟨[.ref S,.ref It,res],[]⟩).quiet=true:=plainId_quiet F.plain_extend_loop _;refine Ad (Fl (d3 (s:={s with heap:=l,drawn:=g}) (by obtain⟨k,a,b⟩:=C;exact⟨k,j _ _ a,b⟩) λb=>?_));refine wpAny_ite_split (λζ=>?_) λζ=>Aw ⟨quiet,K _ 0 st (λb o ζ e=>j b o e) m⟩;refine Ad (Hi (Ad ?_));show wpAny _ _ (updateSeq S (·.push .none) >>= λζ=>updateSeq S (·.pop)) _ _ _;refine Ad (wpAny_updateSeq m rfl ?_);have J:=Heap.get?_update_self (Obj.mapSeq (·.push Value.none)) m rfl;refine wpAny_updateSeq (hz:=by seq_fits) J rfl ?_;have aa:=Heap.get?_update_self (Obj.mapSeq (·.pop)) J rfl;have L:∀b,b≠S->((l.update S (Obj.mapSeq (·.push Value.none))).update S (Obj.mapSeq (·.pop))).get? b=l.get? b:=λb d=>(Heap.get?_update_other _ _ (Ne.symm d)).trans (Heap.get?_update_other _ _ (Ne.symm d));exact Aw ⟨quiet,K _ _ (W.frame 0 _ _ st λb d o e=>(L b λz=>G (z▸d)).trans e) (λb o d e=>(L b d).trans (j b o e)) aa⟩
theorem d4{M:Int->Bool}{Q:List Value->Shared->Prop}(t:A.handled=none)(p:B3 (intKind prog w) (BQ w) s.heap D M n)(u:n<=sizeLine)
 (q:∀h' d tk acc(ks:List Int),(∀b o,s.heap.get? b=some o->h'.get? b=some o)->IntsAre acc ks->ks.length=n->(∀y,M y=true↔y∈ks)->Q acc {s with heap:=h',drawn:=d,toks:=tk}):wpAny (model prog w) A (collect (.ref D)) Q E s:=by
 have G:D<s.heap.objs.size:=by obtain⟨z,_,_,_,a,_⟩:=p;exact A5 a
 unfold collect;refine Ad (wpAny_runValue (codeAny_builtin entry_proto_collect' ?_));rw[Around.under_plainId F.plain_proto_collect _];show wpAny _ A.in1 (newList [] >>= λl=>again (.builtin "list.__iadd__" ⟨[l,.ref D],[]⟩)) _ _ s;refine Ad (wpAny_newObj_type (Aw ⟨plainId_quiet F.plain_list_iadd _,codeAny_builtin entry_list_iadd' ?_⟩));rw[Around.under_plainId F.plain_list_iadd _];show wpAny _ A.in1 (Builtin.List.listExtendWith (.ref s.heap.objs.size) (.ref D) (.ref s.heap.objs.size)) _ _ _
 refine FP (JX (A:=A) (s:={s with heap:=s.heap.push {cls:=.type "list",data:=.seq ([]:List Value).toArray}}) (S:=s.heap.objs.size)
  (R:=λr Z=>∃h' d tk acc c,∃ks:List Int,r=.ok (.ret (.ref s.heap.objs.size))/\Z={s with heap:=h',drawn:=d,toks:=tk}/\(∀b o,s.heap.get? b=some o->h'.get? b=some o)/\h'.get? s.heap.objs.size=some {cls:=.type "list",dict:=none,data:=.seq acc c,slots:=#[]}/\IntsAre acc.toList ks/\ks.length=n/\∀y,M y=true↔y∈ks)
  t (p.keep λz e=>Be _ e) (Nat.ne_of_gt G) _ (B9 _ rfl) u λh' d tk acc c ks h j g k m=>⟨h',d,tk,acc,c,ks,rfl,rfl,λb o e=>h b o (CU (A5 e)) (Be _ e),j,?_,k,m⟩) (λH Z x=>?_) λe Z x=>?_
 exact Xa (by rw[Array.length_toList,g.1]) λi v B=>g.2 i v (by rw[<-Array.getElem?_toList];exact B)
 . cases H with
   |done f =>
     obtain⟨h',d,tk,acc,c,ks,e,rfl,h,j,g,k,m⟩:=x;cases e;show wpAny _ A (load s.heap.objs.size >>= _) _ _ _;exact Ad (wpAny_load j (Aw (q h' d tk acc.toList ks h g k m)))
   |again I =>
     refine⟨x.1,codeAny_mono x.2 λr J y=>?_⟩;obtain⟨h',d,tk,acc,c,ks,rfl,rfl,h,j,g,k,m⟩:=y;show wpAny _ A (load s.heap.objs.size >>= _) _ _ _;exact Ad (wpAny_load j (Aw (q h' d tk acc.toList ks h g k m)))
 obtain⟨_,_,_,_,_,_,C,_⟩:=x;cases C
end
def Mk{l:List Int}:∀{m:List Int},l.Nodup->(∀x∈l,x∈m)->m.length<=l.length->m.Nodup:=by
 induction l with
 |nil=>intro m _ _ h;rw[List.length_eq_zero_iff.mp (Nat.le_zero.mp h)];exact List.nodup_nil
 |cons a l g =>
   intro m d f i;obtain⟨j,k⟩:=Gw.mp d;have c:=List.perm_cons_erase (f a BB)
   have n:(m.erase a).length<=l.length:=by
    have:=c.length_eq;simp at this i;lia
   have sub:∀x∈l,x∈m.erase a:=λx b=>by
    have:=c.mem_iff.mp (f x (Co _ b));rcases Cj.mp this with e|e;exact absurd (e▸b) j;exact e
   refine c.nodup_iff.mpr (Gw.mpr ⟨λo=>?_,g k sub n⟩)
   have:(a::l).length<=(m.erase a).length:=Ord.nodup_sub_length d λx b=>by
    rcases Cj.mp b with e|e;rw[e];exact o;exact sub x e
   simp at this;lia
def JY{l:List Int}(h:l.Pairwise (·<=·))(c:l.Nodup):l.Pairwise (· < ·):=(h.and c).imp λ{a b}⟨x,y⟩=>by lia
set_option tactic.hygienic true in
def OM{l:List Int}{x:Int}(h:l.Nodup):(step_dedup l x).Nodup:=by
 unfold step_dedup;split;exact h;rename_i c;refine List.nodup_append.mpr ⟨h,List.pairwise_singleton _ _,λa d b f e=>c ?_⟩;rw[AZ.mp f] at e;rw[Gh];exact⟨a,d,by rw[e];simp⟩
theorem Xd(f:Nat->Int):∀i,(B4 f i).Nodup
 |0=>List.nodup_nil
 |i+1=>by rw[OL];exact OM (Xd f i)
def Ml (P:Program) (w:World) (a:Addr) (ns:List Int):HO:=.ext λh=>∃ds:List Int,ds.Nodup/\(∀y,y∈ds↔y∈ns)/\B3 (intKind P w) (BQ w) h a (λy=>ds.any (·==y)) ds.length
section
variable {prog:Program} {w:World} {A:Around} {E:D'} {s:Shared} {D:Addr}
def d5{M:Int->Bool}(p:A.handled=none)(r:B3 (intKind prog w) (BQ w) s.heap D M n)(B:n<64)
 (q:∀(R:Addr)h' c tk k out(ks:List Int),(∀b o,s.heap.get? b=some o->h'.get? b=some o)->(∀b o,s.heap.get? b=some o->b≠R)->h'.get? R=some {cls:=.type "list",data:=.seq out k}->IntsAre out.toList ks->ks.length=n->(∀y,M y=true↔y∈ks)->ks.Pairwise (·<=·)->Q (.ref R) {s with heap:=h',drawn:=c,toks:=tk}) :
 wpAny (model prog w) A (call (.builtin "sorted") [.ref D]) Q E s:=by
 refine Calls.call_function_entry kind_sorted plain_sorted entry_sorted (args_sorted1 _) ?_;unfold Builtin.«sorted»;refine Ad (m:=checkCount "sorted" 1 1 _) (Aw ?_);refine Ad (d4 (A:=A.in1) p r (Dm (BK (by lia))) λd c tk a ks f h i t=>?_);have u:a.length<64:=by rw[h.length,i];exact B
 refine Ad (wpAny_newList ?_ (Dm (BK (by lia))));have g:(d.push {cls:=.type "list",data:=.seq a.toArray}).get? d.objs.size=some (seqObj "list" a.toArray 0):=B9 _ rfl;refine Ad (Fl (wpAny_call_entry slot_list_sort ⟨_,g,rfl⟩ entry_list_sort (list_sort_tree g h u λout C v j x=>⟨_,rfl,?_⟩) (args_list_sort _)));obtain⟨k,z⟩:=sortedHeap_at (vs:=a) (out:=out) g;refine Aw ⟨_,rfl,q d.objs.size _ c tk k out C (λb o e=>?_) (λb o e=>CU (A5 (f b o e))) z v (by rw[j.length_eq,i]) (λy=>by rw[t,j.mem_iff]) x⟩;have l:=A5 (f b o e);rw[sortedHeap_old (CU l) (by rw[Heap.size_push];exact Nat.lt_succ_of_lt l)];exact Be _ (f b o e)
end
section
variable {X:Cx} {pins:B'} {σ:L2.St} {H:Hp} {s:Shared}
def Inv.drew(I:Inv X pins σ H s)(a:Drawn):Inv X pins σ H {s with drawn:=a}:=
 I.step (h':=s.heap) (H':=H) (g':=s.gens) (t':=s.toks) (d':=a) (ch:=[]) (λζ z=>nomatch z) (λζ ζ ζ ζ ζ e ζ=>e) (λζ o ζ ζ ζ e ζ=>⟨o.slots,e⟩) (λζ ζ ζ ζ n=>n) (λζ o ζ e=>⟨o,e⟩) (λζ ζ e=>e) (λζ ζ ζ e=>e) (λζ b e=>⟨#[],by rw[e];simp⟩) (λζ h=>h) I.hok I.bare
def ON (P:Program) (w:World) (K:Ah):List V->Hp->VK->Prop:=λvs H Q=>∃(p:Addr)(ns:List Int),vs=[.ref p]/\Ae K H p (ns.map V.int)/\ns.length<=4000/\∀q,H q=none->Q (.ref q) (upd H q (Ml P w q ns))
def d6{ns:List Int}{a:List Value}(r:As (ns.map V.int) a):∀(i:Nat)(v:Value),a.toArray[i]?=some v->∃t,v=.int (ns.getD i 0) t:=λi v e=>by
 have d:a[i]?=some v:=(by simpa using e);have f:=r.length;rw[An] at f;have b:i<ns.length:=by have:=(A8.mp d).1;lia
 obtain⟨u,c,g⟩:=r.get (i:=i) (x:=.int ns[i]) (by rw[Bh,AC b];rfl);rw[d] at c;cases c;rw[B0,AC b];exact g
def d7(v:X.calm=true):Ba X (.type "set") (ON X.prog X.w X.K):=by
 intro pins s σ H M us Q I r h;obtain⟨p,c,rfl,w,N,q⟩:=h;obtain⟨u,rfl,z⟩:=Fp r;obtain rfl:u=Value.ref p:=z;obtain⟨g,l,A,_⟩:=I.list w;have m:=l.length;rw[An] at m;have t:g.toArray.size=c.length:=(by rw[Ck,m]);refine dN (f:=λi=>c.getD i 0) (I.ok.hd v) A.isList (d6 l) (by rw[t];unfold scanBound;lia) λB tk n k=>?_;have C:∀b u,s.heap.get? b=some u->B.get? b=some u:=λb u e=>k b u (A5 e) e;refine⟨.ref s.heap.objs.size,upd H s.heap.objs.size (Ml X.prog X.w s.heap.objs.size c),I.laid (t':=tk) C (AD _) ?_,rfl,q _ I.fresh⟩;refine⟨⟨_,Xd _ _,λy=>?_,n⟩,?_,λO P⟨D,E,F,G⟩J=>⟨D,E,F,G.keep λK e=>J K e⟩⟩;have:=W2 (λi=>c.getD i 0) g.toArray.size y;rw[Gh] at this;have e:(∃x,x∈B4 (λi=>c.getD i 0) g.toArray.size/\(x==y)=true)↔y∈B4 (λi=>c.getD i 0) g.toArray.size:=⟨λ⟨x,a,b⟩=>by rw[<-eq_of_beq b];exact a,λa=>⟨y,a,by simp⟩⟩;rw[<-e,this,t];constructor;rintro⟨j,d,rfl⟩;rw[B0,AC d];exact Ep d;intro L;obtain⟨j,d,e⟩:=List.getElem_of_mem L;exact⟨j,d,by rw[B0,AC d];exact e⟩;obtain⟨o,_,_,_,e,_⟩:=n;exact⟨o,e⟩
def Mm (P:Program) (w:World):List V->Hp->VK->Prop:=λvs H Q=>∃(d:Addr)(ns:List Int),vs=[.ref d]/\H d=some (Ml P w d ns)/\(∀ds:List Int,ds.Nodup->(∀y∈ds,y∈ns)->ds.length<64)/\∀D(ms:List Int),ms.Pairwise (· < ·)->(∀y,y∈ms↔y∈ns)->H D=none->Q (.ref D) (upd H D (.lst (ms.map V.int)))
def d8(n:X.calm=true):Ba X (.builtin "sorted") (Mm X.prog X.w):=by
 intro pins s σ H J us Q I r h;obtain⟨d,K,rfl,hd,E,q⟩:=h;obtain⟨u,rfl,o⟩:=Fp r;obtain rfl:u=Value.ref d:=o;obtain⟨⟨f,g,i,p⟩,_,_⟩:=I.hok d _ hd;have t:=E f g λy e=>(i y).mp e;refine d5 (I.ok.hd n) p t λR L v tk k F c w j z A l B C=>?_
 have m:∀y,y∈c↔y∈f:=λy=>by
  rw[<-B y,Gh];exact⟨λ⟨x,a,b⟩=>by rw[<-eq_of_beq b];exact a,λa=>⟨y,a,by simp⟩⟩
 have D:c.Nodup:=Mk g (λy e=>(m y).mpr e) (Nat.le_of_eq l);have G:(c.map V.int).length<=sizeLine:=by rw[An,l];exact Dm (BK (by lia))
 exact⟨.ref R,upd H R (.lst (c.map V.int)),(I.drew v).laidN (t':=tk) w j ⟨G,F.toList,k,PK A,by rw[Array.toArray_toList];exact z⟩,rfl,q R c (JY C D) (λy=>(m y).trans (i y)) (I.freshN j)⟩
end
def E8 (gs:List (Str×Int)) (n:Int):List Int:=match gs[n.toNat]? with
 |some p=>if p.1=("sort" : Str) then[p.2] else[]
 |none=>[]
def FF (gs:List (Str×Int)) (as:List (C')) (q:Int):List Int:=match as[q.toNat]? with
 |some (some w)=>if w.1=("thing" : Str) then E8 gs w.2 else[]
 |_=>[]
def FY (W:Wd) (st:Int) (p:B8):List Int:=if p.2.1=("by" : Str)/\(En (DX W st) p.1).isSome=true then p.2.2::FF W.gs W.as p.2.2 else[]
def Bw (W:Wd) (b:AQ):List Int:=(BY W b.2.1).flatMap (FY W b.2.2)
def E9 (ss:List Bk) (w:List Aq):List Int:=if(Cs ss w).2.2.1=("by" : Str) then[(Cs ss w).2.2.2] else[]
def FM (W:Wd) (l:Lk):List Int:=l.1.flatMap (Bw W)++l.2.1.flatMap (E9 W.ss)
def CJ (W:Wd) (ls:List Lk) (ts:List Int):List Int:=ls.flatMap (FM W)++ts.flatMap (E8 W.gs)
def Gf (as as':List (C')) (U:List Int):Prop:=∀q∈U,as'[q.toNat]?=as[q.toNat]?
section
variable {ths:List (Str×Int)} {as as':List (C')}
def Xe{n:Int}{k:Str×Int}(h:ths[n.toNat]?=some k)(c:Gf as as' (E8 ths n)):Dr ths as' k=Dr ths as k:=by
 unfold Dr;by_cases b:k.1=("part" : Str);rw[Al b,Al b];rw[Ak b,Ak b];by_cases a:k.1=("sort" : Str);rw[Al a,Al a];have:as'[k.2.toNat]?=as[k.2.toNat]?:=c _ (by unfold E8;rw[h];dsimp only;rw[Al a];exact AZ.mpr rfl);unfold Ee;rw[this];rw[Ak a,Ak a]
def d9{p:B8}(h:p.2.1=("to" : Str)\/Gf as as' (p.2.2::FF ths as p.2.2)):BO ths as' p=BO ths as p:=by
 unfold BO;by_cases a:p.2.1=("to" : Str);rw[Al a,Al a];rw[Ak a,Ak a];have c:=h.resolve_left a;have d:=c _ BB;rw[d]
 cases e:as[p.2.2.toNat]? with
 |none=>rfl
 |some o =>
   cases o with
   |none=>rfl
   |some w =>
     dsimp only;by_cases b:w.1=("thing" : Str);rw[Al b,Al b]
     cases f:ths[w.2.toNat]? with
     |none=>rfl
     |some k =>
       refine Xe f λq g=>c q (Co _ ?_);unfold FF;rw[e];dsimp only;rw[Al b];exact g
     rw[Ak b,Ak b]
end
section
variable {W:Wd} {as':List (C')} {ord:A'} {sc st:Int}
theorem Xf{go:List (Str×Int)}{s:Int}:∀{l:List B8}{i:Nat},(∀p∈l,(En go p.1).isSome=true->BO W.gs as' p=BO W.gs W.as p)->Eo (W.late as') s go l i=Eo W s go l i
 |[],i,_=>rfl
 |p::l,i,h=>by
   show E3 (W.late as') s go p i++Eo (W.late as') s go l (i+1)=E3 W s go p i++Eo W s go l (i+1);rw[Xf λq b=>h q (Co _ b)];congr 1;unfold E3
   cases e:En go p.1 with
   |none=>rfl
   |some a=>dsimp only;rw[h p BB (by rw[e];rfl)]
def Xg(ok:B2 W)(f:Gf W.as as' (Bw W b)):GG (W.late as') b.2.1 b.2.2=GG W b.2.1 b.2.2:=by
 refine Xf λp d g=>d9 ?_
 have h:Fu W.ss.length W.as.length p:=by
  have a:p∈BY W b.2.1:=d;unfold BY at a
  cases e:W.ss[b.2.1.toNat]? with
  |none=>rw[e] at a;cases a
  |some s=>rw[e] at a;exact ok.kst s (Bl e) p a
 rcases h with⟨c,_⟩|⟨c,_⟩;exact .inl c;refine .inr λq i=>f q (List.mem_flatMap.mpr ⟨p,d,?_⟩);unfold FY;rw[Al ⟨c,g⟩];exact i
def JZ(ok:B2 W){bs:List AQ}(d:∀b,b∈bs↔AR W sc st b)(e:Gf W.as as' (bs.flatMap (Bw W)))(b:AQ):AR (W.late as') sc st b↔AR W sc st b:=by
 have kd:∀c,AR W sc st c->CA (W.late as') c=CA W c:=λc f=>by
  unfold CA;rw[Xg ok λq g=>e q (List.mem_flatMap.mpr ⟨c,(d c).mpr f,g⟩)]
 constructor;intro h
 induction h with
 |root=>exact .root
 |@kid b c _ k a=>rw[kd b a] at k;exact .kid a k
 intro h
 induction h with
 |root=>exact .root
 |@kid b c i k a=>rw[<-kd b i] at k;exact .kid a k
theorem Xh{b:AQ}{x:Str}:∀(l:List DO)(i:Nat),DQ (W.late as') b x l i=DQ W b x l i
 |[],_=>rfl
 |q::l,i=>by
   show Fy (W.late as') b x q i++DQ (W.late as') b x l (i+1)=Fy W b x q i++DQ W b x l (i+1);rw[Xh l (i+1)];rfl
def eA(bs:List AQ):DY (W.late as') x bs=DY W x bs:=by
 unfold DY;congr 1;funext b;exact Xh _ _
theorem Xi{α β:Type}{f g:α->List β}:∀{l:List α},(∀a∈l,f a=g a)->l.flatMap f=l.flatMap g
 |[],_=>rfl
 |a::l,h=>by rw[List.flatMap_cons,List.flatMap_cons,h a BB,Xi λb c=>h b (Co _ c)]
def Qr(ok:B2 W){l:Lk}(h:CH W ord sc st x l os)(a:Gf W.as as' (l.1.flatMap (Bw W))):CH (W.late as') ord sc st x l os:=by
 refine⟨⟨λb=>(h.b.mem b).trans (JZ ok h.b.mem a b).symm,h.b.nd,h.b.srt,h.b.few⟩,⟨by rw[eA];exact h.f.perm,h.f.srt⟩,h.s,⟨?_,h.o.srt⟩⟩
 have:Gd (W.late as') l.1=Gd W l.1:=by
  unfold Gd;refine Xi λb c=>?_;rw[Xg ok λq d=>a q (List.mem_flatMap.mpr ⟨b,c,d⟩)]
 rw[this];exact h.o.perm
def eF(a:Gf W.as as' (E9 W.ss w)):FC (W.late as') w=FC W w:=by
 unfold FC
 show(if(Cs W.ss w).2.2.1=("by" : Str)/\as'[(Cs W.ss w).2.2.2.toNat]?=some none then some (Cs W.ss w).2.2.2 else none)=_
 by_cases c:(Cs W.ss w).2.2.1=("by" : Str);rw[a _ (by unfold E9;rw[Al c];exact AZ.mpr rfl)];rw[Ak λz=>c z.1,Ak λz=>c z.1]
set_option tactic.hygienic true in
def eH(b:Bn W)(c:Du W.ss w)(d:Gf W.as as' (E9 W.ss w)):Bz (W.late as') w=Bz W w:=by
 unfold Bz
 show(if(Cs W.ss w).2.2.1=("thing" : Str) then some (Cs W.ss w).2.2.2 else match as'[(Cs W.ss w).2.2.2.toNat]? with
  |some (some p)=>if p.1=("thing" : Str) then some p.2 else none
  |_=>none)=_
 rcases Np b c with⟨a,_⟩|⟨a,_⟩;rw[Al a,Al a]
 rw[d _ (by unfold E9;rw[Al a];exact AZ.mpr rfl)]<;>(cases W.as[(Cs W.ss w).2.2.2.toNat]?<;>first|rfl|(rename_i o;cases o<;>rfl))
theorem Xj:∀{ws:List (List Aq)},(∀w∈ws,FC (W.late as') w=FC W w)->FD (W.late as') ws=FD W ws
 |[],_=>rfl
 |w::ws,h=>by
   unfold FD;rw[h w BB,Xj λv hv=>h v (Co _ hv)]
def Qs(ok:B2 W)(e:Bn W)(i:0<=sc/\sc<W.ss.length)(j:0<=st/\st<W.sts.length){l:Lk}(h:CH W ord sc st x l os)(f:Gf W.as as' (l.2.1.flatMap (E9 W.ss)))(at_:Int):Ce (W.late as') ord l.2.1 os at_=Ce W ord l.2.1 os at_:=by
 have sub:∀w∈CS W.ss ord l.2.1 l.2.1,w∈l.2.1:=λw a=>Qi a;have c:∀w∈l.2.1,Gf W.as as' (E9 W.ss w):=λw a q g=>f q (List.mem_flatMap.mpr ⟨w,a,g⟩)
 have d:Ew (W.late as') ord l.2.1 os=Ew W ord l.2.1 os:=by
  unfold Ew
  show(match FL W.ss ord l.2.1 os with|some o=>some o|none=>FD (W.late as') (CS W.ss ord l.2.1 l.2.1))=_
  rw[Xj λw a=>eF (c w (sub w a))]<;>(cases FL W.ss ord l.2.1 os<;>rfl)
 cases b:Ew W ord l.2.1 os with
 |some o=>rw[Nn b,Nn (d.trans b)]
 |none =>
   rw[JI b,JI (d.trans b)];have:Dh (W.late as') (CS W.ss ord l.2.1 l.2.1) at_=Dh W (CS W.ss ord l.2.1 l.2.1) at_:=WU at_ λw a=>eH e (JR ok i j h w (sub w a)) (c w (sub w a));rw[<-this]
def TN{n:Int}(a:Gf W.as as' (E8 W.gs n)):CI (W.late as') n=CI W n:=by
 unfold CI
 show(match W.gs[n.toNat]? with|some p=>Dr W.gs as' p|none=>(("no" : Str),(0:Int)))=_
 cases e:W.gs[n.toNat]? with
 |none=>rfl
 |some p=>exact Xe e a
end
def Gf.sub{U V:List Int}(h:Gf as as' U)(s:∀q∈V,q∈U):Gf as as' V:=λq a=>h q (s q a)
def Mn(ok:B2 W)(g:Bn W)(v:0<=inn/\inn<W.sts.length){at_:Int}{p:List Str}{w:Option Wt}(k:LU W inn ord sc st p at_ a w ls ts) :
 0<=sc/\sc<W.ss.length->0<=st/\st<W.sts.length->Gf W.as as' (CJ W ls ts)->LU (W.late as') inn ord sc st p at_ a w ls ts:=by
 have j:∀{l:Lk}{ls:List Lk}{ts:List Int},∀q∈l.1.flatMap (Bw W),q∈CJ W (l::ls) ts:=λq b=>Ek _ (List.mem_flatMap.mpr ⟨_,BB,Ek _ b⟩);have m:∀{l:Lk}{ls:List Lk}{ts:List Int},∀q∈l.2.1.flatMap (E9 W.ss),q∈CJ W (l::ls) ts:=λq b=>Ek _ (List.mem_flatMap.mpr ⟨_,BB,Dj _ b⟩);have o:∀{n:Int}{ls:List Lk}{ts:List Int},∀q∈E8 W.gs n,q∈CJ W ls (n::ts):=λq b=>Dj _ (List.mem_flatMap.mpr ⟨_,BB,b⟩)
 induction k with
 |stop h e n=>exact λd f c=>.stop (Qr ok h (c.sub j)) ((Qs ok g d f h (c.sub m) _).trans e) n
 |opn h e i=>exact λd f c=>.opn (Qr ok h (c.sub j)) ((Qs ok g d f h (c.sub m) _).trans e) ((TN (c.sub o)).trans i)
 |no h e i=>exact λd f c=>.no (Qr ok h (c.sub j)) ((Qs ok g d f h (c.sub m) _).trans e) ((TN (c.sub o)).trans i)
 |go h e i x t =>
   intro d f c;have u:=K0 ok g (JR ok d f h) e;refine .go (Qr ok h (c.sub j)) ((Qs ok g d f h (c.sub m) _).trans e) ((TN (c.sub o)).trans i) (t (Qn ok u i) v (c.sub λq b=>?_));rcases BI.mp b with b|b;obtain⟨r,s,b⟩:=List.mem_flatMap.mp b;exact Ek _ (List.mem_flatMap.mpr ⟨r,Co _ s,b⟩);obtain⟨r,s,b⟩:=List.mem_flatMap.mp b;exact Dj _ (List.mem_flatMap.mpr ⟨r,Co _ s,b⟩)
section
variable {X:Cx}
def OO:R2:=λx y H Q=>∃l xs n,x=.ref l/\y=.int n/\H l=some (.lst xs)/\(0<=n/\n<=1000)/\xs.length*n.toNat<=1000/\∀p,H p=none->Q (.ref p) (upd H p (.lst (List.replicate n.toNat xs).flatten))
theorem Xk:∀(n:Nat){xs:List V}{us:List Value},As xs us->As (List.replicate n xs).flatten (List.replicate n us).flatten
 |0,_,_,_=>.nil
 |n+1,xs,us,h=>by
   rw[List.replicate_succ,List.replicate_succ,List.flatten_cons,List.flatten_cons];exact h.append (Xk n h)
theorem Xl:Dc X (binaryOp .Mult) OO:=by
 intro w s σ H x y v u Q I i j h;obtain⟨l,xs,n,rfl,rfl,k,p,d,q⟩:=h;obtain rfl:v=Value.ref l:=i;obtain⟨t,rfl⟩:=j;obtain⟨z,b,c,f,e⟩:=(show AB X.prog X.w _ s.heap l (.lst xs) from I.hok l _ k);have g:=f.length
 have r:b.toArray.size*n.toNat<=1000:=by rw[Ck,<-g];exact d
 have A:b.length*n.toNat<=1000:=by rw[<-g];exact d
 refine wpAny_binaryOp_repeat_ref (T:= "list") (U:= "int") (by decide) ⟨_,e,rfl⟩ (λZ=>typeIs_int Z n t) noFill_list_mul F.fills_int_mul F.slot_int_rmul repeat_list F.slot_int_index.lookup
  (call_meets F.slot_int_rmul (typeIs_int s n t) F.entry_int_rmul (F.args_int_rmul_2 _ _) (int___rmul___int_list n t l b.toArray c)
   ⟨e,rfl,⟨_,e,rfl⟩,call_meets F.slot_list_mul ⟨_,e,rfl⟩ F.entry_list_mul (F.args_list_mul_2 _ _) (AutoListH.list___mul___list_int_3 l b.toArray c n t (by simp[Builtin.List.listFitsIndex];lia) (by lia) (by simp[Builtin.List.listTooLong,sizeLine];lia)) ⟨e,?_⟩⟩)
 rw[listMul_foldl_if];have m:=Xk n.toNat f;refine⟨.ref s.heap.objs.size,_,I.laid (a:=s.heap.objs.size) (o:=.lst (List.replicate n.toNat xs).flatten) (t':=s.toks) (λζ ζ q=>Be _ q) (AD _) ⟨?_,_,0,m,B9 _ rfl⟩,rfl,q _ (I.hok.fresh (AD _))⟩;rw[List.length_flatten,List.map_replicate,List.sum_replicate_nat,Nat.mul_comm];exact Dm (BK (by lia))
def OP:List V->Hp->VK->Prop:=λvs H Q=>∃n:Int,vs=[.int n]/\∀p,H p=none->Q (.ref p) (upd H p (.rng 0 n))
def eI:Ba X (.type "range") OP:=by
 intro d s σ H c us Q I r h;obtain⟨n,rfl,q⟩:=h;obtain⟨u,rfl,b⟩:=Fp r;obtain⟨t,rfl⟩:=b;refine call_range_1 ⟨.ref s.heap.objs.size,_,I.laid (a:=s.heap.objs.size) (o:=.rng 0 n) (t':=s.toks+1+1) (λζ ζ q=>Be _ q) (AD _) ⟨_,_,_,B9 _ rfl⟩,rfl,q _ (I.hok.fresh (AD _))⟩
def Mo:List V->Hp->VK->Prop:=λvs H Q=>∃(p:Addr)(n:Nat),vs=[.ref p]/\H p=some (.rng 0 (n:Int))/\n<=1000/\∀l,H l=none->Q (.ref l) (upd H l (.lst ((List.range n).map λi:Nat=>V.int i)))
def eJ(j:X.calm=true):Ba X (.type "list") Mo:=by
 intro D s σ H z us Q I r h;obtain⟨p,n,rfl,k,A,q⟩:=h;obtain⟨u,rfl,l⟩:=Fp r;obtain rfl:u=Value.ref p:=l;obtain⟨t,B,v,e⟩:=(show AB X.prog X.w _ s.heap p (.rng 0 (n:Int)) from I.hok p _ k)
 have m:Builtin.Range.rangeSize 0 (n:Int) 1=n:=by rw[rangeSize_one];split<;>lia
 refine call_list_range (n:=n) (I.ok.hd j) e (small_one (by lia) (by lia) (by lia) (by lia)) m (by lia) λC tk d c w x f=>?_
 have y:IntsAre d.toList ((List.range n).map λi:Nat=>(i:Int)):=Xa (by simp[f.1]) λi v b=>by
  have g:i<d.size:=by
   have:=(A8.mp b).1;simpa using this
  obtain⟨t,e⟩:=f.2 i v (by rw[<-Array.getElem?_toList];exact b);rw[f.1] at g;refine⟨t,?_⟩;rw[e,B0,Bh,List.getElem?_range g]
  simp
 have b:=PK y;rw[DK] at b;refine⟨.ref s.heap.objs.size,_,I.laid (a:=s.heap.objs.size) (o:=.lst ((List.range n).map λi:Nat=>V.int i)) (t':=tk) w (AD _) ⟨?_,d.toList,c,b,by rw[Array.toArray_toList];exact x⟩,rfl,q _ (I.hok.fresh (AD _))⟩;rw[An,List.length_range];exact Dm (BK (by lia))
def Mp (H:Hp) (xs:List V) (ps:List (AN×V)):Prop:=Paired (λx(p:AN×V)=>∃t,x=.ref t/\H t=some (.tup [kV p.1,p.2])) xs ps
def eK{pins:B'}{R:Result->Shared->Prop}{p l f:Addr}(W:A.in1.handled=none)(k:H p=none)(E:f≠p) :
 ∀(xs:List V)(ps:List (AN×V))(d:List V)(acc:List (AN×V))(s:Shared),Mp H xs ps->H l=some (.lst (d++xs))->acc.length+xs.length<=sizeLine->Inv X pins σ (upd H p (.dK acc)) s ->
 s.heap.IsListIter f l d.length->Ec X pins H f->(∀Z,Inv X pins σ (upd H p (.dK (KJ acc ps))) Z->R (.ok (.ret .none)) Z)->∀n:Int,
 codeAny (model X.prog X.w) A (.builtin "dict.update.loop" ⟨[.ref p,.ref f,rawInt n,.none],[]⟩) R s:=by
 intro xs ps d acc s Y
 induction Y generalizing d acc s with
 |nil =>
   intro g J I st j m n;have F:upd H p (.dK acc) l=some (.lst (d++[])):=(AE (AK g k)).trans g;obtain⟨r,u,aa,v,w,y⟩:=j;have G:upd H p (.dK acc) f=none:=(AE E).trans r;obtain⟨z,Q,c,B,e⟩:=(show AB X.prog X.w _ s.heap l (.lst (d++[])) from I.hok l _ F);have ai:=B.length;rw[FH] at ai;refine codeAny_builtin PySem.F.entry_upd_loop ?_;rw[Around.under_plainId PySem.F.plain_upd_loop _];show wpAny _ A.in1 (pyNext (.ref f) >>= _) _ _ s;refine Ad (wpAny_pyNext_list_end W st ⟨_,e,rfl,c,rfl⟩ (by simp;lia) λh eb=>?_);exact Ad (Aw (Aw (m _ (I.turned (t':=s.toks) (λb o C e=>eb b o C e) G u v w y))))
 |@cons x q xs ps hq tl ih =>
   intro g J I st j m n;obtain⟨t,rfl,K⟩:=hq;have F:upd H p (.dK acc) l=some (.lst (d++.ref t::xs)):=(AE (AK g k)).trans g;have ab:upd H p (.dK acc) t=some (.tup [kV q.1,q.2]):=(AE (AK K k)).trans K;obtain⟨r,u,aa,v,w,y⟩:=id j;have G:upd H p (.dK acc) f=none:=(AE E).trans r;obtain⟨z,Q,c,B,e⟩:=(show AB X.prog X.w _ s.heap l (.lst (d++.ref t::xs)) from I.hok l _ F);obtain⟨aj,ae,ru⟩:=B.get (i:=d.length) (x:=.ref t) (by simp);cases ru;refine codeAny_builtin PySem.F.entry_upd_loop ?_;rw[Around.under_plainId PySem.F.plain_upd_loop _];show wpAny _ A.in1 (pyNext (.ref f) >>= _) _ _ s;refine Ad (wpAny_pyNext_list_item st (⟨_,e,rfl,c,rfl⟩:s.heap.IsList l Q.toArray) (x:=.ref t) (by simpa using ae) λh af sb=>?_);have D:Inv X pins σ (upd H p (.dK acc)) {s with heap:=h}:=I.turned (t':=s.toks) (λb o C e=>(sb.2 b C).trans e) G u v w y;obtain⟨_,ts,rt,ot,L,ct,nt,dt⟩:=(show AB X.prog X.w _ h t (.tup [kV q.1,q.2]) from D.hok t _ ab);obtain⟨M,N,rfl,r1,r2⟩:=Jd rt;obtain⟨zd,hm,es,S,dd⟩:=KH D.hok (Aa (H:=H) (a:=p) (o:=.dK acc))
   have ag:es.length<=sizeLine:=by rw[<-S.length];exact zd
   have ak:(A0 acc q.1 q.2).length<=acc.length+1:=Of acc q.1 q.2;rw[El] at J;refine Ad (Fl (Ad (wpAny_tryCatch ?_)));show wpAny _ A.in1 (Builtin.Dict.pairItems (.ref t)) _ _ _;unfold Builtin.Dict.pairItems;refine Ad (M5 (s:={s with heap:=h}) (T:= "tuple") ⟨ot,L,ct⟩ ?_);rw[Al (by decide)];refine Ad (Gk (s:={s with heap:=h}) L dt (Aw ?_));show wpAny _ A.in1 (holding [M,N] (dictSet p M N)) _ _ _;have ah:(A0 acc q.1 q.2).length<=sizeLine:=(by lia);refine Fl (wpAny_dictSet_pairs (hsz:=ag) (Nb r1) dd λO U P=>?_);have he:∃o,O.get? p=some o:=let ⟨o,_,_,ho,_⟩:=U;⟨o,ho⟩
   have I2:∀tk,Inv X pins σ (upd H p (.dK (A0 acc q.1 q.2))) {s with heap:=O,toks:=tk}:=λtk=>by
    have:=Og (t':=tk) (ob:=.dK (A0 acc q.1 q.2)) D (by rw[Aa];exact True.intro) P he (HC ah hm (S.put q.1 r2) U);rw[UR] at this;exact this
   refine Aw ⟨plainId_quiet PySem.F.plain_upd_loop _,?_⟩;have:=ih (d++[.ref t]) (A0 acc q.1 q.2) _ (by rw[F5];exact g) (by lia) (I2 (s.toks+1)) (by rw[AY];exact af.at λo e=>(P.2 f E).trans e) j m (n+1);exact this
def Mq:List V->Hp->VK->Prop:=λvs H Q=>∃l xs ps,vs=[.ref l]/\H l=some (.lst xs)/\xs.length<sizeLine/\Mp H xs ps/\∀p,H p=none->Q (.ref p) (upd H p (.dK (KJ [] ps)))
def eQ(j:X.calm=true):Ba X (.type "dict") Mq:=by
 intro pins s σ H G us Q I r h;obtain⟨l,xs,x,rfl,k,J,y,q⟩:=h;obtain⟨u,rfl,B⟩:=Fp r;cases B;have m:H s.heap.objs.size=none:=I.hok.fresh (AD _);refine callType_codes (Q₁:=λv n=>v=.ref s.heap.objs.size/\n={s with heap:=s.heap.push {cls:=.type "dict",data:=.dict #[]}}) PySem.F.kt_called_dict (PySem.F.kt_typeCall_dict_1 _) PySem.F.entry_dict_init (kt_code_dict_new _ ⟨rfl,rfl⟩) ?_;rintro v n ⟨rfl,rfl⟩;have C:=I.laid (a:=s.heap.objs.size) (o:=.dK []) (t':=s.toks) (h':=s.heap.push {cls:=.type "dict",data:=.dict #[]}) (λζ ζ q=>Be _ q) (AD _) (Vn s.heap I.big)
 obtain⟨z,L,c,K,e⟩:=(show AB X.prog X.w _ s.heap l (.lst xs) from I.hok l _ k)
 have f:=Be {cls:=.type "dict",data:=.dict #[]} e;have p:Shared.TypeIs {s with heap:=s.heap.push {cls:=.type "dict",data:=.dict #[]}} (.ref s.heap.objs.size) "dict" :=⟨_,B9 _ rfl,rfl⟩;refine⟨p,PySem.F.args_dict_init_2 _ _,?_⟩;unfold Builtin.«dict.__init__»;refine Ad ?_;unfold Builtin.Dict.selfAndRest;refine Ad (wpAny_notOrdered_dict p ?_);show wpAny _ _ (pure (s.heap.objs.size,[Value.ref l])) _ _ _;refine Aw ?_;show wpAny _ _ (Builtin.Dict.updateFrom "dict.__init__" s.heap.objs.size (.ref l) [] .none) _ _ _;unfold Builtin.Dict.updateFrom;refine Ad (M5 (T:= "list") ⟨_,f,rfl⟩ ?_)
 rw[Al (by decide)];refine Ad (Wf f rfl rfl rfl (I.ok.hd j) λd tk t=>?_);rw[Al (show(none:Option Value).isNone=true from rfl)];have g:=C.kept (t':=tk) t;refine Ad (Hi (Ad (wpAny_pyIter_list (s:={s with heap:=d,toks:=tk}) ⟨_,t _ _ f,rfl,c,rfl⟩ ?_)))
 have D:=g.kept (t':=tk) (h':=d.push {cls:=.type "list_iterator",data:=.fields #[.ref l,.int 0 0]}) λb o e=>Be _ e;obtain⟨i,E⟩:=g.fpOk (AD d.objs.size) (g.hok.fresh (AD _));have w:d.objs.size≠s.heap.objs.size:=λz=>by rw[z,Aa] at i;cases i
 refine Aw ⟨plainId_quiet PySem.F.plain_upd_loop _,eK (A:=X.A.in1) (X:=X) (pins:=pins) (σ:=σ) (l:=l) (H:=H) (I.ok.hd j) m w xs x [] [] _ y k (by rw[Gx];lia) D ⟨_,B9 _ rfl,rfl,rfl⟩ ⟨(AE w).symm.trans i,E⟩ (λZ F=>⟨rfl,.ref _,_,F,rfl,q _ m⟩) 0⟩
end
abbrev AH:Type:=C'
def Fd (W:Wd) (inn:Int) (ord:A') (q:Qu) (as:List AH) (a:AH):Prop:=∃(w:Option Wt)(ls:List Lk)(ts:List Int),LU (W.late as) inn ord q.1 q.2.1 q.2.2 0 a w ls ts
structure G0 (W:Wd) (qs:List Qu) (as:List AH):Prop where
 len:as.length=qs.length
 rng:∀p,some p∈as->p.1=("thing" : Str)->0<=p.2/\p.2<W.gs.length
structure SOk (W:Wd) (qs:List Qu) (inn:Int) (ord:A'):Prop where
 all:∀as,G0 W qs as->Qk (W.late as) qs inn ord
 tr:∀x y z,(x,y)∈ord->(y,z)∈ord->(x,z)∈ord
structure FZ (W:Wd) (qs:List Qu) (inn:Int) (ord:A') (as as':List AH):Prop where
 len:as'.length=as.length
 old:∀(k:Nat)(p:Str×Int),as[k]?=some (some p)->as'[k]?=some (some p)
 new:∀(k:Nat)(q:Qu),qs[k]?=some q->as[k]?=some none->∃a,Fd W inn ord q as a/\as'[k]?=some a
inductive Run (W:Wd) (qs:List Qu) (inn:Int) (ord:A'):Nat->List AH->List Int->Prop where
 |zero:Run W qs inn ord 0 (List.replicate qs.length none) (List.replicate qs.length 0)
 |succ {n:Nat} {as as':List AH} {ts ts':List Int} (h:Run W qs inn ord n as ts) (e:n=0\/∃k:Nat,ts[k]?=some (n:Int)) (x:FZ W qs inn ord as as') (l:ts'.length=ts.length)
  (t:∀k:Nat,k<qs.length->ts'[k]?=if as[k]?=some none/\as'[k]?≠some none then some ((n:Int)+1) else ts[k]?):Run W qs inn ord (n+1) as' ts'
section
variable {W:Wd} {qs:List Qu} {inn:Int} {ord:A'} {n:Nat} {as as':List AH} {ts:List Int}
def FZ.late(h:FZ W qs inn ord as as'):Later as as':=⟨h.len,h.old⟩
def Mr{V:Wd}(ok:B2 V)(g:Bn V)(o:0<=inn/\inn<V.sts.length){at_:Int}{p:List Str}{a:AH}{w:Option Wt}(k:LU V inn ord sc st p at_ a w ls ts):(0<=sc/\sc<V.ss.length)->(0<=st/\st<V.sts.length)->∀x,a=some x->x.1=("thing" : Str)->0<=x.2/\x.2<V.gs.length:=by
 induction k with
 |stop h e n =>
   rintro d f ⟨y,m⟩ rfl j;cases(show y=_ from j);exact K0 ok g (JR ok d f h) e
 |opn h e i=>intro _ _ x b;cases b
 |no h e i =>
   intro _ _ x b c;cases b
   exact absurd (show("none" : Str)=_ from c) Ts
 |go h e i q l=>exact λd f x b c=>l (Qn ok (K0 ok g (JR ok d f h) e) i) o x b c
def Xm{p:Str×Int}{l:List AH}(h:some p∈l):∃k:Nat,l[k]?=some (some p):=List.mem_iff_getElem?.mp h
def FZ.aok(G:SOk W qs inn ord)(h:G0 W qs as)(x:FZ W qs inn ord as as'):G0 W qs as':=by
 refine⟨x.len.trans h.len,λp f c=>?_⟩;obtain⟨k,b⟩:=Xm f;have n:k<as.length:=by rw[<-x.len];exact(A8.mp b).1
 cases e:as[k]? with
 |none=>rw[List.getElem?_eq_none_iff] at e;lia
 |some o =>
   cases o with
   |some g =>
     have:=x.old k g e;rw[b] at this;cases this;exact h.rng p (Bl e) c
   |none =>
     have i:=AC (show k<qs.length by rw[<-h.len];exact n);obtain⟨a,⟨w,ls,ts,j⟩,d⟩:=x.new k _ i e;have L:=G.all as h;obtain⟨l,m,_⟩:=L.q _ (Ep _);rw[b] at d;exact Mr L.ok L.sm L.inn j l m p (AO d).symm c
def Run.aok(G:SOk W qs inn ord)(h:Run W qs inn ord n as ts):G0 W qs as/\ts.length=qs.length:=by
 induction h with
 |zero=>exact⟨⟨List.length_replicate,λp b ζ=>by cases List.eq_of_mem_replicate b⟩,List.length_replicate⟩
 |succ h e x l t a=>exact⟨x.aok G a.1,l.trans a.2⟩
def Run.at_(G:SOk W qs inn ord)(h:Run W qs inn ord n as ts):∀k:Nat,k<qs.length->(as[k]?=some none/\ts[k]?=some 0)\/∃(p:Str×Int)(m:Nat),as[k]?=some (some p)/\ts[k]?=some (m:Int)/\1<=m/\m<=n:=by
 induction h with
 |zero=>intro k b;exact .inl ⟨by rw[List.getElem?_replicate,Al b],by rw[List.getElem?_replicate,Al b]⟩
 |@succ n as as' ts r h e x l t i =>
   intro k b;have o:=(h.aok G).1;rcases i k b with⟨d,g⟩|⟨p,m,d,g,j,q⟩;obtain⟨a,_,f⟩:=x.new k _ (AC b) d;have c:=t k b
   cases a with
   |none=>rw[Ak (λz=>z.2 f),g] at c;exact .inl ⟨f,c⟩
   |some p=>rw[Al ⟨d,by rw[f];simp⟩] at c;exact .inr ⟨p,n+1,f,by rw[c];push_cast;rfl,by lia,by lia⟩
   have c:=t k b;rw[Ak (λz=>by rw[d] at z;cases z.1),g] at c;exact .inr ⟨p,m,x.old k p d,c,j,by lia⟩
def J1(G:SOk W qs inn ord)(c:G0 W qs as)(d:Later as as'){k:Nat}{q:Qu}(e:qs[k]?=some q){p:Str×Int}{b:AH}(h:Fd W inn ord q as (some p))(h':Fd W inn ord q as' b):b=some p:=by
 obtain⟨w,ls,m,a⟩:=h;obtain⟨l,n,o,j⟩:=h';have L:=G.all as c;obtain⟨f,g,_⟩:=L.q _ (Bl e)
 have i:w=none:=by
  rcases dC a with⟨z,_⟩|⟨_,z⟩;cases z;exact z
 exact(JS (W:=W.late as) (as':=as') L.irr G.tr d L.ok L.sm L.inn a i f g j).1
def Qt{q:Qu}{a b:AH}(h:Fd W inn ord q as a)(h':Fd W inn ord q as b):a=b:=by
 obtain⟨_,_,_,c⟩:=h;obtain⟨_,_,_,d⟩:=h';exact(JL c d).1
def Run.found(G:SOk W qs inn ord)(h:Run W qs inn ord n as ts):∀(k:Nat)(q:Qu)(p:Str×Int),qs[k]?=some q->as[k]?=some (some p)->∃B,G0 W qs B/\Later B as/\Fd W inn ord q B (some p):=by
 induction h with
 |zero=>intro k q p _ e;rw[List.getElem?_replicate] at e;split at e<;>cases e
 |@succ n as as' ts z h e x l t i =>
   intro k q p c e;have d:=(h.aok G).1;have y:k<qs.length:=(A8.mp c).1
   cases b:as[k]? with
   |none=>rw[List.getElem?_eq_none_iff,d.len] at b;lia
   |some o =>
     cases o with
     |some m =>
       have:=x.old k m b;rw[e] at this;cases this;obtain⟨B,s,f,u⟩:=i k q p c b;exact⟨B,s,⟨x.len.trans f.len,λj r v=>x.old j r (f.old j r v)⟩,u⟩
     |none =>
       obtain⟨a,w,g⟩:=x.new k q c b;rw[e] at g;cases g;exact⟨as,d,x.late,w⟩
def Run.still(G:SOk W qs inn ord)(h:Run W qs inn ord n as ts)(g:FZ W qs inn ord as as){k:Nat}{q:Qu}(c:qs[k]?=some q){b:AH}(d:Fd W inn ord q as b):as[k]?=some b:=by
 have i:=(h.aok G).1;have s:k<as.length:=by rw[i.len];exact(A8.mp c).1
 cases e:as[k]? with
 |none=>rw[List.getElem?_eq_none_iff] at e;lia
 |some o =>
   cases o with
   |none =>
     obtain⟨a,j,f⟩:=g.new k q c e;rw[e] at f;cases f;rw[Qt d j]
   |some p =>
     obtain⟨B,l,m,r⟩:=h.found G k q p c e;rw[J1 G l m c r d]
end
def qA (gs:List (Str×Int)):C'->List Int
 |some w=>if w.1=("thing" : Str) then E8 gs w.2 else[]
 |none=>[]
def J2{gs:List (Str×Int)}{k:Nat}{o:C'}(h:as[k]?=some o):FF gs as (k:Int)=qA gs o:=by
 unfold FF;rw[Bo,h];cases o<;>rfl
section
variable {F:Addr->Prop} {H:Hp} {v:V} {d e f:Dt}
def Nq{i:Int}(h:Bd F H v (.int i)):v=.int i:=by cases h;rfl
def Ms(h:Bd F H v (.str x)):v=.str x:=by cases h;rfl
def Qv(h:Bd F H v (.tup [d,e,f])):∃t x y z,v=.ref t/\H t=some (.tup [x,y,z])/\Bd F H x d/\Bd F H y e/\Bd F H z f:=by
 cases h with
 | tup h t =>
   cases t with
   |cons a t =>
     cases t with
     |cons b t =>
       cases t with
       |cons c t =>
         cases t with
         |nil=>exact⟨_,_,_,_,rfl,h,a,b,c⟩
def TQ{b:List Dt}(h:Bd F H v (.lst b)):∃a vs,v=.ref a/\H a=some (.lst vs)/\Ax F H vs b:=by
 cases h with
 |lst h f t=>exact⟨_,_,rfl,h,t⟩
def Mt(h:Bd F H v (DS.D b)):∃t x,v=.ref t/\H t=some (.tup [x,.int b.2.1,.int b.2.2]):=by
 obtain⟨t,x,y,z,c,a,_,d,e⟩:=Qv (show Bd F H v (.tup [CG.D b.1,.int b.2.1,.int b.2.2]) from h);rw[Nq d,Nq e] at a;exact⟨t,x,c,a⟩
def OQ(h:Bd F H v (P5 m)):∃t,v=.ref t/\H t=some (.tup (GY m)):=by
 obtain⟨t,x,y,z,b,a,c,d,e⟩:=Qv h;rw[Nq c,Ms d,Nq e] at a;exact⟨t,b,a⟩
theorem Ax.app_inv:∀{es b:List Dt}{vs:List V},Ax F H vs (es++b)->∃xs ys,vs=xs++ys/\Ax F H ys b
 |[],_,vs,h=>⟨[],vs,rfl,h⟩
 |_::es,_,_,.cons a t=>by
   obtain⟨xs,ys,e,h⟩:=Ax.app_inv (es:=es) t;exact⟨_::xs,ys,by rw[e];rfl,h⟩
def J3(h:Bd F H v (CG.D (w++[m]))):∃a vs t,v=.ref a/\H a=some (.lst vs)/\Bv vs (-1)=some (.ref t)/\H t=some (.tup (GY m)):=by
 obtain⟨a,vs,c,d,b⟩:=TQ (show Bd F H v (.lst ((w++[m]).map P5)) from h);rw[Br] at b;obtain⟨xs,g,rfl,e⟩:=b.app_inv
 cases e with
 |cons a t =>
   cases t with
   |nil =>
     obtain⟨t,rfl,f⟩:=OQ a;exact⟨_,_,t,c,d,S1 _ _,f⟩
def J4{f:α->Dt}{l:List α}{vs:List V}(h:Ax F H vs (l.map f))(hv:vs[i]?=some v):∃b,l[i]?=some b/\Bd F H v (f b):=by
 obtain⟨d,a,c⟩:=h.get hv;rw[Bh] at a;obtain⟨b,e,rfl⟩:=EX.mp a;exact⟨b,e,c⟩
end
def Mu(h:n<=9000):n<sizeLine:=Nat.lt_of_le_of_lt h (by decide)
theorem Nr{α β:Type}{f:α->List β}{n:Nat}:∀{l:List α},(∀a∈l,(f a).length<=n)->(l.flatMap f).length<=n*l.length
 |[],_=>Cm _
 |a::l,h=>by
   have d:=h a BB;have e:=Nr λb c=>h b (Co _ c);rw[List.flatMap_cons,AY,El,Nat.mul_succ];lia
def OR{β:Type}{f:α->List β}{l:List α}{a:α}(h:l[i]?=some a):(l.take (i+1)).flatMap f=(l.take i).flatMap f++f a:=by
 rw[DV,h];show(l.take i++[a]).flatMap f=_;rw[List.flatMap_append]
 simp
def OS{β:Type}{f:α->List β}{l:List α}(i:Nat):((l.take i).flatMap f).length<=(l.flatMap f).length:=by
 have:l.flatMap f=(l.take i).flatMap f++(l.drop i).flatMap f:=(by rw[<-List.flatMap_append,List.take_append_drop]);rw[this,AY];lia
def TR(gs:List (Str×Int))(n:Int):(E8 gs n).length<=1:=by
 unfold E8;split;split<;>simp
 simp
def Mv(gs:List (Str×Int))(o:C'):(qA gs o).length<=1:=by
 unfold qA;split;split;exact TR _ _
 simp
 simp
def eR(gs:List (Str×Int))(as:List (C'))(q:Int):(FF gs as q).length<=1:=by
 unfold FF;split;split;exact TR _ _
 simp
 simp
def eS(W:Wd)(st:Int)(p:B8):(FY W st p).length<=2:=by
 unfold FY;have:=eR W.gs W.as p.2.2;split;rw[El];lia
 simp
def eV(ss:List Bk)(w:List Aq):(E9 ss w).length<=1:=by
 unfold E9;split<;>simp
def eW{b:Int}{p:B8}(a:p∈BY W b):∃s∈W.ss,p∈s.1:=by
 unfold BY at a
 cases e:W.ss[b.toNat]? with
 |none=>rw[e] at a;cases a
 |some s=>rw[e] at a;exact⟨s,Bl e,a⟩
def eX(a:∀s∈W.ss,s.1.length<=3)(b:AQ):(Bw W b).length<=6:=by
 unfold Bw;have c:=Nr (f:=FY W b.2.2) (n:=2) (l:=BY W b.2.1) λp ζ=>eS W b.2.2 p
 have d:(BY W b.2.1).length<=3:=by
  unfold BY
  cases e:W.ss[b.2.1.toNat]? with
  |none=>exact Cm _
  |some s=>exact a s (Bl e)
 lia
structure Ii (W:Wd) (l:Lk):Prop where
 b:l.1.length<=62
 f:l.2.1.length<=62
 bo:∀b∈l.1,Cc W b
 en:∀w∈l.2.1,Du W.ss w
def Qw(ok:B2 W)(d:Bn W){l:Lk}(a:0<=sc/\sc<W.ss.length)(c:0<=st/\st<W.sts.length)(h:CH W ord sc st x l os):Ii W l:=by
 refine⟨h.b.few,?_,λb e=>((h.b.mem b).mp e).ok ok a c,JR ok a c h⟩;have f:=h.f.perm.length_eq;have g:=d.fnd x sc st _ a c h.b;lia
def eY(ok:B2 W)(f:Bn W)(r:0<=inn/\inn<W.sts.length){at_:Int}{p:List Str}{w:Option Wt}(k:LU W inn ord sc st p at_ a w ls ts) :
 0<=sc/\sc<W.ss.length->0<=st/\st<W.sts.length->(∀l∈ls,Ii W l)/\(∀n∈ts,0<=n/\n<W.gs.length)/\ts.length<=ls.length:=by
 induction k with
 |stop h e n=>exact λb c=>⟨λl d=>by rw[AZ.mp d];exact Qw ok f b c h,(λζ z=>by cases z),Cm _⟩
 |opn h e i=>exact λb c=>⟨λl d=>by rw[AZ.mp d];exact Qw ok f b c h,λn g=>by rw[AZ.mp g];exact K0 ok f (JR ok b c h) e,AD _⟩
 |no h e i=>exact λb c=>⟨λl d=>by rw[AZ.mp d];exact Qw ok f b c h,λn g=>by rw[AZ.mp g];exact K0 ok f (JR ok b c h) e,AD _⟩
 |go h e i s m =>
   intro b c;have g:=K0 ok f (JR ok b c h) e;obtain⟨o,q,t⟩:=m (Qn ok g i) r;refine⟨λl d=>?_,λn j=>?_,by rw[El,El];lia⟩;rcases Cj.mp d with rfl|d;exact Qw ok f b c h;exact o l d;rcases Cj.mp j with rfl|j;exact g;exact q n j
def e8(g:∀s∈W.ss,s.1.length<=3)(e:∀l∈ls,Ii W l)(i:ls.length<=8)(j:ts.length<=8):(CJ W ls ts).length<=4000:=by
 unfold CJ;rw[AY]
 have k:=Nr (f:=FM W) (n:=434) (l:=ls) λl h=>by
  unfold FM;rw[AY];have a:=Nr (f:=Bw W) (n:=6) (l:=l.1) λb ζ=>eX g b;have b:=Nr (f:=E9 W.ss) (n:=1) (l:=l.2.1) λw ζ=>eV W.ss w;have c:=(e l h).b;have d:=(e l h).f;lia
 have m:=Nr (f:=E8 W.gs) (n:=1) (l:=ts) λn ζ=>TR W.gs n;lia
set_option tactic.hygienic true in
def Xn(ok:B2 W){n:Int}(h:q∈E8 W.gs n):0<=q/\q<W.as.length:=by
 unfold E8 at h
 cases e:W.gs[n.toNat]? with
 |none=>rw[e] at h;cases h
 |some p =>
   rw[e] at h;dsimp only at h;split at h;rename_i a;rw[AZ.mp h];exact ok.net.q p (Bl e) a;cases h
set_option tactic.hygienic true in
def Xo(ok:B2 W)(f:Bn W)(g:∀l∈ls,Ii W l)(h:q∈CJ W ls ts):0<=q/\q<W.as.length:=by
 unfold CJ at h;rcases BI.mp h with h|h;obtain⟨l,i,c⟩:=List.mem_flatMap.mp h;unfold FM at c;rcases BI.mp c with c|c;obtain⟨b,_,d⟩:=List.mem_flatMap.mp c;unfold Bw at d;obtain⟨p,j,a⟩:=List.mem_flatMap.mp d;obtain⟨s,k,m⟩:=eW j;unfold FY at a;split at a;rename_i o;rcases Cj.mp a with rfl|a;exact ok.by_ k m λz=>by rw[o.1] at z;exact absurd z (by decide +kernel)
 unfold FF at a;split at a;split at a;exact Xn ok a;cases a;cases a;cases a;obtain⟨w,r,d⟩:=List.mem_flatMap.mp c;unfold E9 at d;split at d;rename_i t;rw[AZ.mp d];rcases Np f ((g l i).en w r) with⟨e,_⟩|⟨_,e⟩;rw[t] at e;exact absurd e (by decide +kernel);exact e;cases d;obtain⟨n,_,c⟩:=List.mem_flatMap.mp h;exact Xn ok c
def TU:∀{a:List Int},a.Nodup->(∀y∈a,0<=y/\y<(n:Int))->a.length<=n:=λhd h=>KS n _ hd h
structure LN (K:Ah) (F:Addr->Prop) (H:Hp) (nt t:Addr) (W:Wd) (qs:List Qu) (inn:Int) (ord:A'):Prop where
 net:∃(S T R:Addr)(us Gs Es ts qt:List Addr),H nt=some (.tup [.ref S,.ref T,.ref R])/\Fw H S T R us Gs Es ts qt W.ss W.gs qs
 tab:FR K F H t W.sts inn ord
section
variable {K:Ah} {F:Addr->Prop} {H H':Hp} {nt A t:Addr} {W:Wd} {qs:List Qu} {inn:Int} {ord:A'} {as:List AH}
def LN.same(h:LN K F H nt t W qs inn ord)(e:Ac H H'):LN K F H' nt t W qs inn ord:=by
 obtain⟨⟨S,T,R,us,a,b,ts,d,f,g⟩,c⟩:=h;exact⟨⟨S,T,R,us,a,b,ts,d,e _ _ f,g.same e⟩,c.same e⟩
def LN.lc(h:LN K F H nt t W qs inn ord)(a:Hb K H A as):LC K F H nt A t (W.late as) qs inn ord:=⟨h.net,a,h.tab⟩
def Tk (H H':Hp):Prop:=∀a vs,H a=some (.tup vs)->H' a=some (.tup vs)
def Ac.tk(s:Ac H H'):Tk H H':=λζ ζ e=>s _ _ e
def Nt{x:Addr}{vs:List V}{o:HO}(h:H x=some (.lst vs)):Tk H (upd H x o):=λa us e=>by
 rw[AE λz=>by rw[z,h] at e;cases e];exact e
variable {kvs:List (AN×V)}
def J5{x:Addr}{o:HO}(h:H x=some (.dK kvs)):Tk H (upd H x o):=λa us e=>by
 rw[AE λz=>by rw[z,h] at e;cases e];exact e
def Tk.trans{c:Hp}(a:Tk H H')(b:Tk H' c):Tk H c:=λx d e=>b _ _ (a _ _ e)
abbrev He:Addr->Prop:=λζ=>False
def Bd.tk{d:Dt}(k:Tk H H')(h:Bd He H v d):Bd He H' v d:=h.go k λζ ζ ζ f=>f.elim
def Ax.tk{vs:List V}{a:List Dt}(k:Tk H H')(h:Ax He H vs a):Ax He H' vs a:=h.go k λζ ζ ζ f=>f.elim
def ER (H:Hp) (A:Addr) (as:List AH):Prop:=∃vs,H A=some (.lst vs)/\Ax He H vs (as.map CW)
def ER.ans(h:ER H A as):Hb K H A as:=by
 obtain⟨a,e,h⟩:=h;exact⟨a,Ae.of e,h.dts⟩
def ER.go(h:ER H A as)(k:Tk H H')(a:∀vs,H A=some (.lst vs)->H' A=some (.lst vs)):ER H' A as:=by
 obtain⟨vs,e,h⟩:=h;exact⟨vs,a _ e,h.tk k⟩
def Qx (W:Wd) (qs:List Qu) (inn:Int) (ord:A') (H:Hp) (kvs:List (AN×V)) (k:Nat) (B:List AH) (l:Addr) (us:List Int):Prop:=
 AL kvs (.inl (k:Int))=some (.ref l)/\H l=some (.lst (us.map V.int))/\us.length<=1000/\(∀u∈us,0<=u)/\∃(q:Qu)(w:Option Wt)(ls:List Lk)(ts:List Int),qs[k]?=some q/\LU (W.late B) inn ord q.1 q.2.1 q.2.2 0 none w ls ts/\∀x∈CJ (W.late B) ls ts,x∈us
def IP (kvs:List (AN×V)) (n:Nat):Prop:=(kvs.map (·.1)).Nodup/\∀x∈kvs.map (·.1),∃i:Nat,i<n/\x=.inl (i:Int)
set_option tactic.hygienic true in
def e9(kvs:List (AN×V))(k:AN)(v:V):((A0 kvs k v).map (·.1)=kvs.map (·.1))\/(k∉kvs.map (·.1)/\(A0 kvs k v).map (·.1)=kvs.map (·.1)++[k]):=by
 unfold A0;split;left;rw[DK];congr 1;funext a
 show(if a.1=k then(a.1,v) else a).1=a.1
 split<;>rfl;rename_i h;right;refine⟨λm=>h ?_,by rw[Br];rfl⟩;obtain⟨p,b,e⟩:=A3.mp m;exact Gh.mpr ⟨p,b,A7 e⟩
def IP.put(h:IP kvs n)(d:i<n)(v:V):IP (A0 kvs (.inl (i:Int)) v) n:=by
 unfold IP;rcases e9 kvs (.inl (i:Int)) v with e|⟨f,e⟩;rw[e];exact h;rw[e];refine⟨?_,λx c=>?_⟩;rw[List.nodup_append];refine⟨h.1,by simp,λa g b j=>?_⟩;rw[AZ.mp j];exact λz=>f (by rw[<-z];exact g);rcases BI.mp c with c|c;exact h.2 x c;exact⟨i,d,AZ.mp c⟩
def IP.len(h:IP kvs n):kvs.length<=n:=by
 have:((kvs.map (·.1)).map λk:AN=>match k with|.inl i=>i|.inr _=>(0:Int)).Nodup:=by
  rw[List.nodup_iff_pairwise_ne,List.pairwise_map];refine(List.nodup_iff_pairwise_ne.mp h.1).imp_of_mem λ{a b}d e l=>?_;obtain⟨i,_,rfl⟩:=h.2 a d;obtain⟨j,_,rfl⟩:=h.2 b e;exact λz=>l (by dsimp only at z;rw[z])
 have c:=TU (n:=n) this λy f=>by
  obtain⟨x,g,rfl⟩:=A3.mp f;obtain⟨i,m,rfl⟩:=h.2 x g;dsimp only;lia
 rw[An,An] at c;exact c
structure FT (W:Wd) (qs:List Qu) (inn:Int) (ord:A') (as:List AH) (H H':Hp) (kvs kvs':List (AN×V)) (ds:List Int) (fs:List (Int×(Str×Int))):Prop where
 fd:∀f∈fs,∃(k:Nat)(q:Qu),f.1=(k:Int)/\(k:Int)∈ds/\qs[k]?=some q/\Fd W inn ord q as (some f.2)
 al:∀k:Nat,(k:Int)∈ds->(∃p,((k:Int),p)∈fs)\/∃l us,H l=none/\Qx W qs inn ord H' kvs' k as l us
 kp:∀k:Nat,(k:Int)∉ds->AL kvs' (.inl (k:Int))=AL kvs (.inl (k:Int))
 ko:IP kvs' qs.length
variable {H'':Hp} {kvs kvs':List (AN×V)} {ds:List Int} {fs:List (Int×(Str×Int))} {k:Nat} {q:Qu}
def FT.hit(h:FT W qs inn ord as H H' kvs kvs' ds fs)(i:∀l vs,H l=none->H' l=some (.lst vs)->H'' l=some (.lst vs))(m:qs[k]?=some q){p:Str×Int}(n:Fd W inn ord q as (some p)):FT W qs inn ord as H H'' kvs kvs' (ds++[(k:Int)]) (fs++[((k:Int),p)]):=by
 refine⟨λf g=>?_,λj e=>?_,λj e=>h.kp j λz=>e (Ek _ z),h.ko⟩;rcases BI.mp g with g|g;obtain⟨j,r,a,b,c,d⟩:=h.fd f g;exact⟨j,r,a,Ek _ b,c,d⟩;rw[AZ.mp g];exact⟨k,q,rfl,by simp,m,n⟩;rcases BI.mp e with e|e;rcases h.al j e with⟨p,o⟩|⟨l,us,a,b,c,d⟩;exact .inl ⟨p,Ek _ o⟩;exact .inr ⟨l,us,a,b,i _ _ a c,d⟩;rw[AZ.mp e];exact .inl ⟨p,by simp⟩
def FT.wait(h:FT W qs inn ord as H H' kvs kvs' ds fs)(m:∀l vs,H l=none->H' l=some (.lst vs)->H'' l=some (.lst vs))(i:qs[k]?=some q){w:Option Wt}(n:LU (W.late as) inn ord q.1 q.2.1 q.2.2 0 none w ls ts){l:Addr}{us:List Int}(o:H l=none)(s:H'' l=some (.lst (us.map V.int)))(t:us.length<=1000)(v:∀u∈us,0<=u)(y:∀x∈CJ (W.late as) ls ts,x∈us):FT W qs inn ord as H H'' kvs (A0 kvs' (.inl (k:Int)) (.ref l)) (ds++[(k:Int)]) fs:=by
 have A:k<qs.length:=(A8.mp i).1;refine⟨λf D=>?_,λj g=>?_,λj g=>?_,h.ko.put A _⟩;obtain⟨j,r,a,b,c,d⟩:=h.fd f D;exact⟨j,r,a,Ek _ b,c,d⟩;by_cases e:(j:Int)=(k:Int);have:j=k:=(by lia);subst this;exact .inr ⟨l,us,o,by rw[Oe,Al rfl],s,t,v,q,w,ls,ts,i,n,y⟩;rcases BI.mp g with g|g;rcases h.al j g with⟨p,B⟩|⟨C,E,a,b,c,d⟩;exact .inl ⟨p,B⟩;exact .inr ⟨C,E,a,by rw[Oe,Ak λz=>e (Sum.inl.inj z)];exact b,m _ _ a c,d⟩;exact absurd (AZ.mp g) e;rw[Oe,Ak λz=>g (Dj _ (by rw[Sum.inl.inj z];simp))];exact h.kp j λz=>g (Ek _ z)
end
abbrev fD (f:Int×(Str×Int)):Dt:=.tup [.int f.1,CW (some f.2)]
structure J6 (W:Wd) (qs:List Qu) (inn:Int) (ord:A'):Prop extends SOk W qs inn ord where
 s3:∀s∈W.ss,s.1.length<=3
 lq:qs.length<=40
def AM{G:Prop}(h:∀N:Prop,(G->N)->N):G:=h G λz=>z
def GJ{g:TG}{t:TS}(h:let N:=D.nx;let C:=D.ct;g v σ H λσ2 a=>t {D with nx:=N,ct:=C} σ2 a):g v σ H (λσ2 a=>t D σ2 a):=h
def fA{K:Ah}{a:Addr}{k:Nat}{r:List Nat}{g:TG}{te:TE}{Y:Hp}{Q:Addr->Hp->Prop}(Pv:Addr->Nat->List V->Hp->Prop)
 (s:∀D,Y D=none->Pv D 0 [] (upd Y D (.lst []))) (t:∀D i ys c,Pv D i ys c->Ae K c a xs)
 (u:∀D i x T ys c(R:VK),Y D=none->xs[i]?=some x->c T=none->Pv D i ys c->(∀y d,d D=some (.lst ys)->ys.length<sizeLine->Pv D (i+1) (ys++[y]) (upd d D (.lst (ys++[y])))->R y d)->g (.ref T) (EG k r σ) (upd c T (.tup [.int i,x])) λσ4 h=>te σ4 h R)
 (hd:∀D ys c,Y D=none->Pv D xs.length ys c->Q D c) :
 ∀D,Y D=none->∃W:Nat->Nat->List V->Hp->Prop,(∃m,W 0 m [] (upd Y D (.lst [])))/\∀i m ys c,W i m ys c ->
  ((KQ K a).stop i c/\Q D c)\/((KQ K a).go i c/\∀x j,(KQ K a).yld i c x j->g x (EG k r σ) j λσ4 h=>HE σ4 h λb o =>
   if b=true then te σ4 o λy d=>d D=some (.lst ys)/\ys.length<sizeLine/\∃f,f<m/\W (i+1) f (ys++[y]) (upd d D (.lst (ys++[y]))) else ∃f,f<m/\W (i+1) f ys o):=by
 intro D l;refine⟨λi m ys c=>m=xs.length-i/\i<=xs.length/\Pv D i ys c,⟨xs.length,rfl,Cm _,s D l⟩,?_⟩;rintro i m ys c ⟨rfl,E,p⟩;have n:=t D i ys c p;by_cases q:i<xs.length;refine .inr ⟨⟨xs,xs[i],n,by simp[q]⟩,λx j y=>?_⟩;obtain⟨T,v,w,rfl,rfl,z⟩:=y;exact u D i v T ys c _ l (z xs n) w p λy d A B C=>⟨A,B,xs.length-(i+1),by lia,rfl,q,C⟩;have e:i=xs.length:=(by lia);subst e;exact .inl ⟨⟨xs,n,AD _⟩,hd D ys c l p⟩
abbrev CY:Type:=List (Int×(Str×Int))
def BR (as:List AH) (fs:CY):List AH:=fs.foldl (λa f=>a.set f.1.toNat (some f.2)) as
def Di (ts:List Int) (n:Int) (fs:CY):List Int:=fs.foldl (λa f=>a.set f.1.toNat n) ts
variable {f:Int×(Str×Int)}
def fB{as:List AH}{fs:CY}(h:fs[i]?=some f):BR as (fs.take (i+1))=(BR as (fs.take i)).set f.1.toNat (some f.2):=by
 rw[DV,h];show BR as (fs.take i++[f])=_;unfold BR;rw[Kt];rfl
def fC{n:Int}{fs:CY}(h:fs[i]?=some f):Di ts n (fs.take (i+1))=(Di ts n (fs.take i)).set f.1.toNat n:=by
 rw[DV,h];show Di ts n (fs.take i++[f])=_;unfold Di;rw[Kt];rfl
theorem Qy:∀(fs:CY)(as:List AH),(BR as fs).length=as.length
 |[],_=>rfl
 |f::fs,as=>by show(BR (as.set f.1.toNat (some f.2)) fs).length=_;rw[Qy fs,F4]
theorem TV{n:Int}:∀(fs:CY)(ts:List Int),(Di ts n fs).length=ts.length
 |[],_=>rfl
 |f::fs,ts=>by show(Di (ts.set f.1.toNat n) n fs).length=_;rw[TV fs,F4]
theorem Mw{k:Nat}:∀{fs:CY}{as:List AH},(∀f∈fs,f.1.toNat≠k)->(BR as fs)[k]?=as[k]?
 |[],_,_=>rfl
 |f::fs,as,h=>by
   show(BR (as.set f.1.toNat (some f.2)) fs)[k]?=_;rw[Mw λg a=>h g (Co _ a),List.getElem?_set_ne (h f BB)]
theorem TW{k:Nat}{n:Int}:∀{fs:CY}{ts:List Int},(∀f∈fs,f.1.toNat≠k)->(Di ts n fs)[k]?=ts[k]?
 |[],_,_=>rfl
 |f::fs,ts,h=>by
   show(Di (ts.set f.1.toNat n) n fs)[k]?=_;rw[TW λg a=>h g (Co _ a),List.getElem?_set_ne (h f BB)]
theorem Qz{k:Nat}:∀{fs:CY}{as:List AH},k<as.length->(∃f∈fs,f.1.toNat=k)->∃f∈fs,f.1.toNat=k/\(BR as fs)[k]?=some (some f.2)
 |[],_,_,⟨_,h,_⟩=>by cases h
 |f::fs,as,d,h=>by
   show ∃g∈f::fs,g.1.toNat=k/\(BR (as.set f.1.toNat (some f.2)) fs)[k]?=some (some g.2);by_cases c:∃g∈fs,g.1.toNat=k;obtain⟨g,a,b,e⟩:=Qz (as:=as.set f.1.toNat (some f.2)) (by rw[F4];exact d) c;exact⟨g,Co _ a,b,e⟩;obtain⟨g,a,b⟩:=h;rcases Cj.mp a with rfl|a;refine⟨g,BB,b,?_⟩;rw[Mw λx i z=>c ⟨x,i,z⟩,b,List.getElem?_set_self d];exact absurd ⟨g,a,b⟩ c
theorem TX{k:Nat}{n:Int}:∀{fs:CY}{ts:List Int},k<ts.length->(∃f∈fs,f.1.toNat=k)->(Di ts n fs)[k]?=some n
 |[],_,_,⟨_,h,_⟩=>by cases h
 |f::fs,ts,b,h=>by
   show(Di (ts.set f.1.toNat n) n fs)[k]?=some n;by_cases c:∃g∈fs,g.1.toNat=k;exact TX (by rw[F4];exact b) c;obtain⟨g,a,d⟩:=h;rcases Cj.mp a with rfl|a;rw[TW λx e z=>c ⟨x,e,z⟩,d,List.getElem?_set_self b];exact absurd ⟨g,a,d⟩ c
def nn (as:List AH):Nat:=as.countP λa=>a.isNone
def Ij(as:List AH)(k:Nat)(p:Str×Int):nn (as.set k (some p))<=nn as/\(as[k]?=some none->nn (as.set k (some p))<nn as):=by
 unfold nn;by_cases b:k<as.length;rw[List.countP_set b];have c:((some p:AH).isNone=true)=False:=(by simp);simp only[Option.isNone_some,Fk,if_false,Nat.add_zero];refine⟨Nat.sub_le _ _,λe=>?_⟩;rw[AC b] at e;rw[AO e];have:0<as.countP λa=>a.isNone:=List.countP_pos_iff.mpr ⟨none,by rw[<-AO e];exact Ep b,rfl⟩;simp only[Option.isNone_none,if_true];lia;rw[List.set_eq_of_length_le (by lia)];exact⟨AD _,λe=>by rw[Fh (by lia)] at e;cases e⟩
theorem TY:∀(fs:CY)(as:List AH),nn (BR as fs)<=nn as
 |[],_=>AD _
 |f::fs,as=>Em (TY fs (as.set f.1.toNat (some f.2))) (Ij as _ _).1
def OT{fs:CY}{as:List AH}(h:as[f.1.toNat]?=some none):nn (BR as (f::fs))<nn as:=Nat.lt_of_le_of_lt (TY fs _) ((Ij as _ _).2 h)
section
variable {W:Wd} {qs:List Qu} {inn:Int} {ord:A'} {H H':Hp} {kvs kvs':List (AN×V)} {n:Nat} {as:List AH} {ts:List Int} {due:List Int} {fs:CY} {X:Addr->Prop}
structure Ik (W:Wd) (qs:List Qu) (inn:Int) (ord:A') (X:Addr->Prop) (H:Hp) (kvs:List (AN×V)) (n:Nat) (as:List AH) (ts:List Int) (due:List Int):Prop where
 run:Run W qs inn ord n as ts
 du:∀k∈due,∃j:Nat,k=(j:Int)/\j<qs.length/\as[j]?=some none
 la:due=[]\/n=0\/∃k:Nat,ts[k]?=some (n:Int)
 us:∀k:Nat,k<qs.length->as[k]?=some none->(k:Int)∈due\/∃B l us,¬X l/\G0 W qs B/\Qx W qs inn ord H kvs k B l us/\Gf B as us
 ko:IP kvs qs.length
structure Nu (W:Wd) (qs:List Qu) (inn:Int) (ord:A') (X:Addr->Prop) (H:Hp) (kvs:List (AN×V)) (n:Nat) (as:List AH) (ts:List Int) (fs:CY):Prop where
 run:Run W qs inn ord n as ts
 us:∀k:Nat,k<qs.length->as[k]?=some none->∃B l us,¬X l/\G0 W qs B/\Qx W qs inn ord H kvs k B l us/\∀u∈us,(∀f∈fs,f.1≠u)->as[u.toNat]?=B[u.toNat]?
 ko:IP kvs qs.length
 fs:fs=[]\/∃k:Nat,ts[k]?=some (n:Int)
def Il(G:SOk W qs inn ord){B:List AH}(b:G0 W qs B)(j:G0 W qs as){k:Nat}{l:Addr}{us:List Int}(h:Qx W qs inn ord H kvs k B l us)(c:Gf B as us):∃q,qs[k]?=some q/\Fd W inn ord q as none:=by
 obtain⟨_,_,_,_,q,w,ls,d,a,e,f⟩:=h;have L:=G.all B b;obtain⟨g,i,_⟩:=L.q q (Bl a);exact⟨q,a,w,ls,d,Mn (W:=W.late B) (as':=as) L.ok L.sm L.inn e g i (c.sub f)⟩
def Ik.nxt(G:SOk W qs inn ord)(T:Ik W qs inn ord X H kvs n as ts due)(F:FT W qs inn ord as H H' kvs kvs' due fs):FZ W qs inn ord as (BR as fs):=by
 have m:=(T.run.aok G).1
 have x:∀f∈fs,∃(k:Nat)(q:Qu),f.1=(k:Int)/\k<qs.length/\as[k]?=some none/\qs[k]?=some q/\Fd W inn ord q as (some f.2):=λf b=>by
  obtain⟨k,q,g,y,i,r⟩:=F.fd f b;obtain⟨j,v,A,C⟩:=T.du _ y;have:k=j:=(by lia);subst this;exact⟨k,q,g,A,C,i,r⟩
 refine⟨Qy _ _,λk p e=>?_,λk q s e=>?_⟩;rw[Mw λf b z=>?_];exact e;obtain⟨j,q,g,_,i,_⟩:=x f b;rw[g,Bo] at z;rw[z,e] at i;cases i;have w:k<qs.length:=(A8.mp s).1;by_cases c:∃f∈fs,f.1.toNat=k;obtain⟨f,t,o,D⟩:=Qz (as:=as) (by rw[m.len];exact w) c;obtain⟨j,a,g,_,i,r,v⟩:=x f t;have:j=k:=by rw[g,Bo] at o;exact o
 subst this;have:a=q:=AO (r.symm.trans s);subst this;exact⟨_,v,D⟩;rw[Mw λf b z=>c ⟨f,b,z⟩];refine⟨none,?_,e⟩
 have K:∃a,qs[k]?=some a/\Fd W inn ord a as none:=by
  by_cases d:(k:Int)∈due;rcases F.al k d with⟨p,E⟩|⟨l,us,_,u⟩;exact absurd ⟨_,E,Bo k⟩ c;exact Il G m m u λζ ζ=>rfl;rcases T.us k w e with h|⟨B,l,us,_,I,u,J⟩;exact absurd h d;exact Il G I m u J
 obtain⟨a,t,o⟩:=K;have:a=q:=AO (t.symm.trans s);subst this;exact o
def Ik.aft(G:SOk W qs inn ord)(T:Ik W qs inn ord X H kvs n as ts due)(hd:due≠[])(F:FT W qs inn ord as H H' kvs kvs' due fs)(I:∀l,H l=none->¬X l)(J:∀l vs,¬X l->H l=some (.lst vs)->H' l=some (.lst vs)):Nu W qs inn ord X H' kvs' (n+1) (BR as fs) (Di ts ((n:Int)+1) fs) fs:=by
 have v:=(T.run.aok G).1;have y:=(T.run.aok G).2;have K:=T.nxt G F
 have x:∀f∈fs,∃k:Nat,f.1=(k:Int)/\k<qs.length/\as[k]?=some none:=λf a=>by
  obtain⟨k,q,b,o,A,S⟩:=F.fd f a;obtain⟨j,U,L,M⟩:=T.du _ o;have:k=j:=(by lia);subst this;exact⟨k,b,L,M⟩
 refine⟨.succ T.run (T.la.resolve_left hd) K (TV _ _) λk i=>?_,λk i e=>?_,F.ko,?_⟩;by_cases c:∃f∈fs,f.1.toNat=k;obtain⟨f,C,w,s⟩:=Qz (as:=as) (by rw[v.len];exact i) c;obtain⟨j,b,o,A⟩:=x f C;have:j=k:=by rw[b,Bo] at w;exact w
 subst this;rw[Al ⟨A,by rw[s];simp⟩];exact TX (by rw[y];exact i) c;have b:=Mw (as:=as) (k:=k) (fs:=fs) λf a z=>c ⟨f,a,z⟩;rw[TW λf a z=>c ⟨f,a,z⟩,Ak λz=>z.2 (by rw[b];exact z.1)]
 have D:¬∃f∈fs,f.1.toNat=k:=λc=>by
  obtain⟨f,C,w,s⟩:=Qz (as:=as) (by rw[v.len];exact i) c;rw[e] at s;cases s
 have N:as[k]?=some none:=by rw[<-e,Mw λf a z=>D ⟨f,a,z⟩]
 have same:∀u:Int,0<=u->(∀f∈fs,f.1≠u)->(BR as fs)[u.toNat]?=as[u.toNat]?:=λu V m=>Mw λf a z=>by
  obtain⟨j,b,_⟩:=x f a;exact m f a (by lia)
 by_cases d:(k:Int)∈due;rcases F.al k d with⟨p,O⟩|⟨l,us,P,g⟩;exact absurd ⟨_,O,Bo k⟩ D;exact⟨as,l,us,I l P,v,g,λu t m=>same u (g.2.2.2.1 u t) m⟩;rcases T.us k i N with h|⟨B,l,us,E,Q,g,R⟩;exact absurd h d;refine⟨B,l,us,E,Q,⟨by rw[F.kp k d];exact g.1,J _ _ E g.2.1,g.2.2⟩,λu t m=>?_⟩;rw[same u (g.2.2.2.1 u t) m,R u t]
 cases e:fs with
 |nil=>exact .inl rfl
 |cons f r =>
   right;have a:f∈fs:=by rw[e];exact BB
   obtain⟨k,b,o,_⟩:=x f a;refine⟨k,?_⟩;rw[<-e,TX (by rw[y];exact o) ⟨f,a,by rw[b,Bo]⟩]
   push_cast;rfl
def Nu.trn(A:Nu W qs inn ord X H kvs n as ts fs)(g:∀k∈due,∃j:Nat,k=(j:Int)/\j<qs.length/\as[j]?=some none)(i:fs=[]->due=[])(m:∀k:Nat,k<qs.length->as[k]?=some none->(k:Int)∈due\/∃(l:Addr)(us:List Int),AL kvs (.inl (k:Int))=some (.ref l)/\H l=some (.lst (us.map V.int))/\∀u∈us,∀f∈fs,f.1≠u):Ik W qs inn ord X H kvs n as ts due:=by
 refine⟨A.run,g,?_,λk b e=>?_,A.ko⟩;rcases A.fs with h|h;exact .inl (i h);exact .inr (.inr h);rcases m k b e with h|⟨l,us,o,p,q⟩;exact .inl h;right;obtain⟨B,r,d,s,t,a,v⟩:=A.us k b e;have w:l=r:=V.ref.inj (AO (o.symm.trans a.1));subst w;have x:us.map V.int=d.map V.int:=HO.lst.inj (AO (p.symm.trans a.2.1));refine⟨B,l,d,s,t,a,λu c=>v u c (q u ?_)⟩;have:V.int u∈us.map V.int:=by rw[x];exact A3.mpr ⟨u,c,rfl⟩
 obtain⟨C,y,z⟩:=A3.mp this;rw[<-V.int.inj z];exact y
def Ik.end_(G:SOk W qs inn ord)(T:Ik W qs inn ord X H kvs n as ts []):FZ W qs inn ord as as:=by
 have b:=(T.run.aok G).1;refine⟨rfl,λζ ζ e=>e,λk q a e=>⟨none,?_,e⟩⟩;rcases T.us k (A8.mp a).1 e with h|⟨B,l,us,_,c,d,f⟩;cases h;obtain⟨g,i,j⟩:=Il G c b d f;have:g=q:=AO (i.symm.trans a);subst this;exact j
def Ik.start:Ik W qs inn ord X H [] 0 (List.replicate qs.length none) (List.replicate qs.length 0) ((List.range qs.length).map λi:Nat=>(i:Int)):=by
 refine⟨.zero,λk a=>?_,.inr (.inl rfl),λk a ζ=>.inl (A3.mpr ⟨k,List.mem_range.mpr a,rfl⟩),by simp,λx b=>by cases b⟩;obtain⟨j,c,rfl⟩:=A3.mp a;have:=List.mem_range.mp c;exact⟨j,rfl,this,by rw[List.getElem?_replicate,Al this]⟩
def Nu.keep{H'':Hp}(A:Nu W qs inn ord X H kvs n as ts fs)(c:∀l vs,¬X l->H l=some (.lst vs)->H'' l=some (.lst vs)):Nu W qs inn ord X H'' kvs n as ts fs:=
 ⟨A.run,λk d e=>by
  obtain⟨B,l,us,b,f,a,g⟩:=A.us k d e
  exact⟨B,l,us,b,f,⟨a.1,c _ _ b a.2.1,a.2.2⟩,g⟩,A.ko,A.fs⟩
end
theorem Xp:∀(ps acc:List (AN×V))(k:AN),(AL (KJ acc ps) k).isSome=((AL acc k).isSome || ps.any λp=>decide (p.1=k))
 |[],acc,k=>by simp[KJ]
 |p::ps,acc,k=>by
   show(AL (KJ (A0 acc p.1 p.2) ps) k).isSome=_;rw[Xp ps,Oe,List.any_cons];by_cases e:k=p.1;rw[Al e];simp[e];rw[Ak e];have:decide (p.1=k)=false:=Do λz=>e z.symm;rw[this];simp
theorem Ax.set{F:Addr->Prop}{H:Hp}{v:V}{d:Dt}(h:Bd F H v d):∀{vs:List V}{b:List Dt}(j:Nat),Ax F H vs b->Ax F H (vs.set j v) (b.set j d)
 |_,_,_,.nil=>.nil
 |_,_,0,.cons _ t=>.cons h t
 |_,_,j+1,.cons a t=>.cons a (Ax.set h j t)
theorem Im{H:Hp}:∀{b:List V}{fs:CY},Ax He H b (fs.map fD)->∃ps,Mp H b ps/\ps.map (·.1)=fs.map λf=>(.inl f.1:AN)
 |_,[],.nil=>⟨[],.nil,rfl⟩
 | _,f :: fs,.cons a t=>by
   obtain⟨ps,c,d⟩:=Im (fs:=fs) t;have g:Bd He H _ (.tup [.int f.1,CW (some f.2)]):=a
   cases g with
   | tup e u =>
     cases u with
     |cons x u =>
       cases u with
       |cons y u =>
         cases u with
         |nil =>
           rw[Nq x] at e;exact⟨(.inl f.1,_)::ps,.cons ⟨_,rfl,e⟩ c,by rw[D9,d];rfl⟩
def Xq{ps:List (AN×V)}{fs:CY}(h:ps.map (·.1)=fs.map λf=>(.inl f.1:AN))(u:Int):(AL (KJ [] ps) (.inl u)).isSome=fs.any λf=>decide (f.1=u):=by
 rw[Xp];show(false || _)=_;rw[Bool.false_or];have e:(ps.any λp=>decide (p.1=(.inl u:AN)))=(ps.map (·.1)).any λk=>decide (k=(.inl u:AN)):=by rw[List.any_map];rfl
 rw[e,h,List.any_map];congr 1;funext f;show decide ((Sum.inl f.1:AN)=Sum.inl u)=decide (f.1=u);by_cases c:f.1=u;rw[A7 c,A7 (by rw[c])];rw[Do c,Do λz=>c (Sum.inl.inj z)]
def Xr(n:Nat)(x:α):(List.replicate n [x]).flatten=List.replicate n x:=by
 induction n with
 |zero=>rfl
 |succ n a=>rw[List.replicate_succ,List.flatten_cons,a];rfl
def Mx{m:Nat}(h:i<m):KG (.int (i:Int)) ((List.range m).map λj:Nat=>V.int j)=true:=by
 unfold KG;exact Gh.mpr ⟨.int i,A3.mpr ⟨i,List.mem_range.mpr h,rfl⟩,by simp[II]⟩
def fE(m:Nat):(((List.range m).map λj:Nat=>V.int j).all IH)=true:=by
 rw[List.all_map];exact List.all_eq_true.mpr λζ ζ=>rfl
def ER.get{A:Addr}{as:List AH}(h:ER H A as){k:Nat}(f:k<as.length):∃vs v,H A=some (.lst vs)/\Bv vs (k:Int)=some v/\((as[k]?=some none/\v=.non)\/∃p t,as[k]?=some (some p)/\v=.ref t/\H t=some (.tup [.str p.1,.int p.2])):=by
 obtain⟨vs,e,h⟩:=h;have b:k<vs.length:=by rw[h.length,An];exact f
 obtain⟨a,c,d⟩:=J4 h (AC b);refine⟨vs,_,e,BX (AC b),?_⟩
 cases a with
 |none=>exact .inl ⟨c,d.ansN⟩
 |some p =>
   obtain⟨t,g,i⟩:=d.ansS;exact .inr ⟨p,t,c,g,i⟩
structure Hf (as:List AH) (ts:List Int) (m:Int) (ms:List AH):Prop where
 len:ms.length=as.length
 at_:∀(k:Nat)(a:AH)(t:Int),as[k]?=some a->ts[k]?=some t->ms[k]?=some (if 0<t/\t<m then a else none)
section
variable {W:Wd} {qs:List Qu} {inn:Int} {ord:A'} {n:Nat} {as as' ms ms':List AH} {ts ts':List Int} {m:Int}
def Hf.uniq(a:ts.length=as.length)(h:Hf as ts m ms)(h':Hf as ts m ms'):ms=ms':=by
 refine List.ext_getElem? λk=>?_;by_cases c:k<as.length;rw[h.at_ k _ _ (AC c) (AC (by rw[a];exact c)),h'.at_ k _ _ (AC c) (AC (by rw[a];exact c))];rw[Fh (by rw[h.len];lia),Fh (by rw[h'.len];lia)]
def Hf.aok(d:ts.length=as.length)(b:G0 W qs as)(h:Hf as ts m ms):G0 W qs ms:=by
 refine⟨h.len.trans b.len,λp f e=>?_⟩;obtain⟨k,a⟩:=Xm f;have c:k<as.length:=by rw[<-h.len];exact(A8.mp a).1
 rw[h.at_ k _ _ (AC c) (AC (by rw[d];exact c))] at a;split at a;exact b.rng p (by rw[<-AO a];exact Ep c) e;cases a
def Nv(G:SOk W qs inn ord)(h:Run W qs inn ord n as ts)(x:FZ W qs inn ord as as')(t:∀k:Nat,k<qs.length->ts'[k]?=if as[k]?=some none/\as'[k]?≠some none then some ((n:Int)+1) else ts[k]?){k:Nat}(d:k<qs.length) :
 (as[k]?=some none/\ts[k]?=some 0/\((as'[k]?=some none/\ts'[k]?=some 0)\/∃p,as'[k]?=some (some p)/\ts'[k]?=some ((n:Int)+1)/\∃q,qs[k]?=some q/\Fd W inn ord q as (some p))) \/
 (∃(p:Str×Int)(j:Nat),as[k]?=some (some p)/\as'[k]?=some (some p)/\ts[k]?=some (j:Int)/\ts'[k]?=some (j:Int)/\1<=j/\j<=n):=by
 have tk:=t k d;rcases h.at_ G k d with⟨b,c⟩|⟨p,j,b,c,f,g⟩;left;refine⟨b,c,?_⟩;obtain⟨a,i,e⟩:=x.new k _ (AC d) b
 cases a with
 |none=>rw[Ak (λz=>z.2 e),c] at tk;exact .inl ⟨e,tk⟩
 |some p=>rw[Al ⟨b,by rw[e];simp⟩] at tk;exact .inr ⟨p,e,tk,_,AC d,i⟩
 right;rw[Ak (λz=>by rw[b] at z;cases z.1),c] at tk;exact⟨p,j,b,x.old k p b,c,tk,f,g⟩
def Run.all(G:SOk W qs inn ord)(h:Run W qs inn ord n as ts):Hf as ts ((n:Int)+1) as:=by
 refine⟨rfl,λk a t b c=>?_⟩;have g:=(h.aok G).1;have i:k<qs.length:=by rw[<-g.len];exact(A8.mp b).1
 rcases h.at_ G k i with⟨d,f⟩|⟨p,j,d,f,l,m⟩;rw[d] at b ⊢;rw[<-AO b];split<;>rfl;rw[f] at c;have e:=AO c;rw[b,Al (by lia)]
structure TZ (W:Wd) (qs:List Qu) (inn:Int) (ord:A') (n:Nat) (as:List AH) (ts:List Int):Prop where
 fd:∀(k t:Nat)(q:Qu)(p:Str×Int)(ms:List AH),qs[k]?=some q->ts[k]?=some (t:Int)->1<=t->as[k]?=some (some p)->Hf as ts t ms->Fd W inn ord q ms (some p)
 bf:∀(k t:Nat)(q:Qu)(p:Str×Int)(ms:List AH),qs[k]?=some q->ts[k]?=some (t:Int)->2<=t->as[k]?=some (some p)->Hf as ts ((t:Int)-1) ms->Fd W inn ord q ms none
 pv:∀(k t:Nat),k<qs.length->ts[k]?=some (t:Int)->2<=t->∃j:Nat,ts[j]?=some ((t:Int)-1)
 ls:1<=n->∃pv,Hf as ts n pv/\FZ W qs inn ord pv as
def Run.turns(G:SOk W qs inn ord)(h:Run W qs inn ord n as ts):TZ W qs inn ord n as ts:=by
 induction h with
 |zero =>
   have z:∀{k t:Nat},(List.replicate qs.length (0:Int))[k]?=some (t:Int)->t=0:=λ{k t}e=>by
    rw[List.getElem?_replicate] at e;split at e;have:=AO e;lia;cases e
   exact⟨λk t q p ms ζ e s=>by have:=z e;lia,λk t q p ms ζ e s=>by have:=z e;lia,λk t ζ e s=>by have:=z e;lia,λs=>by lia⟩
 |@succ n as as' ts ts' h e x l t I =>
   obtain⟨K,L⟩:=h.aok G;have V:=x.aok G K;have Q:ts.length=as.length:=(by rw[L,K.len])
   have J:∀{m:Int}{ms:List AH},m<=(n:Int)+1->Hf as' ts' m ms->Hf as ts m ms:=λ{m ms}X u=>by
    refine⟨u.len.trans x.len,λk a A f M=>?_⟩;have c:k<qs.length:=by rw[<-K.len];exact(A8.mp f).1
    rcases Nv G h x t c with⟨s,o,⟨r,d⟩|⟨p,r,d,_⟩⟩|⟨p,j,s,o,r,d,g,w⟩;rw[s] at f;rw[<-AO f];have:=u.at_ k _ _ r d;rw[this];split<;>split<;>rfl;rw[s] at f;rw[<-AO f];have:=u.at_ k _ _ r d;rw[this,Ak (by lia)];split<;>rfl;rw[s] at f;rw[r] at M;rw[<-AO f,<-AO M];exact u.at_ k _ _ o d
   have keep:∀{j:Nat}{v:Int},1<=v->ts[j]?=some v->ts'[j]?=some v:=λ{j v}Y E=>by
    have c:j<qs.length:=by rw[<-L];exact(A8.mp E).1
    rcases Nv G h x t c with⟨_,o,_⟩|⟨p,i,s,o,r,d,g,w⟩;rw[o] at E;have:=AO E;lia;rw[d,<-r,E]
   refine⟨λk A q p ms C c s f u=>?_,λk A q p ms C c s f u=>?_,λk A B c s=>?_,λζ=>⟨as,⟨by rw[x.len],λk a A f c=>?_⟩,x⟩⟩;have B:k<qs.length:=(A8.mp C).1;rcases Nv G h x t B with⟨o,r,⟨d,_⟩|⟨y,d,g,S,w,F⟩⟩|⟨y,j,o,r,d,g,w,F⟩;rw[d] at f;cases f;rw[d] at f;rw[g] at c;obtain rfl:=AO (AO f);obtain rfl:=AO (w.symm.trans C);have H:=AO c;rw[<-H] at u;rw[(J (by lia) u).uniq Q (h.all G)];exact F;rw[r] at f;rw[g] at c;obtain rfl:=AO (AO f);have H:=AO c;have D:j=A:=(by lia);subst D;exact I.fd k j q y ms C d w o (J (by lia) u);have B:k<qs.length:=(A8.mp C).1;rcases Nv G h x t B with⟨o,r,⟨d,_⟩|⟨y,d,g,S,w,F⟩⟩|⟨y,j,o,r,d,g,w,F⟩;rw[d] at f;cases f;rw[g] at c;have H:=AO c;obtain⟨pv,N,T⟩:=I.ls (by lia);have D:(A:Int)-1=n:=(by lia);rw[D] at u;rw[(J (by lia) u).uniq Q N];have O:=N.at_ k _ _ o r;rw[Ak (by lia)] at O;obtain⟨b,P,R⟩:=T.new k q C O;rw[o] at R;rw[<-AO R] at P;exact P;rw[g] at c;have H:=AO c;have D:j=A:=(by lia);subst D;exact I.bf k j q y ms C d s o (J (by lia) u);rcases Nv G h x t B with⟨o,r,⟨d,g⟩|⟨y,d,g,_⟩⟩|⟨y,j,o,r,d,g,w,F⟩;rw[g] at c;have:=AO c;lia;rw[g] at c;have H:=AO c;rcases e with e|⟨j,E⟩;lia;exact⟨j,keep (by lia) (by rw[E];congr 1;lia)⟩;rw[g] at c;have H:=AO c;have D:j=A:=(by lia);subst D;obtain⟨i,U⟩:=I.pv k j B d s;exact⟨i,keep (by lia) U⟩;have B:k<qs.length:=by rw[<-V.len];exact(A8.mp f).1
   rcases Nv G h x t B with⟨o,r,⟨d,g⟩|⟨y,d,g,_⟩⟩|⟨y,j,o,r,d,g,w,F⟩;rw[g] at c;rw[Ak (by have:=AO c;lia)];exact o;rw[g] at c;rw[Ak (by have:=AO c;lia)];exact o;rw[g] at c;rw[r] at f;rw[Al (by have:=AO c;lia),<-AO f];exact o
def Xs(i:as.length=qs.length)(x:FZ W qs inn ord as ms)(y:FZ W qs inn ord as ms'):ms=ms':=by
 refine List.ext_getElem? λk=>?_;by_cases c:k<as.length
 cases e:as[k]? with
 |none=>rw[List.getElem?_eq_none_iff] at e;lia
 |some o =>
   cases o with
   |some p=>rw[x.old k p e,y.old k p e]
   |none =>
     obtain⟨a,d,g⟩:=x.new k _ (AC (by lia)) e;obtain⟨b,f,h⟩:=y.new k _ (AC (by lia)) e;rw[g,h,Qt d f]
 rw[Fh (by rw[x.len];lia),Fh (by rw[y.len];lia)]
def Xu{a b c:List Int}(d:b.length=a.length)(e:c.length=a.length)(h:∀k:Nat,k<a.length->b[k]?=c[k]?):b=c:=by
 refine List.ext_getElem? λk=>?_;by_cases z:k<a.length;exact h k z;rw[Fh (by lia),Fh (by lia)]
def Run.det(G:SOk W qs inn ord)(h:Run W qs inn ord n as ts):∀{b:List AH}{c:List Int},Run W qs inn ord n b c->as=b/\ts=c:=by
 induction h with
 |zero=>intro b c a;cases a;exact⟨rfl,rfl⟩
 |@succ n as as' ts ts' h e x l t d =>
   intro b c a
   cases a with
   |succ a m f g i =>
     obtain⟨rfl,rfl⟩:=d a;obtain⟨j,o⟩:=h.aok G;have:=Xs j.len x f;subst this;exact⟨rfl,Xu l g λk p=>by rw[t k (by lia),i k (by lia)]⟩
theorem Run.more(G:SOk W qs inn ord)(h:Run W qs inn ord n as ts)(d:FZ W qs inn ord as as):∀(j:Nat){b:List AH}{c:List Int},Run W qs inn ord (n+j) b c->as=b/\ts=c
 |0,_,_,a=>h.det G a
 | j + 1,b,c,a=>by
   cases a with
   |succ a l e f g =>
     obtain⟨rfl,rfl⟩:=h.more G d j a;obtain⟨i,m⟩:=h.aok G;have:=Xs i.len d e;subst this;refine⟨rfl,(Xu rfl f λk o=>?_)⟩;rw[g k (by lia),Ak λz=>z.2 z.1]
def Run.same{b:Nat}{a:List AH}{e:List Int}(G:SOk W qs inn ord)(h:Run W qs inn ord n as ts)(f:FZ W qs inn ord as as)(d:Run W qs inn ord b a e)(k:FZ W qs inn ord a a):as=a/\ts=e:=by
 by_cases c:n<=b;obtain⟨j,rfl⟩:=Nat.exists_eq_add_of_le c;exact h.more G f j d;obtain⟨j,rfl⟩:=Nat.exists_eq_add_of_le (show b<=n by lia);obtain⟨g,i⟩:=d.more G k j h;exact⟨g.symm,i.symm⟩
end
end L2
def L2.new_at{H:L2.Hp}{a:PySem.Addr}{o:L2.HO}(h:H a=none):∃H':L2.Hp,H'=L2.upd H a o/\L2.Ac H H'/\H' a=some o:=⟨_,rfl,L2.Bf h,L2.Aa⟩
variable {i:Nat}
def L2.getm{α β:Type}{f:α->β}{l:List α}{x:β}(h:(l.map f)[i]?=some x):∃z,l[i]?=some z/\f z=x:=by
 rw[Bh] at h;exact EX.mp h
namespace K42
open PySem PySem.Spec PyProof.Rows L2 Ord
local macro_rules | `(tactic| trivial) => `(tactic| exact ⟨rfl, rfl, rfl, by decide +kernel, rfl, by decide +kernel, by decide +kernel⟩)
local macro_rules | `(tactic| trivial) => `(tactic| exact ⟨rfl, by decide +kernel, by decide +kernel, by decide +kernel, rfl, by decide +kernel, by decide +kernel⟩)
def IQ:Ag ["_law_cell", "_law_many", "_law_letters", "_law_long", "_law_at", "_law_some", "_law_k", "_law_name", "_law_j", "_law_sign"] ["_law_cell", "_law_many"] (A6 Q9):=by trivial
def fF:Ag ["_law_script", "_law_k"] ["_law_script", "_law_k"] (A6 Ra):=by trivial
def QA:Ag ["_law_number", "_law_many", "_law_some", "_law_k"] ["_law_number", "_law_many"] (A6 Rb):=by trivial
def My:Ag ["_law_cell", "_law_labels", "_law_one", "_law_other", "_law_some", "_law_j", "_law_k"] ["_law_cell", "_law_labels"] (A6 Rc):=by trivial
def Mz:Ag ["_law_cells", "_law_labels", "_law_states", "_law_cell", "_law_ranks_here", "_law_goes", "_law_ends", "_law_k"] ["_law_cells", "_law_labels"] (A6 Re):=by trivial
def T1:Ag ["_law_cell", "_law_many", "_law_states", "_law_names_here", "_law_mixed", "_law_path"] ["_law_cell", "_law_many", "_law_states", "_law_names_here"] (A6 Rf):=by trivial
def Xv:Ag ["_law_cell", "_law_many", "_law_asked", "_law_number"] ["_law_cell", "_law_many", "_law_asked"] (A6 Rg):=by trivial
def T4:Ag ["_law_cell", "_law_labels", "_law_many", "_law_asked", "_law_label", "_law_number"] ["_law_cell", "_law_labels", "_law_many", "_law_asked"] (A6 Rh):=by trivial
def QB:Ag ["_law_cell", "_law_labels", "_law_names_here", "_law_things", "_law_asked", "_law_label", "_law_number", "_law_name"] ["_law_cell", "_law_labels", "_law_names_here", "_law_things", "_law_asked"] (A6 Ri):=by trivial
def Ny:Ag ["_law_cells", "_law_labels", "_law_names_here", "_law_many", "_law_sizes", "_law_scopes_here", "_law_most", "_law_cell", "_law_at", "_law_number"] ["_law_cells", "_law_labels", "_law_names_here", "_law_many", "_law_sizes"] (A6 Pl):=by trivial
def Ct:Av (A6 Pl) ["_law_cells", "_law_labels", "_law_names_here", "_law_many", "_law_sizes", "_law_scopes_here", "_law_most", "_law_cell", "_law_at", "_law_number"] {kind:=.function,names:=[(".0",.local),("_law_k",.local)],isGenerator:=false,isCoroutine:=false,more:=[]:PySem.Scope} ["_law_k"] 1 []:=by trivial
def Hg:Ag ["_law_script", "_law_names_here", "_law_labels", "_law_table_here", "_law_head", "_law_many", "_law_cells", "_law_things", "_law_questions", "_law_asked", "_law_cell", "_law_scopes_here"] ["_law_script"] (A6 NI):=by trivial
def C0:Av (A6 NI) ["_law_script", "_law_names_here", "_law_labels", "_law_table_here", "_law_head", "_law_many", "_law_cells", "_law_things", "_law_questions", "_law_asked", "_law_cell", "_law_scopes_here"] {kind:=.function,names:=[ (".0",.local),("_law_k",.local),("_law_cell_at",.globalImplicit),("_law_script",.free)],isGenerator:=false,isCoroutine:=false,more:=[]:PySem.Scope} ["_law_k", "_law_script"] 1 [0]:=by trivial
def C1:Av (A6 NI) ["_law_script", "_law_names_here", "_law_labels", "_law_table_here", "_law_head", "_law_many", "_law_cells", "_law_things", "_law_questions", "_law_asked", "_law_cell", "_law_scopes_here"] {kind:=.function,names:=[(".0",.local),("_law_cell",.local)],isGenerator:=false,isCoroutine:=false,more:=[]:PySem.Scope} ["_law_cell"] 1 []:=by trivial
def QC:Ag ["table", "state", "label", "goes", "known", "number"] ["table", "state", "label"] (A6 Rj):=by trivial
def QD:Ag ["net", "answers", "question", "answer", "kind", "number"] ["net", "answers", "question"] (A6 Rk):=by trivial
def T6:Ag ["net", "answers", "thing", "kind", "number"] ["net", "answers", "thing"] (A6 Rl):=by trivial
def OU:Ag ["net", "answers", "step", "label", "kind", "number", "answer"] ["net", "answers", "step"] (A6 Rm):=by trivial
def MA:Ag ["net", "answers", "table", "scope", "state", "gone", "index", "step", "after", "kind", "number"] ["net", "answers", "table", "scope", "state"] (A6 Rn):=by trivial
def IR:Ag ["net", "answers", "table", "beginning", "marks", "last", "then", "come_to", "longer", "mark", "kind", "number", "after"] ["net", "answers", "table", "beginning"] (A6 Po):=by trivial
def BF:Av (A6 Po) ["net", "answers", "table", "beginning", "marks", "last", "then", "come_to", "longer", "mark", "kind", "number", "after"] {kind:=.function,names:=[(".0",.local),("mark",.local)],isGenerator:=false,isCoroutine:=false,more:=[]:PySem.Scope} ["mark"] 1 []:=by trivial
def QE:Ag ["net", "answers", "table", "scope", "state", "found", "place"] ["net", "answers", "table", "scope", "state"] (A6 Ro):=by trivial
def Xw:Ag ["table", "state", "label", "ends"] ["table", "state", "label"] (A6 Rp):=by trivial
def MB:Ag ["net", "table", "begun", "name", "ways", "marks", "last", "then", "index", "telling"] ["net", "table", "begun", "name"] (A6 Rq):=by trivial
def fG:Ag ["table"] ["table"] (A6 Pp):=by trivial
def Cf:Av (A6 Pp) ["table"] {kind:=.function,names:=[(".0",.local),("pair",.local)],isGenerator:=false,isCoroutine:=false,more:=[]:PySem.Scope} ["pair"] 1 []:=by trivial
def MC:Ag ["ways", "tree", "number", "way", "branch", "mark"] ["ways"] (A6 Rr):=by trivial
def NA:Ag ["net", "mark", "scope", "kind", "index", "steps", "tellings"] ["net", "mark"] (A6 Rs):=by trivial
def MD:Ag ["net", "better", "tree", "way", "numbers", "branch", "mark", "label", "beside"] ["net", "better", "tree", "way"] (A6 Rt):=by trivial
def T8:Ag ["net", "table", "ways", "better", "tree"] ["net", "table", "ways"] (A6 Pq):=by trivial
def C3:Av (A6 Pq) ["net", "table", "ways", "better", "tree"] {kind:=.function,names:=[ (".0",.local),("way",.local),("first_hider",.globalImplicit),("list",.globalImplicit),("better",.free),("net",.free),("tree",.free)],isGenerator:=false,isCoroutine:=false,more:=[]:PySem.Scope} ["way", "net", "better", "tree"] 1 [0,3,4]:=by trivial
def Xx:Ag ["net", "table", "begun", "name", "found"] ["net", "table", "begun", "name"] (A6 Ru):=by trivial
def OV:Ag ["net", "table", "found", "owed", "better", "tree", "way", "question"] ["net", "table", "found", "owed"] (A6 Rv):=by trivial
def OW:Ag ["net", "mark", "scope", "kind", "index", "tellings"] ["net", "mark"] (A6 Rw):=by trivial
def NB:Ag ["net", "answers", "seen", "way", "label", "name", "kind", "number"] ["net", "answers", "seen"] (A6 Rx):=by trivial
def ME:Ag ["net", "answers", "way", "label", "name", "kind", "number"] ["net", "answers", "way"] (A6 Ry):=by trivial
def J7:Ag ["net", "answers", "table", "owed", "look", "at", "begun", "found", "seen", "waiting", "way", "question", "meanings"] ["net", "answers", "table", "owed", "look", "at"] (A6 M6):=by trivial
def GK:Av (A6 M6) ["net", "answers", "table", "owed", "look", "at", "begun", "found", "seen", "waiting", "way", "question", "meanings"] {kind:=.function,names:=[ (".0",.local),("way",.local),("meaning",.globalImplicit),("answers",.free),("net",.free)],isGenerator:=false,isCoroutine:=false,more:=[]:PySem.Scope} ["way", "net", "answers"] 1 [0,1]:=by trivial
def GL:Av (A6 M6) ["net", "answers", "table", "owed", "look", "at", "begun", "found", "seen", "waiting", "way", "question", "meanings"] {kind:=.function,names:=[(".0",.local),("thing",.local)],isGenerator:=false,isCoroutine:=false,more:=[]:PySem.Scope} ["thing"] 1 []:=by trivial
def GN:Av (A6 M6) ["net", "answers", "table", "owed", "look", "at", "begun", "found", "seen", "waiting", "way", "question", "meanings"] {kind:=.function,names:=[ (".0",.local),("thing",.local),("meanings",.free)],isGenerator:=false,isCoroutine:=false,more:=[]:PySem.Scope} ["thing", "meanings"] 1 [12]:=by trivial
def J8:Ag ["net", "answers", "table", "begun", "ways", "marks", "last", "then", "mark", "kind", "number", "after"] ["net", "answers", "table", "begun"] (A6 Rz):=by trivial
def Gr:Ag ["net", "answers", "table", "asked", "scope", "state", "path", "looks", "things", "at", "name", "begun", "answer", "wait", "kind", "number"] ["net", "answers", "table", "asked"] (A6 RA):=by trivial
def Ua:Ag ["net", "thing", "kind", "number"] ["net", "thing"] (A6 RB):=by trivial
def fH:Ag ["net", "answer"] ["net", "answer"] (A6 RC):=by trivial
def K1:Ag ["net", "answers", "table", "begun", "questions", "marks", "last", "then", "label", "kind", "number"] ["net", "answers", "table", "begun"] (A6 RD):=by trivial
def MF:Ag ["net", "found", "questions", "way", "label", "name", "kind", "number"] ["net", "found"] (A6 RE):=by trivial
def NC:Ag ["net", "answers", "table", "looks", "things", "questions", "begun", "found", "seen", "thing"] ["net", "answers", "table", "looks", "things"] (A6 RF):=by trivial
def MG:Ag ["net", "answers", "table", "due", "uses", "found", "question", "answer", "wait", "looks", "things"] ["net", "answers", "table", "due", "uses"] (A6 RG):=by trivial
def fI:Ag ["questions", "new"] ["questions", "new"] (A6 Pr):=by trivial
def Dv:Av (A6 Pr) ["questions", "new"] {kind:=.function,names:=[ (".0",.local),("question",.local),("new",.free)],isGenerator:=false,isCoroutine:=false,more:=[]:PySem.Scope} ["question", "new"] 1 [1]:=by trivial
def Xy:Ag ["net", "answers", "table", "answered", "question"] ["net", "answers", "table", "answered"] (A6 RH):=by trivial
def Hh:Ag ["net", "table", "known", "those", "answers", "turns", "uses", "due", "turn", "found", "question", "answer", "new"] ["net", "table", "known", "those"] (A6 M7):=by trivial
def CK:Av (A6 M7) ["net", "table", "known", "those", "answers", "turns", "uses", "due", "turn", "found", "question", "answer", "new"] {kind:=.function,names:=[ (".0",.local),("question",.local),("answer",.local),("those",.free)],isGenerator:=false,isCoroutine:=false,more:=[]:PySem.Scope} ["question", "answer", "those"] 2 [3]:=by trivial
def DZ:Av (A6 M7) ["net", "table", "known", "those", "answers", "turns", "uses", "due", "turn", "found", "question", "answer", "new"] {kind:=.function,names:=[ (".0",.local),("question",.local),("uses_one",.globalImplicit),("answers",.free),("new",.free),("uses",.free)],isGenerator:=false,isCoroutine:=false,more:=[]:PySem.Scope} ["question", "new", "answers", "uses"] 1 [12,4,6]:=by trivial
def D0:Av (A6 M7) ["net", "table", "known", "those", "answers", "turns", "uses", "due", "turn", "found", "question", "answer", "new"] {kind:=.function,names:=[ (".0",.local),("question",.local),("answers",.free)],isGenerator:=false,isCoroutine:=false,more:=[]:PySem.Scope} ["question", "answers"] 1 [4]:=by trivial
def Xz:Ag ["net", "table", "many"] ["net", "table"] (A6 RI):=by trivial
def Ub:Ag ["_law_net", "_law_told", "_law_answer", "_law_turn"] ["_law_net", "_law_told"] (A6 RJ):=by trivial
def Uc:Ag ["_law_found", "_law_due", "_law_one", "_law_other"] ["_law_found", "_law_due"] (A6 NJ):=by trivial
def OX:Ag ["net", "answers", "table", "question", "answer", "wait", "looks", "things"] ["net", "answers", "table", "question"] (A6 RK):=by trivial
def fJ:Ag ["_law_answers", "_law_turns", "_law_turn"] ["_law_answers", "_law_turns", "_law_turn"] (A6 Ps):=by trivial
def Cu:Av (A6 Ps) ["_law_answers", "_law_turns", "_law_turn"] {kind:=.function,names:=[ (".0",.local),("_law_k",.local),("int",.globalImplicit),("_law_answers",.free),("_law_turn",.free),("_law_turns",.free)],isGenerator:=false,isCoroutine:=false,more:=[]:PySem.Scope} ["_law_k", "_law_answers", "_law_turn", "_law_turns"] 1 [0,2,1]:=by trivial
def J9:Ag ["_law_script", "_law_net", "_law_table_here", "_law_handed", "_law_told", "_law_answers", "_law_turns", "_law_k", "_law_early"] ["_law_script"] (A6 Kv):=by trivial
structure BH (mg:Str->Option Value):Prop where
 b_all:mg "all" = none
 b_any:mg "any" = none
 b_bool:mg "bool" = none
 b_dict:mg "dict" = none
 b_enumerate:mg "enumerate" = none
 b_int:mg "int" = none
 b_isinstance:mg "isinstance" = none
 b_len:mg "len" = none
 b_list:mg "list" = none
 b_min:mg "min" = none
 b_range:mg "range" = none
 b_set:mg "set" = none
 b_sorted:mg "sorted" = none
 b_str:mg "str" = none
 b_tuple:mg "tuple" = none
 b_zip:mg "zip" = none
 c_MOST_BEGINNINGS:∃t,mg "MOST_BEGINNINGS" = some (.int 200 t)
variable {us:List Value}
def Io(h:us.length=1):∃a,us=[a]:=by
 cases us with
 |nil=>cases h
 |cons a t=>exact⟨a,by rw[List.length_eq_zero_iff.mp (Nat.succ.inj h)]⟩
def Ip(h:us.length=2):∃a b,us=[a,b]:=by
 cases us with
 |nil=>cases h
 |cons a t =>
   obtain⟨b,rfl⟩:=Io (Nat.succ.inj h);exact⟨a,b,rfl⟩
def K2(h:us.length=3):∃a b c,us=[a,b,c]:=by
 cases us with
 |nil=>cases h
 |cons a t =>
   obtain⟨b,c,rfl⟩:=Ip (Nat.succ.inj h);exact⟨a,b,c,rfl⟩
def K3(h:us.length=4):∃a b c d,us=[a,b,c,d]:=by
 cases us with
 |nil=>cases h
 |cons a t =>
   obtain⟨b,c,d,rfl⟩:=K2 (Nat.succ.inj h);exact⟨a,b,c,d,rfl⟩
def K4(h:us.length=5):∃a b c d e,us=[a,b,c,d,e]:=by
 cases us with
 |nil=>cases h
 |cons a t =>
   obtain⟨b,c,d,e,rfl⟩:=K3 (Nat.succ.inj h);exact⟨a,b,c,d,e,rfl⟩
def K5(h:us.length=6):∃a b c d e f,us=[a,b,c,d,e,f]:=by
 cases us with
 |nil=>cases h
 |cons a t =>
   obtain⟨b,c,d,e,f,rfl⟩:=K4 (Nat.succ.inj h);exact⟨a,b,c,d,e,f,rfl⟩
open PySem PySem.Spec PyProof.Rows L2 in
def BZ{P:Program}{w:World}{K:Ah}{g:Str->Option Value}{l:Heap}{x e:Str}{st:Stmt}{f:Addr}{i:FuncData}{N ps:List Str}{k:Nat}{sp:Sp}(F:Bu K x e st f i)(m:g x=some (.ref f))(S:Ag N ps (A6 st))(len:∀vs H Q E,sp vs H Q E->vs.length=ps.length)
  (u:∀(d:Value)(A:Around)(v:List Env)(s:Shared)(H:Hp)(vs:List V)(Q:VK)(E:XK),B1 k (A.deeper (envOfC e (A6 st) s.heap.objs.size f d))->sp vs H Q E -> ∃t,Gm (AG IJ P w K g l N e (A6 st) f d A v s H E).nox (IC st) t/\t {nx:=λζ H'=>Q .non H',rt:=Q} (start N vs) H)
  (n:∀(kV r o:Value)(p:Option Addr)(d ct:Value)(us:List Value),us.length=ps.length->bindArgs (PySem.W.fnOf x e (Ku st) (IC st) (A6 st) .none kV r o p d ct) ⟨us,[]⟩=pure (ps.zip us):=by intro _ _ _ _ _ _ us a;first|(obtain⟨b,rfl⟩:=Io a;rfl)|(obtain⟨b,c,rfl⟩:=Ip a;rfl)|(obtain⟨b,c,h,rfl⟩:=K2 a;rfl)|(obtain⟨b,c,h,j,rfl⟩:=K3 a;rfl)|(obtain⟨b,c,h,j,q,rfl⟩:=K4 a;rfl)|(obtain⟨b,c,h,j,q,y,rfl⟩:=K5 a;rfl)):BG P w K g l x (k+1) ps sp:=⟨f,i,F.ok S len u,m,F.kp,F.binds n⟩
def OY(h:us.length=7):∃a b c d e f g,us=[a,b,c,d,e,f,g]:=by
 cases us with
 |nil=>cases h
 |cons a t =>
   obtain⟨b,c,d,e,f,g,rfl⟩:=K5 (Nat.succ.inj h);exact⟨a,b,c,d,e,f,g,rfl⟩
def XA(h:us.length=8):∃a b c d e f g i,us=[a,b,c,d,e,f,g,i]:=by
 cases us with
 |nil=>cases h
 |cons a t =>
   obtain⟨b,c,d,e,f,g,i,rfl⟩:=OY (Nat.succ.inj h);exact⟨a,b,c,d,e,f,g,i,rfl⟩
section
set_option maxHeartbeats 4000000
seal L2.PE L2.PA L2.PS L2.Gm L2.PT L2.PW L2.PC L2.PG L2.NR L2.PI L2.PF L2.I7 L2.Dc L2.Py L2.Ba L2.KD L2.IG L2.Se L2.PO
variable {P:Program} {w:World} {K:Ah} {mg:Str->Option Value} {base:Heap} {f:Addr} {fd:FuncData}
def XB:(("abcdefghijklmnopqrstuvwxyz" : Str)).cps.toList.length=26:=by decide +kernel
def QF(w:Str)(c:Nat):(w++(⟨#[c]⟩:Str)).length=w.length+1:=by
 show(w.cps++#[c]).size=w.cps.size+1
 simp
def MH:∀n,n<26->(("abcdefghijklmnopqrstuvwxyz" : Str)).cps.toList[n]?=some (97+n):=by decide +kernel
def XC(n:Int):Bv (("abcdefghijklmnopqrstuvwxyz" : Str)).cps.toList (n%26)=some (97+(n%26).toNat):=by
 have a:=Fj n (by decide:(26:Int)≠0);have c:=Fi n (by decide:(0:Int)<26);obtain⟨k,b⟩:=DL a;rw[b,Bo];exact BX (MH k (by lia))
def fK(w:Str)(c:Nat):(w++(⟨#[c]⟩:Str)).cps.toList=w.cps.toList++[c]:=by
 show(w.cps++#[c]).toList=_
 simp
abbrev G1 (n:Int):Str:=⟨#[97+(n%26).toNat]⟩
def MI (c:Int) (k j:Nat):Int:=c/(64+3*(j:Int))+(j:Int)*(c/64%2)+(k:Int)*(if(j:Int)=c/8%(1+c%8) then 1 else 0)
def EI (c:Int) (k:Nat):Nat->Str
 |0 => ""
 |j+1=>EI c k j++G1 (MI c k j)
def Gg (c:Int) (m:Nat):List Str:=(List.range m).map λk=>EI c k (1+c%8).toNat
def G2 (c:Int) (m:Nat):List Str:=if c/128%3=1/\1+c%8<8 then(Gg c m).set 1 (EI c 0 (1+c%8).toNat++G1 (c/384)) else Gg c m
theorem Ka(c:Int)(k:Nat):∀j,(EI c k j).length=j
 |0=>show("" : Str).length=0 by decide +kernel
 |j+1=>by
   show(EI c k j++G1 (MI c k j)).length=j+1;rw[QF,Ka c k j]
theorem Ud(c:Int)(k:Nat){a:Nat}:∀{j:Nat},a<j->(EI c k j).cps.toList[a]?=some (97+(MI c k a%26).toNat)
 |0,h=>absurd h (Nat.not_lt_zero _)
 |j+1,h=>by
   show(EI c k j++G1 (MI c k j)).cps.toList[a]?=_;rw[fK];have b:(EI c k j).cps.toList.length=j:=by rw[Array.length_toList];exact Ka c k j
   by_cases d:a<j;rw[EJ (by rw[b];exact d)];exact Ud c k d;have e:a=j:=(by lia);subst e;rw[EW (by rw[b];exact AD _),b,Nat.sub_self];rfl
def OZ(c:Int)(m:Nat):(Gg c m).length=m:=by unfold Gg;rw[An,List.length_range]
def ND(c:Int)(m:Nat):(G2 c m).length=m:=by
 unfold G2;split;rw[F4,OZ];exact OZ c m
variable {c:Int}
def MJ{j:Nat}(l:i<26)(m:j<26)(h:EI c i (1+c%8).toNat=EI c j (1+c%8).toNat):i=j:=by
 have g:=Fj (c/8) (show(1+c%8)≠0 by lia);have n:=Fi (c/8) (show 0<1+c%8 by lia);obtain⟨a,k⟩:=DL g;have f:a<(1+c%8).toNat:=(by lia);have e:=Ud c i f;rw[h,Ud c j f] at e;have d:=AO e;unfold MI at d;rw[Al k.symm] at d;generalize c/(64+3*(a:Int))+(a:Int)*(c/64%2)=b at d;lia
variable {m:Nat}
def Iq(d:m<=26):(Gg c m).Nodup:=by
 unfold Gg;refine List.pairwise_iff_getElem.mpr λi j a b f e=>?_;rw[An,List.length_range] at a b;rw[List.getElem_map,List.getElem_map,List.getElem_range,List.getElem_range] at e;have:=MJ (by lia) (by lia) e;lia
def fL:∀y∈Gg c m,y.length=(1+c%8).toNat:=λy a=>by
 obtain⟨k,_,rfl⟩:=A3.mp a;exact Ka _ _ _
def XD(a:m<=26):(G2 c m).Nodup:=by
 unfold G2;split;refine List.pairwise_iff_getElem.mpr λi j f g h e=>?_;rw[F4,OZ] at f g;have d:∀(k:Nat)(b:k<(Gg c m).length),(Gg c m)[k].length=(1+c%8).toNat:=λk b=>fL _ (Ep b);rw[List.getElem_set,List.getElem_set] at e;split at e;rw[Ak (by lia)] at e;have:=BJ Str.length e;rw[QF,Ka,d] at this;lia;split at e;have:=BJ Str.length e;rw[QF,Ka,d] at this;lia;exact absurd e ((List.pairwise_iff_getElem.mp (Iq (c:=c) a)) i j _ _ h);exact Iq a
def fM{k:Nat}:(EI c k (1+c%8).toNat).length<=8:=by rw[Ka];lia
set_option tactic.hygienic true in
def K6:∀x∈G2 c m,x.length<=8:=by
 intro x a;unfold G2 at a
 have b:∀y∈Gg c m,y.length<=8:=λy d=>by
  obtain⟨k,_,rfl⟩:=A3.mp d;exact fM
 split at a;rename_i e;rcases List.mem_or_eq_of_mem_set a with h|rfl;exact b x h;rw[QF,Ka];lia;exact b x a
inductive Dw (K:Ah) (vs:List V) (H:Hp) (Q:VK):Prop where
 |mk (c:Int) (m:Nat) (h0:vs=[.int c,.int m]) (h1:2<=m) (h2:m<=26) (h3:∀(L:Addr)(H':Hp),H L=none->Ac H H'->H' L=some (.lst ((G2 c m).map V.str))->Q (.ref L) H'):Dw K vs H Q
def fN (K:Ah):Sp:=λvs H Q ζ=>Dw K vs H Q
variable (P w K mg base) in
abbrev Ue:Prop:=BG P w K mg base "_law_names" 1 ["_law_cell", "_law_many"] (fN K)
theorem fO(B:BH mg)(F:Bu K "_law_names" "_law_names" Q9 f fd)(N:mg "_law_names" = some (.ref f)):Ue P w K mg base:=by
 refine BZ F N IQ (λO H Q E h=>?_) (λae A ag s H O Q E hr h=>?_);obtain⟨c,m,rfl,_⟩:=h;rfl
 . obtain⟨c,m,rfl,m0,m9,q⟩:=h
   refine⟨_,(Ao (AX (i:=2) IQ.nd B6)
    (Ao (AX (i:=3) IQ.nd (AF Ho Ai (AF Bs (pv 0) Ai)))
    (Ao (AX (i:=4) IQ.nd (AF Bs (AF FJ (pv 0) Ai) (pv 3)))
    (Ao (AX (i:=5) IQ.nd (CC Af))
    (Ao (CP CB rfl (Jb rfl B.b_range (Ab (pv 1) Af)) (AA (i:=6) IQ.nd) (Ao (AX (i:=7) IQ.nd B6)
     (Ao (CP CB rfl (Jb rfl B.b_range (Ab (pv 3) Af)) (AA (i:=8) IQ.nd) (Ao (AX (i:=9) IQ.nd (AF Ho (AF FJ (pv 0) (AF Ho Ai (AF EL Ai (pv 8)))) (AF EL (pv 8) (AF Bs (AF FJ (pv 0) Ai) Ai))))
      (At (AX (i:=7) IQ.nd (AF U6 (pv 7) (Ay Az (pv 2) (AF Bs (AF Ho (pv 9) (AF EL (pv 6) (GA R9 B.b_int (Ab (Jc CF (pv 8) (pv 4) (Bp _)) Af)))) Ai)))))))
     (At (Db (DN Dp EE EF EH (pv 5) (Ab (pv 7) Af)))))))
    (Ao (Bj (PW.pt (GU (Bt CF (AF Bs (AF FJ (pv 0) Ai) Ai) Ai (Bp _)) (GS (Bt F9 (pv 3) Ai (Bp _))))) (At (Eb (AF U6 (Ay Az (pv 5) Ai) (Ay Az (pv 2) (AF Bs (AF FJ (pv 0) Ai) Ai))) (Pw (pv 5) Ai Sg))) Bm)
    (At (AW (pv 5))))))))),?_⟩
   (try dsimp only[AG,Cx.nox,Cx.wish]);refine Sx ?_;cbv;refine⟨(by show(0:Int)<8;decide),?_⟩;cbv;have z0:1<=1+c%8/\1+c%8<=8:=(by lia);refine⟨⟨by decide,by decide⟩,(by show 0<1+c%8;lia),?_⟩;cbv;refine⟨by decide,λL t=>?_⟩;obtain⟨aa,U,R,W⟩:=new_at (o:=.lst []) t;rw[<-U];refine⟨by lia,by lia,Lq (lo:=0) (n:=m) (λi σ g=>∃u v a d,σ=[some (.int c),some (.int m),some (.str "abcdefghijklmnopqrstuvwxyz"),some (.int (1+c%8)),some (.int (c/8%(1+c%8))),some (.ref L),u,v,a,d]/\Ac H g/\g L=some (.lst ((Gg c i).map V.str))) ⟨none,none,none,none,rfl,R,W⟩ ?_ ?_⟩;rotate_left
   . refine λσ M G=>AM λS r=>?_
     obtain⟨u,v,a,d,rfl,p,l⟩:=G;refine r ?_;clear r;cbv;refine HF (λσ' g=>σ'=[some (.int c),some (.int m),some (.str "abcdefghijklmnopqrstuvwxyz"),some (.int (1+c%8)),some (.int (c/8%(1+c%8))),some (.ref L),u,v,a,d]/\Ac H g/\g L=some (.lst ((G2 c m).map V.str))) ?_ (λab x=>?_)
     case refine_2 =>
      refine⟨⟨by decide,by decide⟩,(by show(0:Int)<3;decide),rfl,rfl,Am (λy=>?_) (λy=>Bb ?_)⟩;rotate_left;have I:¬c/128%3=1:=λe=>y (A7 (by show V.int (c/128%3)=V.int 1;rw[e]));refine x _ _ ⟨rfl,p,?_⟩;unfold G2;rw[Ak λz=>I z.1];exact l;have I:c/128%3=1:=V.int.inj (Bi y);refine⟨rfl,Am (λC=>?_) (λC=>?_)⟩;rotate_left;have J:¬1+c%8<8:=λe=>C (A7 e);refine x _ _ ⟨rfl,p,?_⟩;unfold G2;rw[Ak λz=>J z.2];exact l;have J:1+c%8<8:=Bi C;have hl:(Gg c m).length=m:=OZ c m
      have X:(Gg c m)[0]?=some (EI c 0 (1+c%8).toNat):=by
       unfold Gg;rw[Bh,List.getElem?_range (by lia)];rfl
      have Y:Bv ((Gg c m).map V.str) 0=some (V.str (EI c 0 (1+c%8).toNat)):=BX (j:=0) (by rw[Bh,X];rfl);refine Or.inl ⟨_,.str (EI c 0 (1+c%8).toNat),Ae.of l,Y,⟨by decide,by decide⟩,(by show(0:Int)<26;decide),Or.inr (Or.inr ⟨_,_,_,rfl,rfl,by decide +kernel,XC (c/384),EI c 0 (1+c%8).toNat,_,rfl,rfl,?_,L,_,_,1,rfl,rfl,l,?_,?_⟩)⟩;show(EI c 0 (1+c%8).toNat).length+1<=sizeLine;rw[Ka];exact Dm (BK (by lia));exact Sy (k:=1) (by decide) (by rw[An];lia);refine x _ _ ⟨rfl,λb o e=>?_,?_⟩;rw[AE (AK e t)];exact p _ _ e;unfold G2;rw[Aa,Al ⟨I,J⟩,List.map_set]
     rintro σ' D ⟨rfl,T,Z⟩;exact q L D t T Z
   refine λi σ M hi G=>AM λS r=>?_;obtain⟨u,v,a,d,rfl,p,l⟩:=G;refine r ?_;clear r;refine Sx ?_;cbv;refine⟨by lia,by lia,Lq (lo:=0) (n:=(1+c%8).toNat) (λj σ g=>∃(a d:Option V),σ=[some (.int c),some (.int m),some (.str "abcdefghijklmnopqrstuvwxyz"),some (.int (1+c%8)),some (.int (c/8%(1+c%8))),some (.ref L),some (.int (0+(i:Int))),some (.str (EI c i j)),a,d]/\g=M) ⟨_,_,rfl,rfl⟩ ?_ ?_⟩;rotate_left;rintro σ D ⟨a,d,rfl,rfl⟩;refine⟨Or.inl ⟨rfl,_,Ae.of l⟩,_,l,by rw[An,OZ];exact BK (by lia),?_⟩;refine⟨_,_,_,_,rfl,λb o e=>?_,?_⟩;rw[AE (AK e t)];exact p _ _ e;rw[Aa];unfold Gg;rw[List.range_succ,Br,Br];rfl;rintro j σ D hj ⟨a,d,rfl,rfl⟩;have af:j<8:=(by lia);refine⟨Or.inl ⟨by lia,by lia⟩,⟨by lia,by lia⟩,⟨by decide,by decide⟩,(by show(0:Int)<2;decide),Or.inl ⟨by lia,by lia⟩,?_⟩;refine⟨rfl,Or.inr ⟨_,rfl,Or.inl ⟨by lia,by lia⟩,(by show(0:Int)<26;decide),Or.inr (Or.inr ⟨_,_,_,rfl,rfl,by decide +kernel,XC _,EI c i j,_,rfl,rfl,?_,?_⟩)⟩⟩;show(EI c i j).length+1<=sizeLine;rw[Ka];exact Dm (BK (by lia));refine⟨some (.int (0+(j:Int))),some (.int (c/(64+3*(0+(j:Int)))+(0+(j:Int))*(c/64%2))),?_,rfl⟩
   have e:EI c i (j+1)=EI c i j++G1 (c/(64+3*(0+(j:Int)))+(0+(j:Int))*(c/64%2)+(0+(i:Int))*(if decide (V.int (0+(j:Int))=V.int (c/8%(1+c%8)))=true then 1 else 0)):=by
    show EI c i j++G1 (MI c i j)=_;unfold MI;simp only[Int.zero_add,decide_eq_true_eq,V.int.injEq]
   rw[e];rfl
variable {ns:List Int}
def fP{k:Int}(b:0<=k)(c:k<ns.length):Bv (ns.map V.int) k=some (V.int (Fq ns k)):=by
 obtain⟨n,rfl⟩:=DL b;have a:n<ns.length:=(by lia);refine BX ?_;rw[Bh,AC a];show some (V.int ns[n])=some (V.int ((ns[((n:Int)).toNat]?).getD 0));rw[Bo,AC a];rfl
def fQ{k:Int}(a:0<=k)(b:¬k<ns.length):Fq ns k=0:=by
 unfold Fq;rw[Fh (by lia)];rfl
def fR (K:Ah):Sp:=λvs H Q ζ=>∃a ns k,vs=[.ref a,.int k]/\0<=k/\Ae K H a (ns.map V.int)/\Q (.int (Fq ns k)) H
variable (P w K mg base) in
abbrev Uf:Prop:=BG P w K mg base "_law_cell_at" 1 ["_law_script", "_law_k"] (fR K)
theorem fS(B:BH mg)(F:Bu K "_law_cell_at" "_law_cell_at" Ra f fd)(g:mg "_law_cell_at" = some (.ref f)):Uf P w K mg base:=by
 refine BZ F g fF (λi H Q E h=>?_) (λl A m s H i Q E j h=>?_);obtain⟨a,ns,k,rfl,_⟩:=h;rfl;obtain⟨a,ns,k,rfl,d,e,q⟩:=h
 refine⟨_,(Ao (Bj (Bt F9 (pv 1) (BE DM B.b_len (Ab (pv 0) Af)) (Bp _)) (At (AW (Ay Az (pv 0) (pv 1)))) Bm)
  (At (AW Ai))),?_⟩
 (try dsimp only[AG,Cx.nox,Cx.wish]);refine⟨_,Or.inl ⟨_,e,rfl⟩,rfl,?_⟩;rw[An];refine Am (λb=>?_) (λc=>?_);have b:=Bi b;exact Or.inl ⟨_,_,e,fP d b,q⟩;have c:¬k<(ns.length:Int):=λz=>c (A7 z);show Q (.int 0) H;rw[fQ d c] at q;exact q
def O0 (n:Int):Nat->Int
 |0=>n
 |k+1=>O0 n k/5
def G3 (n:Int) (m:Nat):List Int:=(List.range m).map λk=>O0 n k%5
def QG(n:Int)(m:Nat):(G3 n m).length=m:=by unfold G3;rw[An,List.length_range]
def fT(n:Int)(m:Nat):G3 n (m+1)=G3 n m++[O0 n m%5]:=by unfold G3;rw[List.range_succ,Br];rfl
def Ug(n:Int){k:Nat}(h:k<m):(G3 n m)[k]?=some (O0 n k%5):=by unfold G3;rw[Bh,List.getElem?_range h];rfl
inductive Dx (K:Ah) (vs:List V) (H:Hp) (Q:VK):Prop where
 |mk (n:Int) (m:Nat) (h0:vs=[.int n,.int m]) (h1:m<=100) (h2:∀(D:Addr)(H':Hp),H D=none->Ac H H'->H' D=some (.lst ((G3 n m).map V.int))->Q (.ref D) H'):Dx K vs H Q
def fU (K:Ah):Sp:=λvs H Q ζ=>Dx K vs H Q
variable (P w K mg base) in
abbrev QH:Prop:=BG P w K mg base "_law_ranks" 1 ["_law_number", "_law_many"] (fU K)
theorem fV(B:BH mg)(F:Bu K "_law_ranks" "_law_ranks" Rb f fd)(j:mg "_law_ranks" = some (.ref f)):QH P w K mg base:=by
 refine BZ F j QA (λp H Q E h=>?_) (λy A z s H p Q E v h=>?_);obtain⟨n,m,rfl,_⟩:=h;rfl
 . obtain⟨n,m,rfl,j,q⟩:=h
   refine⟨_,(Ao (AX (i:=2) QA.nd (CC Af))
    (Ao (CP CB rfl (Jb rfl B.b_range (Ab (pv 1) Af)) (AA (i:=3) QA.nd) (Ao (Db (DN Dp EE EF EH (pv 2) (Ab (AF Bs (pv 0) Ai) Af)))
     (At (AX (i:=0) QA.nd (AF FJ (pv 0) Ai)))))
    (At (AW (pv 2))))),?_⟩
   (try dsimp only[AG,Cx.nox,Cx.wish]);refine⟨by decide,λD c=>?_⟩;obtain⟨Y,t,r,u⟩:=new_at (o:=.lst []) c;rw[<-t];refine⟨by lia,by lia,Lq (lo:=0) (n:=m) (λi σ k=>∃d,σ=[some (.int (O0 n i)),some (.int m),some (.ref D),d]/\Ac H k/\k D=some (.lst ((G3 n i).map V.int))) ⟨none,rfl,r,u⟩ ?_ ?_⟩;rotate_left;rintro σ l ⟨d,rfl,g,a⟩;exact q D l c g a;rintro i σ l x ⟨d,rfl,g,a⟩;refine⟨Or.inl ⟨rfl,_,Ae.of a⟩,(by show(0:Int)<5;decide),_,a,by rw[An,QG];exact BK (by lia),?_⟩;refine⟨⟨by decide,by decide⟩,?_⟩;refine⟨_,rfl,λb o e=>?_,?_⟩;rw[AE (AK e c)];exact g _ _ e;rw[Aa,fT,Br];rfl
def Ey (ls:List Str) (one oth:List Int) (j k:Nat):A':=if one.getD j 0<one.getD k 0/\oth.getD j 0<oth.getD k 0 then[(ls.getD j default,ls.getD k default)] else[]
def F0 (ls:List Str) (one oth:List Int) (j n:Nat):A':=(List.range n).flatMap (Ey ls one oth j)
def ES (ls:List Str) (one oth:List Int) (n:Nat):A':=(List.range n).flatMap λj=>F0 ls one oth j ls.length
def QI(ls:List Str)(one a:List Int)(j n:Nat):F0 ls one a j (n+1)=F0 ls one a j n++Ey ls one a j n:=by unfold F0;rw[List.range_succ,List.flatMap_append];simp
def XE(ls:List Str)(one a:List Int)(n:Nat):ES ls one a (n+1)=ES ls one a n++F0 ls one a n ls.length:=by unfold ES;rw[List.range_succ,List.flatMap_append];simp
def fW(ls:List Str)(one a:List Int)(j k:Nat):(Ey ls one a j k).length<=1:=by unfold Ey;split<;>simp
theorem Uh(ls:List Str)(one a:List Int)(j:Nat):∀n,(F0 ls one a j n).length<=n
 |0=>AD _
 |n+1=>by
   rw[QI,AY];have:=Uh ls one a j n;have:=fW ls one a j n;lia
theorem QJ(ls:List Str)(one a:List Int):∀n,(ES ls one a n).length<=n*ls.length
 |0=>by simp[ES]
 |n+1=>by
   rw[XE,AY,Nat.succ_mul];have:=QJ ls one a n;have:=Uh ls one a n ls.length;lia
def Gu (c:Int) (m:Nat):List Int:=G3 (c*48271%2147483647) m
def F1 (c:Int) (m:Nat):List Int:=if c%2=1 then G3 (c*69621%2147483629) m else Gu c m
def XF(c:Int)(m:Nat):(Gu c m).length=m:=QG _ _
def Kb(c:Int)(m:Nat):(F1 c m).length=m:=by unfold F1;split;exact QG _ _;exact XF _ _
structure Ez (c:Int) (ls:List Str) (ord:A'):Prop where
 perm:ord.Perm (ES ls (Gu c ls.length) (F1 c ls.length) ls.length)
 srt:ord.Pairwise (BN Dd Dd).kle
variable {ls:List Str}{o:A'}
def Ez.uniq{u:A'}(h:Ez c ls o)(k:Ez c ls u):o=u:=LW (O:=BN Dd Dd) (h.perm.trans k.perm.symm) h.srt k.srt
def Ez.len(h:Ez c ls o)(a:ls.length<=6):o.length<=36:=by
 have b:=h.perm.length_eq;have d:=QJ ls (Gu c ls.length) (F1 c ls.length) ls.length;have e:ls.length*ls.length<=6*6:=Nat.mul_le_mul a a;lia
set_option tactic.hygienic true in
def Ez.irr(h:Ez c ls o)(g:ls.Nodup)(x:Str):(x,x)∉o:=λi=>by
 have l:=h.perm.mem_iff.mp i;obtain⟨j,b,m⟩:=List.mem_flatMap.mp l;obtain⟨k,d,a⟩:=List.mem_flatMap.mp m;rw[List.mem_range] at b d;unfold Ey at a;split at a;rename_i p;have e:=AZ.mp a;have n:x=ls.getD j default:=BJ Prod.fst e;have f:x=ls.getD k default:=BJ Prod.snd e;rw[n,B0,B0,AC b,AC d] at f
 have:=(List.getElem_inj g).mp (show ls[j]=ls[k] from f)
 subst this;exact absurd p.1 (Int.lt_irrefl _);cases a
variable {x:Str}
set_option tactic.hygienic true in
def Ir{one d:List Int}{y:Str}(h:(x,y)∈ES ls one d ls.length):∃j k,ls[j]?=some x/\ls[k]?=some y/\one.getD j 0<one.getD k 0/\d.getD j 0<d.getD k 0:=by
 obtain⟨j,b,i⟩:=List.mem_flatMap.mp h;obtain⟨k,c,a⟩:=List.mem_flatMap.mp i;rw[List.mem_range] at b c;unfold Ey at a;split at a;rename_i l;have e:=AZ.mp a;have f:x=ls.getD j default:=BJ Prod.fst e;have g:y=ls.getD k default:=BJ Prod.snd e;rw[B0,AC b] at f;rw[B0,AC c] at g;refine⟨j,k,?_,?_,l⟩;rw[AC b,f];rfl;rw[AC c,g];rfl;cases a
def MK{one a:List Int}{y:Str}{j k:Nat}(b:ls[j]?=some x)(c:ls[k]?=some y)(h:one.getD j 0<one.getD k 0/\a.getD j 0<a.getD k 0):(x,y)∈ES ls one a ls.length:=by
 refine List.mem_flatMap.mpr ⟨j,List.mem_range.mpr (A8.mp b).1,List.mem_flatMap.mpr ⟨k,List.mem_range.mpr (A8.mp c).1,?_⟩⟩;unfold Ey;rw[Al h,B0,B0,b,c];exact AZ.mpr rfl
def Ez.tr(h:Ez c ls o)(b:ls.Nodup)(x y z:Str)(d:(x,y)∈o)(e:(y,z)∈o):(x,z)∈o:=by
 obtain⟨j,k,f,a,n,p⟩:=Ir (h.perm.mem_iff.mp d);obtain⟨g,l,i,m,q,r⟩:=Ir (h.perm.mem_iff.mp e);have:k=g:=(List.getElem?_inj (A8.mp a).1 b).mp (a.trans i.symm);subst this;exact h.perm.mem_iff.mpr (MK f m ⟨by lia,by lia⟩)
def K7{xs:List Int}{v:Int}(h:xs[i]?=some v):xs.getD i 0=v:=by rw[B0,h];rfl
variable {xs:List Str}
def XG{v:Str}(h:xs[i]?=some v):xs.getD i default=v:=by rw[B0,h];rfl
inductive Dy (K:Ah) (vs:List V) (H:Hp) (Q:VK):Prop where
 |mk (c:Int) (l:Addr) (ls:List Str) (h0:vs=[.int c,.ref l]) (h1:Ae K H l (ls.map V.str)) (h2:ls.length<=6) (h3:∀(D:Addr)(ts:List Addr)(ord:A')(H':Hp),H D=none->Ac H H'->H' D=some (.lst (ts.map V.ref))->Cb H' ts ord->Ez c ls ord->Q (.ref D) H'):Dy K vs H Q
def fX (K:Ah):Sp:=λvs H Q ζ=>Dy K vs H Q
variable (P w K mg base) in
abbrev Ui:Prop:=BG P w K mg base "_law_order" 2 ["_law_cell", "_law_labels"] (fX K)
theorem fY(B:BH mg)(ag:QH P w K mg base)(F:Bu K "_law_order" "_law_order" Rc f fd)(hm:mg "_law_order" = some (.ref f)):Ui P w K mg base:=by
 refine BZ F hm My (λvs H a0 a3 h=>?_) (λaK aF aN aG H vs a0 a3 hr h=>?_);obtain⟨c,l,ls,rfl,_⟩:=h;rfl
 . obtain⟨c,l,ls,rfl,E,U,a4⟩:=h
   refine⟨_,(Ao (AX (i:=2) My.nd (A9 ag (Ab (AF Bs (AF EL (pv 0) Ai) Ai) (Ab (BE DM B.b_len (Ab (pv 1) Af)) Af))))
    (Ao (AX (i:=3) My.nd (GA Oc B.b_list (Ab (pv 2) Af)))
    (Ao (Bj (Bt CF (AF Bs (pv 0) Ai) Ai (Bp _)) (At (AX (i:=3) My.nd (A9 ag (Ab (AF Bs (AF EL (pv 0) Ai) Ai) (Ab (BE DM B.b_len (Ab (pv 1) Af)) Af))))) Bm)
    (Ao (AX (i:=4) My.nd (CC Af))
    (Ao (CP CB rfl (Jb rfl B.b_range (Ab (BE DM B.b_len (Ab (pv 1) Af)) Af)) (AA (i:=5) My.nd) (At (CP CB rfl (Jb rfl B.b_range (Ab (BE DM B.b_len (Ab (pv 1) Af)) Af)) (AA (i:=6) My.nd) (At (Bj (PW.pt (GU (Bt F9 (Ay Az (pv 2) (pv 5)) (Ay Az (pv 2) (pv 6)) (Bp _)) (GS (Bt F9 (Ay Az (pv 3) (pv 5)) (Ay Az (pv 3) (pv 6)) (Bp _))))) (At (Db (DN Dp EE EF EH (pv 4) (Ab (Bx (Ab (Ay Az (pv 1) (pv 5)) (Ab (Ay Az (pv 1) (pv 6)) Af))) Af)))) Bm)))))
    (At (AW (BE (VL EO EO) B.b_sorted (Ab (pv 4) Af))))))))),?_⟩
   (try dsimp only[AG,Cx.nox,Cx.wish]);refine⟨Or.inr ⟨by decide,by decide⟩,(by show(0:Int)<2147483647;decide),_,Or.inl ⟨_,E,rfl⟩,_,_,rfl,by rw[An];lia,λy aH a8 s1 G=>?_⟩;rw[An] at G;refine AU ?_;cbv;refine⟨y,_,rfl,Or.inl (Ae.of G),λA2 ah=>?_⟩;obtain⟨H2,a9,J,e2⟩:=new_at (o:=.lst ((G3 (c*48271%2147483647) ls.length).map V.int)) ah;rw[<-a9];refine AU ?_;cbv;have T:=s1.trans J;refine HF (λσ' b=>∃g,σ'=[some (.int c),some (.ref l),some (.ref y),some (.ref g),none,none,none]/\Ac H b/\b y=some (.lst ((Gu c ls.length).map V.int))/\b g=some (.lst ((F1 c ls.length).map V.int))) ?_ (λaI hN=>?_);rotate_left;refine⟨(by show(0:Int)<2;decide),rfl,rfl,Am (λp=>?_) (λp=>?_)⟩;have aa:c%2=1:=V.int.inj (Bi p);refine⟨Or.inr ⟨by decide,by decide⟩,(by show(0:Int)<2147483629;decide),_,Or.inl ⟨_,T.seq E,rfl⟩,_,_,rfl,by rw[An];lia,λg H3 aL I e3=>?_⟩;rw[An] at e3;refine hN _ _ ⟨g,rfl,T.trans I,I _ _ (J _ _ G),?_⟩;unfold F1;rw[Al aa];exact e3;have aa:¬c%2=1:=λe=>p (A7 (by show V.int (c%2)=V.int 1;rw[e]));refine hN _ _ ⟨A2,rfl,T,J _ _ G,?_⟩;unfold F1;rw[Ak aa];exact e2;rintro σ' H3 ⟨g,rfl,I,ai,aj⟩;clear G e2 s1 J T a8 ah;refine⟨by decide,λD L=>?_⟩;obtain⟨W,aA,X,ak⟩:=new_at (o:=.lst []) L;rw[<-aA];refine AU ?_;cbv;have ab:=I.trans X;have al:=I.free L;have l1:=XF c ls.length;have l2:=Kb c ls.length
   refine⟨_,Or.inl ⟨_,ab.seq E,rfl⟩,by lia,by rw[An];lia,Lq (lo:=0) (n:=(ls.map V.str).length) (λj σ b=>∃Y r a,σ=[some (.int c),some (.ref l),some (.ref y),some (.ref g),some (.ref D),Y,r]/\Keeps (·=D) W b/\b D=some (.lst (a.map V.ref))/\Cb b a (ES ls (Gu c ls.length) (F1 c ls.length) j))
    ⟨none,none,[],rfl,Keeps.refl λx o m e=>by rw[m,ak] at e;exact⟨_,(AO e).symm⟩,ak,Cb.nil⟩ ?_ ?_⟩
   rotate_left;refine λσ Z u=>AM λNz d=>?_;obtain⟨Y,r,a,rfl,M,ae,N⟩:=u;refine d ?_;clear d;rw[An] at N;obtain⟨zs,z1,z2,z3⟩:=V6 N
   have lz:zs.length<=36:=by
    have p:=BJ List.length z2;rw[An] at p;have O:=QJ ls (Gu c ls.length) (F1 c ls.length) ls.length;have Q:ls.length*ls.length<=6*6:=Nat.mul_le_mul U U;lia
   refine⟨D,zs,rfl,Ae.of (by rw[z1];exact ae),by lia,λz hz=>?_,λO2 af hp hw an=>?_⟩;obtain⟨t,a1,a2⟩:=z3 z hz;exact⟨t,a1,Ap.of a2⟩;have ao:Ac H Z:=λaJ o e=>M.at_ _ _ (ab _ _ e) (AK e al);have s6:=Bf (o:=.lst (af.map (·.1))) an;obtain⟨aB,t1,t2⟩:=V7 (H:=Z) (zs:=af) λz hz=>z3 z (hp.mem_iff.mp hz);refine a4 O2 aB (af.map (·.2)) _ (ao.free an) (ao.trans s6) (by rw[Aa,t1]) (t2.same s6) ⟨?_,hw⟩;rw[<-z2];exact hp.map _;refine λj σ Z R u=>AM λNz d=>?_;obtain⟨Y,r,a,rfl,M,ae,N⟩:=u;refine d ?_;clear d;refine GJ ?_;intro Nx Cy;rw[An] at R;refine AU ?_;cbv;have aq:∀{b:Hp},Keeps (·=D) W b->Ac H b:=λk x o e=>k.at_ _ _ (ab _ _ e) (AK e al);have aC:y≠D:=AK ai L;have aD:g≠D:=AK aj L
   refine⟨_,Or.inl ⟨_,(aq M).seq E,rfl⟩,by lia,by rw[An];lia,Lq (lo:=0) (n:=(ls.map V.str).length) (λk σ b=>∃r a,σ=[some (.int c),some (.ref l),some (.ref y),some (.ref g),some (.ref D),some (.int (0+(j:Int))),r]/\Keeps (·=D) W b/\b D=some (.lst (a.map V.ref))/\Cb b a (ES ls (Gu c ls.length) (F1 c ls.length) j++F0 ls (Gu c ls.length) (F1 c ls.length) j k))
    ⟨_,a,rfl,M,ae,by unfold F0;simpa using N⟩ ?_ ?_⟩
   rotate_left;refine λσ H6 u=>AM λNz d=>?_;obtain⟨r,a,rfl,q,C,s⟩:=u;refine d ?_;clear d;rw[An] at s;exact⟨_,_,a,rfl,q,C,by rw[XE];exact s⟩;refine λk σ H6 S u=>AM λNz d=>?_;obtain⟨r,a,rfl,q,C,s⟩:=u;refine d ?_;clear d;refine GJ ?_;intro Nx Cy;rw[An] at S;refine AU ?_;cbv
   have aM:a.length<=100:=by
    rw[s.len,AY];have O:=QJ ls (Gu c ls.length) (F1 c ls.length) j;have Q:j*ls.length<=6*6:=Nat.mul_le_mul (by lia) U;have h4:=Uh ls (Gu c ls.length) (F1 c ls.length) j k;lia
   have ar:=q.at_ _ _ (X _ _ ai) aC;have au:=q.at_ _ _ (X _ _ aj) aD;have av:∀n,n<ls.length->∃v,(Gu c ls.length)[n]?=some v/\Bv ((Gu c ls.length).map V.int) (0+(n:Int))=some (.int v):=λn A=>⟨_,AC (by lia),by rw[Int.zero_add];exact BX (by rw[Bh,AC (by lia)];rfl)⟩;have aw:∀n,n<ls.length->∃v,(F1 c ls.length)[n]?=some v/\Bv ((F1 c ls.length).map V.int) (0+(n:Int))=some (.int v):=λn A=>⟨_,AC (by lia),by rw[Int.zero_add];exact BX (by rw[Bh,AC (by lia)];rfl)⟩;have ax:∀n,n<ls.length->∃v,ls[n]?=some v/\Bv (ls.map V.str) (0+(n:Int))=some (.str v):=λn A=>⟨_,AC A,by rw[Int.zero_add];exact BX (by rw[Bh,AC A];rfl)⟩;obtain⟨a1,p,a5⟩:=av j R;obtain⟨a2,O,a6⟩:=av k S;obtain⟨b1,Q,a7⟩:=aw j R;obtain⟨b2,h4,g4⟩:=aw k S;obtain⟨x1,h5,g5⟩:=ax j R;obtain⟨x2,h6,g6⟩:=ax k S
   have skip:¬(a1<a2/\b1<b2)->Ey ls (Gu c ls.length) (F1 c ls.length) j k=[]:=λA=>by
    unfold Ey;rw[K7 p,K7 O,K7 Q,K7 h4,Ak A]
   refine Or.inl ⟨_,_,Ae.of ar,a5,Or.inl ⟨_,_,Ae.of ar,a6,rfl,Am (λc1=>?_) (λc1=>Bb ?_)⟩⟩;rotate_left;refine⟨_,a,rfl,q,C,?_⟩;rw[QI,skip λz=>c1 (A7 z.1),FH];exact s;refine Or.inl ⟨_,_,Ae.of au,a7,Or.inl ⟨_,_,Ae.of au,g4,rfl,Am (λc2=>?_) (λc2=>?_)⟩⟩;rotate_left;refine⟨_,a,rfl,q,C,?_⟩;rw[QI,skip λz=>c2 (A7 z.2),FH];exact s;have ay:=(aq q).seq E;refine⟨Or.inl ⟨rfl,_,Ae.of C⟩,Or.inl ⟨_,.str x1,ay,g5,Or.inl ⟨_,.str x2,ay,g6,Ca,λt ht=>?_⟩⟩⟩;obtain⟨H7,aE,s7,et⟩:=new_at (o:=.tup [.str x1,.str x2]) ht;rw[<-aE];have az:=s7 _ _ C;have k7:Keeps (·=D) H7 (upd H7 D (.lst (a.map V.ref++[.ref t]))):=Keeps.one az;refine⟨_,az,by rw[An];exact BK (by lia),?_⟩;refine⟨_,a++[t],rfl,(q.same s7).set rfl,by rw[Aa,Br];rfl,?_⟩
   have eP:Ey ls (Gu c ls.length) (F1 c ls.length) j k=[(x1,x2)]:=by
    unfold Ey;rw[K7 p,K7 O,K7 Q,K7 h4,Al ⟨Bi c1,Bi c2⟩,XG h5,XG h6]
   rw[QI,eP,<-F5];exact k7.tups ((s.same s7).snoc et)
def F2 (c:Int):List Int:=G3 (c*864691128455135233%2305843009213693951) 20
def Iu (ls:List Str) (n c:Int):Nat->List (Str×Int)
 |0=>[]
 |k+1=>Iu ls n c k++if 0<(F2 c).getD k 0 then[(ls.getD k default,(F2 c).getD (5+k) 0%n)] else[]
def IS (ls:List Str) (c:Int):Nat->List Str
 |0=>[]
 |k+1=>IS ls c k++if 0<(F2 c).getD (10+k) 0 then[ls.getD k default] else[]
theorem Uj(ls:List Str)(n c:Int):∀k,(Iu ls n c k).length<=k
 |0=>AD _
 |k+1=>by
   have:=Uj ls n c k;rw[Iu,AY];split;rw[DJ];lia;rw[Gx];lia
theorem Uk(ls:List Str)(c:Int):∀k,(IS ls c k).length<=k
 |0=>AD _
 |k+1=>by
   have:=Uk ls c k;rw[IS,AY];split;rw[DJ];lia;rw[Gx];lia
theorem XH{ls:List Str}{n c:Int}(b:0<n):∀k,∀p∈Iu ls n c k,0<=p.2/\p.2<n
 |0,p,a=>by cases a
 |k+1,p,a=>by
   rw[Iu] at a;rcases BI.mp a with a|a;exact XH b k p a;split at a;rw[AZ.mp a];exact⟨Fj _ (by lia),Fi _ b⟩;cases a
structure O1 (ls:List Str) (n c:Int) (s:Cr):Prop where
 pg:s.1.Perm (Iu ls n c 5)
 og:s.1.Pairwise (BN Dd Jq).kle
 pe:s.2.Perm (IS ls c 5)
 oe:s.2.Pairwise Dd.kle
variable {s:Cr}
def O1.uniq{n:Int}{u:Cr}(h:O1 ls n c s)(k:O1 ls n c u):s=u:=
 Prod.ext (LW (O:=BN Dd Jq) (h.pg.trans k.pg.symm) h.og k.og) (LW (O:=Dd) (h.pe.trans k.pe.symm) h.oe k.oe)
structure O3 (cs:List Int) (ls:List Str) (sts:List Cr) (inn:Int) (ord:A'):Prop where
 len:sts.length=(1+cs.getD 0 0%3).toNat
 at_:∀(i:Nat)(s:Cr),sts[i]?=some s->O1 ls (1+cs.getD 0 0%3) (cs.getD (1+i) 0) s
 inn:inn=cs.getD 0 0/3%(1+cs.getD 0 0%3)
 ord:Ez (cs.getD 4 0) ls ord
def O3.uniq{c:List Int}{ls:List Str}{a:List Cr}{inn:Int}{ord:A'}{b:List Cr}{f:Int}{g:A'}(h:O3 c ls a inn ord)(k:O3 c ls b f g):a=b/\inn=f/\ord=g:=by
 refine⟨List.ext_getElem? λi=>?_,h.inn.trans k.inn.symm,h.ord.uniq k.ord⟩;have j:=h.len.trans k.len.symm
 cases e:a[i]? with
 |none =>
   rw[List.getElem?_eq_none_iff] at e;exact(List.getElem?_eq_none_iff.mpr (by lia)).symm
 |some s =>
   have d:i<b.length:=by have:=(A8.mp e).1;lia
   rw[AC d,(h.at_ i s e).uniq (k.at_ i _ (AC d))]
def O4{xs:List Int}{n:Nat}(h:n<xs.length):Bv (xs.map V.int) (n:Int)=some (.int (xs.getD n 0)):=by
 rw[B0,AC h];exact BX (by rw[Bh,AC h];rfl)
def fZ{n:Nat}(h:n<xs.length):Bv (xs.map V.str) (n:Int)=some (.str (xs.getD n default)):=by
 rw[B0,AC h];exact BX (by rw[Bh,AC h];rfl)
def Kc(c:Int):(F2 c).length=20:=QG _ _
inductive Dz (K:Ah) (vs:List V) (H:Hp) (Q:VK):Prop where
 |mk (C L:Addr) (cs:List Int) (ls:List Str) (h0:vs=[.ref C,.ref L]) (h1:Ae K H C (cs.map V.int)) (h2:cs.length=5) (h3:Ae K H L (ls.map V.str)) (h4:ls.length=5) (h5:∀(t:Addr)(sts:List Cr)(inn:Int)(ord:A')(H':Hp),Ac H H'->FR K (λζ=>True) H' t sts inn ord->O3 cs ls sts inn ord->Q (.ref t) H'):Dz K vs H Q
def f6 (K:Ah):Sp:=λvs H Q ζ=>Dz K vs H Q
variable (P w K mg base) in
abbrev Ul:Prop:=BG P w K mg base "_law_table" 3 ["_law_cells", "_law_labels"] (f6 K)
theorem f7 (B:BH mg) (aR:QH P w K mg base) (aS:Ui P w K mg base) (F:Bu K "_law_table" "_law_table" Re f fd) (hm:mg "_law_table" = some (.ref f)):Ul P w K mg base:=by
 refine BZ F hm Mz (λvs a6 aO aP h=>?_) (λbw bu b3 s a6 vs aO aP hr h=>?_);obtain⟨C,L,a,ls,rfl,_⟩:=h;rfl
 . obtain⟨C,L,a,ls,rfl,U,c5,hL,l5,aQ⟩:=h
   have z0:=Fj (a.getD 0 0) (by decide:(3:Int)≠0);have z1:=Fi (a.getD 0 0) (by decide:(0:Int)<3);obtain⟨m,ao⟩:∃m:Nat,(m:Int)=1+a.getD 0 0%3:=⟨(1+a.getD 0 0%3).toNat,by lia⟩;have m0:1<=m/\m<=3:=(by lia);have aq:Bv (a.map V.int) ((0:Nat):Int)=some (.int (a.getD 0 0)):=O4 (by lia)
   refine⟨_,(Ao (AX (i:=2) Mz.nd (CC Af))
    (Ao (CP CB rfl (Dk (Vc Ve (pv 0) (Sd Ai) (Sd (AF Ho Ai (AF Bs (Ay Az (pv 0) Ai) Ai))))) (AA (i:=3) Mz.nd) (Ao (AX (i:=4) Mz.nd (A9 aR (Ab (AF Bs (AF EL (pv 3) Ai) Ai) (Ab Ai Af))))
     (Ao (AX (i:=5) Mz.nd (CC Af))
     (Ao (AX (i:=6) Mz.nd (CC Af))
     (Ao (CP CB rfl (Jb rfl B.b_range (Ab Ai Af)) (AA (i:=7) Mz.nd) (Ao (Bj (Bt N1 (Ay Az (pv 4) (pv 7)) Ai (Bp _)) (At (Db (DN Dp EE EF EH (pv 5) (Ab (Bx (Ab (Ay Az (pv 1) (pv 7)) (Ab (AF Bs (Ay Az (pv 4) (AF Ho Ai (pv 7))) (AF Ho Ai (AF Bs (Ay Az (pv 0) Ai) Ai))) Af))) Af)))) Bm)
      (At (Bj (Bt N1 (Ay Az (pv 4) (AF Ho Ai (pv 7))) Ai (Bp _)) (At (Db (DN Dp EE EF EH (pv 6) (Ab (Ay Az (pv 1) (pv 7)) Af)))) Bm))))
     (At (Db (DN Dp EE EF EH (pv 2) (Ab (Bx (Ab (BE (VL EO Jr) B.b_sorted (Ab (pv 5) Af)) (Ab (BE Zb B.b_sorted (Ab (pv 6) Af)) Af))) Af)))))))))
    (At (AW (Bx (Ab (pv 2) (Ab (AF Bs (AF FJ (Ay Az (pv 0) Ai) Ai) (BE DM B.b_len (Ab (pv 2) Af))) (Ab (A9 aS (Ab (Ay Az (pv 0) Ai) (Ab (pv 1) Af))) Af)))))))),?_⟩
   (try dsimp only[AG,Cx.nox,Cx.wish]);refine⟨by decide,λD a9=>?_⟩;obtain⟨H2,aT,s2,aA⟩:=new_at (o:=.lst []) a9;rw[<-aT];refine AU ?_;cbv
   have bq:EM (a.map V.int) (some 1) (some (2+a.getD 0 0%3))=((a.drop 1).take m).map V.int:=by
    rw[show(2+a.getD 0 0%3:Int)=((m+1:Nat):Int) by lia];exact(YV _ 1 (m+1) (by lia)).trans (by rw[show m+1-1=m by lia,<-List.map_drop,<-List.map_take])
   refine⟨_,rfl,Or.inl ⟨_,.int (a.getD 0 0),s2.seq U,aq,(by show(0:Int)<3;decide),_,rfl,C,_,rfl,s2.seq U,λp0 h0=>?_⟩⟩;rw[bq];obtain⟨H3,aU,s3,aB⟩:=new_at (o:=.lst (((a.drop 1).take m).map V.int)) h0;rw[<-aU];have aC:=s3 _ _ aA;have aV:p0≠D:=λz=>by rw[z,aA] at h0;cases h0
   have aW:=s2.trans s3;have a8:∀{b:Hp},Keeps (·=D) H3 b->Ac a6 b:=λk x o e=>k.at_ _ _ (aW _ _ e) (AK e a9);have aX:((a.drop 1).take m).length=m:=by rw[FN,Ks];lia
   refine⟨⟨_,Ae.of aB⟩,EZ (xs:=((a.drop 1).take m).map V.int) (λi σ b=>∃u3 u4 u5 u6 W us A,σ=[some (.ref C),some (.ref L),some (.ref D),u3,u4,u5,u6,W]/\Keeps (·=D) H3 b/\b D=some (.lst (us.map V.ref))/\A1 K (λζ=>True) b D us A/\A.length=i/\∀(j:Nat)(s:Cr),A[j]?=some s->O1 ls (m:Int) (a.getD (1+j) 0) s)
    ⟨none,none,none,none,none,[],[],rfl,Keeps.refl λx o m e=>by rw[m,aC] at e;exact⟨_,(AO e).symm⟩,aC,A1.nil,rfl,λj s h=>by simp at h⟩ (λi σ b ζ aY=>by obtain⟨_,_,_,_,_,_,_,_,k,_⟩:=aY;exact Ae.of (k.at_ _ _ aB aV)) ?_ ?_⟩
   . refine λi y σ H4 hy E=>AM λNz g=>?_
     obtain⟨u3,u4,u5,u6,W,us,A,rfl,Y,aa,ab,M,ar⟩:=E;refine g ?_;clear g;refine GJ ?_;intro Nx Cy;obtain⟨c,hc,rfl⟩:=getm hy;have aZ:i<m:=by have:=(A8.mp hc).1;lia
     have ec:a.getD (1+i) 0=c:=by
      rw[List.getElem?_take_of_lt aZ,List.getElem?_drop] at hc;rw[B0,hc];rfl
     refine AU ?_;cbv;have N:=a8 Y;refine⟨Or.inr ⟨by decide,by decide⟩,(by show(0:Int)<2305843009213693951;decide),_,20,rfl,by decide,λX H5 hX Z Q=>?_⟩;have Q:H5 X=some (.lst ((F2 c).map V.int)):=Q;refine AU ?_;cbv;refine⟨by decide,λq au=>?_⟩;obtain⟨H6,ba,R,aD⟩:=new_at (o:=.lst []) au;rw[<-ba];refine AU ?_;cbv;refine⟨by decide,λE0 av=>?_⟩;have s7:=Bf (o:=.lst []) av;have aw:(upd H6 E0 (.lst [])) E0=some (.lst []):=Aa;have ax:=s7 _ _ aD;generalize upd H6 E0 (.lst [])=H7 at s7 aw ax ⊢;refine AU ?_;cbv;have bb:=R.trans s7;have aE:H5 E0=none:=R.free av;have aF:q≠E0:=AK aD av;have bx:X≠q:=AK Q au;have bz:X≠E0:=AK Q aE;have ay:∀{b:Hp},Keeps (λx=>x=q\/x=E0) H7 b->Ac H5 b:=λk x o e=>k.at_ _ _ (bb _ _ e) λz=>z.elim (AK e au) (AK e aE)
     have bc:∀x o,(x=q\/x=E0)->H7 x=some o->∃xs,o=HO.lst xs:=λx o m e=>by
      rcases m with rfl|rfl;rw[ax] at e;exact⟨_,(AO e).symm⟩;rw[aw] at e;exact⟨_,(AO e).symm⟩
     refine⟨by decide,by decide,Lq (lo:=0) (n:=5) (λj σ b=>∃W l,σ=[some (.ref C),some (.ref L),some (.ref D),some (.int c),some (.ref X),some (.ref q),some (.ref E0),W]/\Keeps (λx=>x=q\/x=E0) H7 b/\b q=some (.lst (l.map V.ref))/\GT b l (Iu ls (m:Int) c j)/\b E0=some (.lst ((IS ls c j).map V.str)))
      ⟨_,[],rfl,⟨λx o e ζ=>e,bc⟩,ax,GT.nil,aw⟩ ?_ ?_⟩
     . refine λj σ H8 I E=>AM λNz g=>?_
       obtain⟨bd,l,rfl,k8,ae,S,ah⟩:=E;refine g ?_;clear g;refine GJ ?_;intro Nx Cy;refine AU ?_;cbv;have ai:=ay k8;have aG:=N.trans (Z.trans ai);have aH:=ai _ _ Q;have lr:=Kc c;have a1:Bv ((F2 c).map V.int) (0+(j:Int))=some (.int ((F2 c).getD j 0)):=by rw[Int.zero_add];exact O4 (by lia)
       have a2:Bv ((F2 c).map V.int) (5+(0+(j:Int)))=some (.int ((F2 c).getD (5+j) 0)):=by
        rw[show(5+(0+(j:Int)))=((5+j:Nat):Int) by lia];exact O4 (by lia)
       have a3:Bv ((F2 c).map V.int) (10+(0+(j:Int)))=some (.int ((F2 c).getD (10+j) 0)):=by
        rw[show(10+(0+(j:Int)))=((10+j:Nat):Int) by lia];exact O4 (by lia)
       have al:Bv (ls.map V.str) (0+(j:Int))=some (.str (ls.getD j default)):=by rw[Int.zero_add];exact fZ (by lia)
       have lG:=Uj ls (m:Int) c j;have lE:=Uk ls c j;have be:(l.map V.ref).length<sizeLine:=by rw[An,S.len];exact BK (by lia)
       have bf:((IS ls c j).map V.str).length<sizeLine:=by rw[An];exact BK (by lia)
       refine HF (λσ' b=>∃l,σ'=[some (.ref C),some (.ref L),some (.ref D),some (.int c),some (.ref X),some (.ref q),some (.ref E0),some (.int (0+(j:Int)))]/\Keeps (λx=>x=q\/x=E0) H7 b/\b q=some (.lst (l.map V.ref))/\GT b l (Iu ls (m:Int) c (j+1))/\b E0=some (.lst ((IS ls c j).map V.str))) ?_ (λbv hN=>?_);refine λσ' H9 E=>AM λNz g=>?_;obtain⟨l,rfl,k9,H,T9,aj⟩:=E;refine g ?_;clear g;have aI:=ay k9;refine Or.inl ⟨_,_,Ae.of (aI _ _ Q),a3,rfl,Am (λd=>?_) (λd=>?_)⟩;have J:0<(F2 c).getD (10+j) 0:=Bi d;refine⟨Or.inl ⟨rfl,_,Ae.of aj⟩,Or.inl ⟨_,_,(N.trans (Z.trans aI)).seq hL,al,_,aj,bf,?_⟩⟩;refine⟨_,l,rfl,k9.set (.inr rfl),by rw[AE aF];exact H,T9.updL aj,?_⟩;rw[Aa,IS,Al J,Br];rfl;have J:¬0<(F2 c).getD (10+j) 0:=λz=>d (A7 z);refine⟨_,l,rfl,k9,H,T9,?_⟩;rw[IS,Ak J,FH];exact aj;refine Or.inl ⟨_,_,Ae.of aH,a1,rfl,Am (λd=>?_) (λd=>?_)⟩;rotate_left;have J:¬0<(F2 c).getD j 0:=λz=>d (A7 z);refine hN _ _ ⟨l,rfl,k8,ae,?_,ah⟩;rw[Iu,Ak J,FH];exact S;have J:0<(F2 c).getD j 0:=Bi d;refine⟨Or.inl ⟨rfl,_,Ae.of ae⟩,Or.inl ⟨_,_,aG.seq hL,al,Or.inl ⟨_,_,Ae.of aH,a2,Or.inl ⟨_,.int (a.getD 0 0),aG.seq U,aq,(by show(0:Int)<3;decide),(by show 0<1+a.getD 0 0%3;lia),Ca,λt ht=>?_⟩⟩⟩⟩;cbv;rw[<-ao];obtain⟨H9,bg,v,et⟩:=new_at (o:=.tup [.str (ls.getD j default),.int ((F2 c).getD (5+j) 0%m)]) ht;rw[<-bg];have H:=v _ _ ae;refine⟨_,H,be,?_⟩;refine hN _ _ ⟨l++[t],rfl,(k8.same v).set (.inl rfl),by rw[Aa,Br];rfl,?_,by rw[AE (Ne.symm aF)];exact v _ _ ah⟩;rw[Iu,Al J];exact((S.same v).snoc (p:=(ls.getD j default,(F2 c).getD (5+j) 0%m)) et).updL H
     refine λσ H8 E=>AM λNz g=>?_;obtain⟨bd,l,rfl,k8,ae,S,ah⟩:=E;refine g ?_;clear g;have ai:=ay k8;have az:=Z.trans ai;have bh:Keeps (·=D) H3 H8:=⟨λx o e n=>az _ _ (Y.at_ x o e n),Y.ls⟩;have ak:=az _ _ aa;have lG:=Uj ls (m:Int) c 5;have lE:=Uk ls c 5;obtain⟨zs,z1,z2,z3⟩:=SM (K:=K) S.len S.at_;have b0:zs.length=(Iu ls (m:Int) c 5).length:=(by rw[<-z2,An]);refine⟨Or.inl ⟨rfl,_,Ae.of ak⟩,q,zs,rfl,Ae.of (by rw[z1];exact ae),by lia,z3,λG u hp hw hG=>?_⟩;have v:=Bf (o:=.lst (u.map (·.1))) hG;have H:(upd H8 G (.lst (u.map (·.1)))) G=some (.lst (u.map (·.1))):=Aa
     have aJ:∀z∈u,PY K (upd H8 G (.lst (u.map (·.1)))) z:=λz hz=>by
      obtain⟨t,a1,a2⟩:=z3 z (hp.mem_iff.mp hz);exact⟨t,a1,v.seqT a2⟩
     generalize upd H8 G (.lst (u.map (·.1)))=H9 at v H aJ ⊢;refine⟨E0,IS ls c 5,rfl,Ae.of (v _ _ ah),by lia,λT O bi bj a0=>?_⟩;have af:=Bf (o:=.lst (O.map V.str)) a0;have aM:(upd H9 T (.lst (O.map V.str))) T=some (.lst (O.map V.str)):=Aa
     have z4:∀z∈u,PY K (upd H9 T (.lst (O.map V.str))) z:=λz hz=>by
      obtain⟨t,a1,a2⟩:=aJ z hz;exact⟨t,a1,af.seqT a2⟩
     generalize upd H9 T (.lst (O.map V.str))=b1 at af aM z4 ⊢;refine⟨Ca,λa7 hu=>?_⟩;obtain⟨bk,br,ag,eu⟩:=new_at (o:=.tup [.ref G,.ref T]) hu;rw[<-br];have a5:=(v.trans af).trans ag;have aN:=a5 _ _ ak;have nG:G≠D:=λy=>by rw[y,ak] at hG;cases hG
     have nE:T≠D:=λy=>by rw[y,v _ _ ak] at a0;cases a0
     have gG:De K bk G (u.map (·.2)):=⟨_,Ae.of ((af.trans ag) _ _ H),(SN u z4).same ag⟩;refine⟨_,aN,by rw[An,ab.len,M];exact BK (by lia),?_⟩;have bs:=((ab.same (az.trans a5)).snoc (r:=(u.map (·.2),O)) eu gG ((af.trans ag) _ _ H) (ag _ _ aM) nG nE True.intro True.intro).updL (o:=.lst (us.map V.ref++[.ref a7])) aN;refine⟨_,_,_,_,_,us++[a7],A++[(u.map (·.2),O)],rfl,(bh.same a5).set rfl,by rw[Aa,Br];rfl,bs,by rw[AY,M];rfl,λj s I=>?_⟩;rcases Nat.lt_or_ge j A.length with bl|b2;rw[EJ bl] at I;exact ar j s I
     have aK:j=A.length:=by
      have:=(A8.mp I).1;rw[AY,DJ] at this;lia
     rw[aK,List.getElem?_concat_length] at I;rw[<-AO I,aK,M,ec];exact⟨by rw[<-z2];exact hp.map _,hw,bi,bj⟩
   refine λσ H4 E=>AM λNz g=>?_;obtain⟨u3,u4,u5,u6,W,us,A,rfl,Y,aa,ab,M,ar⟩:=E;refine g ?_;clear g;rw[An,aX] at M;have N:=a8 Y;have bm:Bv (a.map V.int) ((4:Nat):Int)=some (.int (a.getD 4 0)):=O4 (by lia);have aL:(us.map V.ref).length=m:=(by rw[An,ab.len,M]);refine Or.inl ⟨_,.int (a.getD 0 0),N.seq U,aq,⟨by decide,by decide⟩,_,Or.inl ⟨_,Ae.of aa,rfl⟩,(by rw[aL];lia),Or.inl ⟨_,.int (a.getD 4 0),N.seq U,bm,_,L,ls,rfl,N.seq hL,by lia,λan bn bo H5 hO Z eO TO bt=>?_⟩⟩;rw[aL];refine⟨Jv,λt ht=>?_⟩;have R:=Bf (o:=.tup [.ref D,.int (a.getD 0 0/3%m),.ref an]) ht;have bp:D≠an:=λy=>by rw[<-y,aa] at hO;cases hO
   have a4:=Z.trans R;refine aQ t A (a.getD 0 0/3%m) bo _ (N.trans a4) ⟨D,an,us,bn,Aa,True.intro,True.intro,bp,a4 _ _ aa,ab.same a4,R _ _ eO,TO.same R⟩ ⟨by rw[M];lia,λj s I=>by rw[<-ao];exact ar j s I,by rw[ao],bt⟩
abbrev GO (c:Int):Int:=c*48271%65521
def Gv (ns:List Str) (c:Int):List Str:=[ns.getD (GO c%3).toNat default]++if GO c/3%2=1 then[ns.getD (GO c/6%3).toNat default] else[]
def K8 (ns:List Str) (c:Int):List Str:=Gv ns c++if GO c/18%4=3 then[ns.getD (GO c/72%3).toNat default] else[]
def DA (ns:List Str) (m s c:Int):Qu:=(c*16807%65519%m,c*69621%65497%s,K8 ns c)
def Kd(ns:List Str)(c:Int):1<=(K8 ns c).length/\(K8 ns c).length<=3:=by
 unfold K8 Gv;split<;>split<;>simp
def Um{i:Int}(b:0<=i)(c:i<xs.length):Bv (xs.map V.str) i=some (.str (xs.getD i.toNat default)):=by
 obtain⟨n,rfl⟩:=DL b;have a:n<xs.length:=(by lia);rw[Bo,B0,AC a];exact BX (by rw[Bh,AC a];rfl)
def Ke:([]:List V).length+1+1+1<=sizeLine:=by decide
def G4(x:Int):0<=x%3/\x%3<3:=⟨Fj _ (by decide),Fi _ (by decide)⟩
inductive Cv (K:Ah) (vs:List V) (H:Hp) (Q:VK):Prop where
 |mk (c:Int) (N:Addr) (ns:List Str) (m s:Nat) (h0:vs=[.int c,.int m,.int s,.ref N]) (h1:Ae K H N (ns.map V.str)) (h2:ns.length=3) (h3:1<=m) (h4:1<=s) (h5:∀(p u:Addr)(H':Hp),Ac H H'->H' p=some (.tup [.int (DA ns m s c).1,.int (DA ns m s c).2.1,.ref u])->H' u=some (.tup ((DA ns m s c).2.2.map V.str))->Q (.ref p) H'):Cv K vs H Q
def f8 (K:Ah):Sp:=λvs H Q ζ=>Cv K vs H Q
variable (P w K mg base) in
abbrev Uo:Prop:=BG P w K mg base "_law_question" 1 ["_law_cell", "_law_many", "_law_states", "_law_names_here"] (f8 K)
theorem f9(B:BH mg)(F:Bu K "_law_question" "_law_question" Rf f fd)(z:mg "_law_question" = some (.ref f)):Uo P w K mg base:=by
 refine BZ F z T1 (λC H Q E h=>?_) (λaa A ab s H C Q E T h=>?_);obtain⟨c,N,ns,m,Z,rfl,_⟩:=h;rfl
 . obtain⟨c,N,ns,m,Z,rfl,j,U,W,X,q⟩:=h
   refine⟨_,(Ao (AX (i:=4) T1.nd (AF Bs (AF EL (pv 0) Ai) Ai))
    (Ao (AX (i:=5) T1.nd (CC (Ab (Ay Az (pv 3) (AF Bs (pv 4) Ai)) Af)))
    (Ao (Bj (Bt CF (AF Bs (AF FJ (pv 4) Ai) Ai) Ai (Bp _)) (At (Db (DN Dp EE EF EH (pv 5) (Ab (Ay Az (pv 3) (AF Bs (AF FJ (pv 4) Ai) Ai)) Af)))) Bm)
    (Ao (Bj (Bt CF (AF Bs (AF FJ (pv 4) Ai) Ai) Ai (Bp _)) (At (Db (DN Dp EE EF EH (pv 5) (Ab (Ay Az (pv 3) (AF Bs (AF FJ (pv 4) Ai) Ai)) Af)))) Bm)
    (At (AW (Bx (Ab (AF Bs (AF Bs (AF EL (pv 0) Ai) Ai) (pv 1)) (Ab (AF Bs (AF Bs (AF EL (pv 0) Ai) Ai) (pv 2)) (Ab (GA Yx B.b_tuple (Ab (pv 5) Af)) Af)))))))))),?_⟩
   (try dsimp only[AG,Cx.nox,Cx.wish]);refine⟨Or.inr ⟨by decide,by decide⟩,(by show(0:Int)<65521;decide),?_⟩;refine AU ?_;cbv;refine⟨(by show(0:Int)<3;decide),Or.inl ⟨_,_,j,Um (G4 _).1 (by have:=(G4 (c*48271%65521)).2;lia),HH,λP t=>?_⟩⟩;obtain⟨Y,O,k,l⟩:=new_at (o:=.lst [.str (ns.getD (GO c%3).toNat default)]) t;rw[<-O];refine AU ?_;cbv;have y:∀x o,H x=some o->x≠P:=λx o e=>AK e t;refine HF (λσ' d=>σ'=[some (.int c),some (.int m),some (.int Z),some (.ref N),some (.int (GO c)),some (.ref P)]/\Ac H d/\d P=some (.lst ((Gv ns c).map V.str))) ?_ (λD g=>?_);rotate_left;refine⟨⟨by decide,by decide⟩,(by show(0:Int)<2;decide),rfl,rfl,Am (λa=>?_) (λa=>?_)⟩;have b:GO c/3%2=1:=V.int.inj (Bi a);refine⟨Or.inl ⟨rfl,_,Ae.of l⟩,⟨by decide,by decide⟩,(by show(0:Int)<3;decide),Or.inl ⟨_,_,k.seq j,Um (G4 _).1 (by have:=(G4 (c*48271%65521/6)).2;lia),_,l,BK (by show 1<=1000;decide),g _ _ ⟨rfl,λx o e=>?_,?_⟩⟩⟩;rw[AE (y x o e)];exact k _ _ e;rw[Aa];unfold Gv;rw[Al b];rfl;have b:¬GO c/3%2=1:=λe=>a (A7 (by show V.int (GO c/3%2)=V.int 1;rw[e]));refine g _ _ ⟨rfl,k,?_⟩;unfold Gv;rw[Ak b];exact l;rintro σ' H2 ⟨rfl,n,r⟩;refine HF (λσ' d=>σ'=[some (.int c),some (.int m),some (.int Z),some (.ref N),some (.int (GO c)),some (.ref P)]/\Ac H d/\d P=some (.lst ((K8 ns c).map V.str))) ?_ (λD g=>?_);rotate_left;have l2:(Gv ns c).length<=2:=by unfold Gv;split<;>simp
   refine⟨⟨by decide,by decide⟩,(by show(0:Int)<4;decide),rfl,rfl,Am (λa=>?_) (λa=>?_)⟩;have b:GO c/18%4=3:=V.int.inj (Bi a);refine⟨Or.inl ⟨rfl,_,Ae.of r⟩,⟨by decide,by decide⟩,(by show(0:Int)<3;decide),Or.inl ⟨_,_,n.seq j,Um (G4 _).1 (by have:=(G4 (c*48271%65521/72)).2;lia),_,r,BK (by rw[An];lia),g _ _ ⟨rfl,λx o e=>?_,?_⟩⟩⟩;rw[AE (y x o e)];exact n _ _ e;rw[Aa];unfold K8;rw[Al b,Br];rfl;have b:¬GO c/18%4=3:=λe=>a (A7 (by show V.int (GO c/18%4)=V.int 3;rw[e]));refine g _ _ ⟨rfl,n,?_⟩;unfold K8;rw[Ak b,FH];exact r;rintro σ' H3 ⟨rfl,G,R⟩;refine⟨Or.inr ⟨by decide,by decide⟩,(by show(0:Int)<65519;decide),(by show(0:Int)<m;lia),Or.inr ⟨by decide,by decide⟩,(by show(0:Int)<65497;decide),(by show(0:Int)<Z;lia),P,_,rfl,Or.inl ⟨Ae.of R,λu I=>?_⟩⟩;obtain⟨H4,S,J,L⟩:=new_at (o:=.tup ((K8 ns c).map V.str)) I;rw[<-S];refine⟨Ke,λp M=>?_⟩;have v:=Bf (o:=.tup [.int (c*16807%65519%m),.int (c*69621%65497%Z),.ref u]) M;exact q p u _ ((G.trans J).trans v) Aa (v _ _ L)
def ML (m a c:Int):Str×Int:=if c*69621%65497%4=0 then("plain",0) else if c*69621%65497%4=1 then("sort",c*48271%65521%a) else("part",c*48271%65521%m)
variable {a:Nat}
def MM(b:1<=m)(d:1<=a)(c:Int):FS m a (ML m a c):=by
 unfold ML FS;split;exact .inl ⟨rfl,rfl⟩;split;exact .inr (.inr ⟨rfl,Fj _ (by lia),Fi _ (by lia)⟩);exact .inr (.inl ⟨rfl,Fj _ (by lia),Fi _ (by lia)⟩)
inductive DB (K:Ah) (vs:List V) (H:Hp) (Q:VK):Prop where
 |mk (c:Int) (m a:Nat) (h0:vs=[.int c,.int m,.int a]) (h1:1<=m) (h2:1<=a) (h3:∀(p:Addr)(H':Hp),H p=none->Ac H H'->H' p=some (.tup [.str (ML m a c).1,.int (ML m a c).2])->Q (.ref p) H'):DB K vs H Q
def gA (K:Ah):Sp:=λvs H Q ζ=>DB K vs H Q
variable (P w K mg base) in
abbrev Up:Prop:=BG P w K mg base "_law_thing" 1 ["_law_cell", "_law_many", "_law_asked"] (gA K)
def gB(B:BH mg)(F:Bu K "_law_thing" "_law_thing" Rg f fd)(o:mg "_law_thing" = some (.ref f)):Up P w K mg base:=by
 refine BZ F o Xv (λr H Q E h=>?_) (λy A z s H r Q E u h=>?_);obtain⟨c,m,a,rfl,_⟩:=h;rfl;obtain⟨c,m,a,rfl,v,x,q⟩:=h
 refine⟨_,(Ao (AX (i:=3) Xv.nd (AF Bs (AF EL (pv 0) Ai) Ai))
  (Ao (Bj (Bt CF (AF Bs (pv 3) Ai) Ai (Bp _)) (At (AW (Bx (Ab B6 (Ab Ai Af))))) Bm)
  (Ao (Bj (Bt CF (AF Bs (pv 3) Ai) Ai (Bp _)) (At (AW (Bx (Ab B6 (Ab (AF Bs (AF Bs (AF EL (pv 0) Ai) Ai) (pv 2)) Af))))) Bm)
  (At (AW (Bx (Ab B6 (Ab (AF Bs (AF Bs (AF EL (pv 0) Ai) Ai) (pv 1)) Af)))))))),?_⟩
 (try dsimp only[AG,Cx.nox,Cx.wish]);refine⟨Or.inr ⟨by decide,by decide⟩,(by show(0:Int)<65497;decide),?_⟩;have j:∀k,ML m a c=k->∀p,H p=none->Q (.ref p) (upd H p (.tup [.str k.1,.int k.2])):=λk t p n=>q p _ n (Bf n) (by rw[Aa,<-t]);refine⟨(by show(0:Int)<4;decide),rfl,rfl,Am (λd=>?_) (λd=>?_)⟩;have b:c*69621%65497%4=0:=V.int.inj (Bi d);exact⟨Ca,j (("plain" : Str),0) (Al b)⟩;have b:¬c*69621%65497%4=0:=λe=>d (A7 (by show V.int (c*69621%65497%4)=V.int 0;rw[e]));refine⟨(by show(0:Int)<4;decide),rfl,rfl,Am (λg=>?_) (λg=>?_)⟩;have l:c*69621%65497%4=1:=V.int.inj (Bi g);exact⟨Or.inr ⟨by decide,by decide⟩,(by show(0:Int)<65521;decide),(by show(0:Int)<a;lia),Ca,j (("sort" : Str),c*48271%65521%a) ((Ak b).trans (Al l))⟩;have l:¬c*69621%65497%4=1:=λe=>g (A7 (by show V.int (c*69621%65497%4)=V.int 1;rw[e]));exact⟨Or.inr ⟨by decide,by decide⟩,(by show(0:Int)<65521;decide),(by show(0:Int)<m;lia),Ca,j (("part" : Str),c*48271%65521%m) ((Ak b).trans (Ak l))⟩
def MN (m a c:Int):Str×Int:=if c*69621%65497%2=0 then("by",c*16807%65519%a) else("to",c*16807%65519%m)
def QK (ls:List Str) (m a c:Int):B8:=(ls.getD (c*48271%65521%5).toNat default,MN m a c)
def MO(b:1<=m)(d:1<=a)(ls:List Str)(c:Int):Fu m a (QK ls m a c):=by
 unfold QK Fu MN;dsimp only;split;exact .inr ⟨rfl,Fj _ (by lia),Fi _ (by lia)⟩;exact .inl ⟨rfl,Fj _ (by lia),Fi _ (by lia)⟩
def gC{i:Int}(b:0<=i)(c:i<xs.length):Bv (xs.map V.str) i=some (.str (xs.getD i.toNat default)):=by
 obtain⟨n,rfl⟩:=DL b;have a:n<xs.length:=(by lia);rw[Bo,B0,AC a];exact BX (by rw[Bh,AC a];rfl)
def XI:([]:List V).length+1+1+1<=sizeLine:=by decide
inductive D1 (K:Ah) (vs:List V) (H:Hp) (Q:VK):Prop where
 |mk (c:Int) (L:Addr) (ls:List Str) (m a:Nat) (h0:vs=[.int c,.ref L,.int m,.int a]) (h1:Ae K H L (ls.map V.str)) (h2:ls.length=5) (h3:1<=m) (h4:1<=a) (h5:∀(p:Addr)(H':Hp),H p=none->Ac H H'->H' p=some (.tup (GW (QK ls m a c)))->Q (.ref p) H'):D1 K vs H Q
def gD (K:Ah):Sp:=λvs H Q ζ=>D1 K vs H Q
variable (P w K mg base) in
abbrev Uq:Prop:=BG P w K mg base "_law_step" 1 ["_law_cell", "_law_labels", "_law_many", "_law_asked"] (gD K)
def gE(B:BH mg)(F:Bu K "_law_step" "_law_step" Rh f fd)(l:mg "_law_step" = some (.ref f)):Uq P w K mg base:=by
 refine BZ F l T4 (λn H Q E h=>?_) (λC A D s H n Q E u h=>?_);obtain⟨c,L,ls,m,a,rfl,_⟩:=h;rfl;obtain⟨c,L,ls,m,a,rfl,o,v,x,y,q⟩:=h;have r:=Fj (c*48271%65521) (by decide:(5:Int)≠0);have z:=Fi (c*48271%65521) (by decide:(0:Int)<5)
 refine⟨_,(Ao (AX (i:=4) T4.nd (Ay Az (pv 1) (AF Bs (AF Bs (AF EL (pv 0) Ai) Ai) Ai)))
  (Ao (AX (i:=5) T4.nd (AF Bs (AF EL (pv 0) Ai) Ai))
  (Ao (Bj (Bt CF (AF Bs (pv 5) Ai) Ai (Bp _)) (At (AW (Bx (Ab (pv 4) (Ab B6 (Ab (AF Bs (AF Bs (AF EL (pv 0) Ai) Ai) (pv 3)) Af)))))) Bm)
  (At (AW (Bx (Ab (pv 4) (Ab B6 (Ab (AF Bs (AF Bs (AF EL (pv 0) Ai) Ai) (pv 2)) Af))))))))),?_⟩
 (try dsimp only[AG,Cx.nox,Cx.wish]);refine⟨Or.inr ⟨by decide,by decide⟩,(by show(0:Int)<65521;decide),(by show(0:Int)<5;decide),Or.inl ⟨_,_,o,gC r (by lia),?_⟩⟩;refine⟨Or.inr ⟨by decide,by decide⟩,(by show(0:Int)<65497;decide),?_⟩;have j:∀k,MN m a c=k->∀p,H p=none->Q (.ref p) (upd H p (.tup [.str (ls.getD (c*48271%65521%5).toNat default),.str k.1,.int k.2])):=λk t p g=>q p _ g (Bf g) (by rw[Aa,<-t];rfl);refine⟨(by show(0:Int)<2;decide),rfl,rfl,Am (λb=>?_) (λb=>?_)⟩;have d:c*69621%65497%2=0:=V.int.inj (Bi b);exact⟨Or.inr ⟨by decide,by decide⟩,(by show(0:Int)<65519;decide),(by show(0:Int)<a;lia),XI,j (("by" : Str),c*16807%65519%a) (Al d)⟩;have d:¬c*69621%65497%2=0:=λe=>b (A7 (by show V.int (c*69621%65497%2)=V.int 0;rw[e]));exact⟨Or.inr ⟨by decide,by decide⟩,(by show(0:Int)<65519;decide),(by show(0:Int)<m;lia),XI,j (("to" : Str),c*16807%65519%m) (Ak d)⟩
def MP (t a c:Int):Str×Int:=if c*69621%65497%3=0 then("by",c*16807%65519%a) else("thing",c*16807%65519%t)
def QL (ns ls:List Str) (t a c:Int):DO:=(ls.getD (c*48271%65521%5).toNat default,ns.getD (c*69621%65497/3%3).toNat default,MP t a c)
def MQ{t:Nat}(b:1<=t)(d:1<=a)(ns ls:List Str)(c:Int):Fv t a (QL ns ls t a c):=by
 unfold QL Fv MP;dsimp only;split;exact .inr ⟨rfl,Fj _ (by lia),Fi _ (by lia)⟩;exact .inl ⟨rfl,Fj _ (by lia),Fi _ (by lia)⟩
def XJ{i:Int}(b:0<=i)(c:i<xs.length):Bv (xs.map V.str) i=some (.str (xs.getD i.toNat default)):=by
 obtain⟨n,rfl⟩:=DL b;have a:n<xs.length:=(by lia);rw[Bo,B0,AC a];exact BX (by rw[Bh,AC a];rfl)
def Iv:([]:List V).length+1+1+1+1<=sizeLine:=by decide
inductive CL (K:Ah) (vs:List V) (H:Hp) (Q:VK):Prop where
 |mk (c:Int) (L N:Addr) (ls ns:List Str) (t a:Nat) (h0:vs=[.int c,.ref L,.ref N,.int t,.int a]) (h1:Ae K H L (ls.map V.str)) (h2:ls.length=5) (h3:Ae K H N (ns.map V.str)) (h4:ns.length=3) (h5:1<=t) (h6:1<=a) (h7:∀(p:Addr)(H':Hp),H p=none->Ac H H'->H' p=some (.tup (GX (QL ns ls t a c)))->Q (.ref p) H'):CL K vs H Q
def gF (K:Ah):Sp:=λvs H Q ζ=>CL K vs H Q
variable (P w K mg base) in
abbrev Ur:Prop:=BG P w K mg base "_law_telling" 1 ["_law_cell", "_law_labels", "_law_names_here", "_law_things", "_law_asked"] (gF K)
def gH(B:BH mg)(F:Bu K "_law_telling" "_law_telling" Ri f fd)(l:mg "_law_telling" = some (.ref f)):Ur P w K mg base:=by
 refine BZ F l QB (λm H Q E h=>?_) (λJ A M s H m Q E x h=>?_);obtain⟨c,L,N,ls,ns,t,a,rfl,_⟩:=h;rfl;obtain⟨c,L,N,ls,ns,t,a,rfl,n,y,o,z,C,D,q⟩:=h;have r:=Fj (c*48271%65521) (by decide:(5:Int)≠0);have G:=Fi (c*48271%65521) (by decide:(0:Int)<5);have u:=Fj (c*69621%65497/3) (by decide:(3:Int)≠0);have I:=Fi (c*69621%65497/3) (by decide:(0:Int)<3)
 refine⟨_,(Ao (AX (i:=5) QB.nd (Ay Az (pv 1) (AF Bs (AF Bs (AF EL (pv 0) Ai) Ai) Ai)))
  (Ao (AX (i:=6) QB.nd (AF Bs (AF EL (pv 0) Ai) Ai))
  (Ao (AX (i:=7) QB.nd (Ay Az (pv 2) (AF Bs (AF FJ (pv 6) Ai) Ai)))
  (Ao (Bj (Bt CF (AF Bs (pv 6) Ai) Ai (Bp _)) (At (AW (Bx (Ab (pv 5) (Ab (pv 7) (Ab B6 (Ab (AF Bs (AF Bs (AF EL (pv 0) Ai) Ai) (pv 4)) Af))))))) Bm)
  (At (AW (Bx (Ab (pv 5) (Ab (pv 7) (Ab B6 (Ab (AF Bs (AF Bs (AF EL (pv 0) Ai) Ai) (pv 3)) Af))))))))))),?_⟩
 (try dsimp only[AG,Cx.nox,Cx.wish]);refine⟨Or.inr ⟨by decide,by decide⟩,(by show(0:Int)<65521;decide),(by show(0:Int)<5;decide),Or.inl ⟨_,_,n,XJ r (by lia),?_⟩⟩;refine⟨Or.inr ⟨by decide,by decide⟩,(by show(0:Int)<65497;decide),?_⟩;refine⟨⟨by decide,by decide⟩,(by show(0:Int)<3;decide),Or.inl ⟨_,_,o,XJ u (by lia),?_⟩⟩;have j:∀k,MP t a c=k->∀p,H p=none->Q (.ref p) (upd H p (.tup [.str (ls.getD (c*48271%65521%5).toNat default),.str (ns.getD (c*69621%65497/3%3).toNat default),.str k.1,.int k.2])):=λk v p g=>q p _ g (Bf g) (by rw[Aa,<-v];rfl);refine⟨(by show(0:Int)<3;decide),rfl,rfl,Am (λb=>?_) (λb=>?_)⟩;have d:c*69621%65497%3=0:=V.int.inj (Bi b);exact⟨Or.inr ⟨by decide,by decide⟩,(by show(0:Int)<65519;decide),(by show(0:Int)<a;lia),Iv,j (("by" : Str),c*16807%65519%a) (Al d)⟩;have d:¬c*69621%65497%3=0:=λe=>b (A7 (by show V.int (c*69621%65497%3)=V.int 0;rw[e]));exact⟨Or.inr ⟨by decide,by decide⟩,(by show(0:Int)<65519;decide),(by show(0:Int)<t;lia),Iv,j (("thing" : Str),c*16807%65519%t) (Ak d)⟩
def ET (m:Nat):Nat:=if m<4 then 3 else 2
abbrev BS (m:Nat) (c:Int):Int:=c/8*48271%65539%m
abbrev EU (ss:List Bk) (i:Int):Bk:=ss.getD i.toNat ([],[])
def IT (ls:List Str) (m a:Nat) (ss:List Bk) (c:Int):List Bk:=if c%8<3/\(EU ss (BS m c)).1.length<ET m then ss.set (BS m c).toNat ((EU ss (BS m c)).1++[QK ls m a (c/8)],(EU ss (BS m c)).2) else ss
def NE (ls ns:List Str) (m t a:Nat) (ss:List Bk) (c:Int):List Bk:=if(2<c%8/\c%8<6)/\(EU ss (BS m c)).2.length<2 then ss.set (BS m c).toNat ((EU ss (BS m c)).1,(EU ss (BS m c)).2++[QL ns ls t a (c/8)]) else ss
def QM (ls ns:List Str) (m t a:Nat) (ss:List Bk) (c:Int):List Bk:=NE ls ns m t a (IT ls m a ss c) c
def Eh (ls ns:List Str) (m t a:Nat) (cs:List Int) (i:Nat):List Bk:=(cs.take i).foldl (QM ls ns m t a) (List.replicate m ([],[]))
def Kf(ls:List Str)(m a:Nat)(ss:List Bk)(c:Int):(IT ls m a ss c).length=ss.length:=by unfold IT;split;exact F4;rfl
def QN(ls ns:List Str)(m t a:Nat)(ss:List Bk)(c:Int):(NE ls ns m t a ss c).length=ss.length:=by unfold NE;split;exact F4;rfl
def XM{ns:List Str}{t:Nat}{b:List Int}(h:b[i]?=some c):Eh ls ns m t a b (i+1)=QM ls ns m t a (Eh ls ns m t a b i) c:=by
 unfold Eh;rw[DV,h,Kt];rfl
structure G5 (m t a:Nat) (ss:List Bk):Prop where
 len:ss.length=m
 st:∀s∈ss,s.1.length<=ET m
 tl:∀s∈ss,s.2.length<=2
 kst:∀s∈ss,∀p∈s.1,Fu m a p
 ktl:∀s∈ss,∀p∈s.2,Fv t a p
variable {ss:List Bk}
def XN{t:Nat}(h:G5 m t a ss)(i:Int):(EU ss i).1.length<=ET m/\(EU ss i).2.length<=2/\(∀p∈(EU ss i).1,Fu m a p)/\∀p∈(EU ss i).2,Fv t a p:=by
 unfold EU;rw[B0]
 cases e:ss[i.toNat]? with
 |none=>exact⟨Cm _,Cm _,λp b=>(by cases b),λp b=>(by cases b)⟩
 |some s =>
   have:=Bl e;exact⟨h.st s this,h.tl s this,h.kst s this,h.ktl s this⟩
def G5.setA{t:Nat}(h:G5 m t a ss){s:Bk}(c:s.1.length<=ET m)(d:s.2.length<=2)(e:∀p∈s.1,Fu m a p)(f:∀p∈s.2,Fv t a p):G5 m t a (ss.set i s):=by
 refine⟨by rw[F4];exact h.len,λu b=>?_,λu b=>?_,λu b=>?_,λu b=>?_⟩<;>rcases List.mem_or_eq_of_mem_set b with b|rfl;exact h.st u b;exact c;exact h.tl u b;exact d;exact h.kst u b;exact e;exact h.ktl u b;exact f
set_option tactic.hygienic true in
theorem QO{ls ns:List Str}{m t a:Nat}(n:1<=m)(o:1<=t)(k:1<=a)(f:List Int):∀i,G5 m t a (Eh ls ns m t a f i)
 |0=>by
   have e:∀s∈List.replicate m (([],[]):Bk),s=([],[]):=λs d=>(List.mem_replicate.mp d).2;exact⟨List.length_replicate,(λs d=>by rw[e s d];exact Cm _),(λs d=>by rw[e s d];exact Cm _),(λs d p b=>by rw[e s d] at b;cases b),(λs d p b=>by rw[e s d] at b;cases b)⟩
 | i + 1=>by
   have j:=QO (ls:=ls) (ns:=ns) n o k f i
   cases e:f[i]? with
   |none =>
     have q:Eh ls ns m t a f (i+1)=Eh ls ns m t a f i:=by unfold Eh;rw[DV,e];simp
     rw[q];exact j
   |some c =>
     rw[XM e];generalize Eh ls ns m t a f i=ss at j
     have l:G5 m t a (IT ls m a ss c):=by
      have g:=XN j (BS m c);unfold IT;split;rename_i h;refine j.setA (by rw[AY,DJ];exact h.2) g.2.1 (λp b=>?_) g.2.2.2;rcases BI.mp b with b|b;exact g.2.2.1 p b;rw[AZ.mp b];exact MO n k _ _;exact j
     unfold QM NE;have g:=XN l (BS m c);split;rename_i h;refine l.setA g.1 (by rw[AY,DJ];exact h.2) g.2.2.1 (λp b=>?_);rcases BI.mp b with b|b;exact g.2.2.2 p b;rw[AZ.mp b];exact MQ o k _ _ _;exact l
def gI(a b:V):Bv [a,b] 0=some a:=BX (j:=0) rfl
def gJ(a b:V):Bv [a,b] 1=some b:=BX (j:=1) rfl
inductive C4 (K:Ah) (vs:List V) (H:Hp) (Q:VK):Prop where
 |mk (C L N Z:Addr) (cs:List Int) (ls ns:List Str) (m t a:Nat) (h0:vs=[.ref C,.ref L,.ref N,.int m,.ref Z]) (h1:Ae K H C (cs.map V.int)) (h2:cs.length<=63) (h3:Ae K H L (ls.map V.str)) (h4:ls.length=5) (h5:Ae K H N (ns.map V.str)) (h6:ns.length=3) (h7:Ap K H Z [.int t,.int a]) (h8:1<=m) (h9:m<=5) (h10:1<=t) (h11:1<=a) (h12:∀(S:Addr)(us Gs Es:List Addr)(H':Hp),Ac H H'->Df H' S us Gs Es (Eh ls ns m t a cs cs.length)->Q (.ref S) H'):C4 K vs H Q
def gK (K:Ah):Sp:=λvs H Q ζ=>C4 K vs H Q
variable (P w K mg base) in
abbrev Us:Prop:=BG P w K mg base "_law_scopes" 2 ["_law_cells", "_law_labels", "_law_names_here", "_law_many", "_law_sizes"] (gK K)
theorem gL(B:BH mg)(a9:Uq P w K mg base)(aA:Ur P w K mg base)(F:Bu K "_law_scopes" "_law_scopes" Pl f fd)(hm:mg "_law_scopes" = some (.ref f)):Us P w K mg base:=by
 refine BZ F hm Ny (λvs H a6 a7 h=>?_) (λaV aS aY s H vs a6 a7 hr h=>?_);obtain⟨af,L,ab,ag,T,ls,ns,m,t,a,rfl,_⟩:=h;rfl
 . obtain⟨af,L,ab,ag,T,ls,ns,m,t,a,rfl,hC,lc,hL,ll,hN,ln,hZ,m1,m5,E,a1,a8⟩:=h
   refine⟨_,(Ao (Vz (i:=5) Ny.nd rfl (Or.inl rfl) rfl Ct (Jb rfl B.b_range (Ab (pv 3) Af)) (λζ ζ ζ ζ ζ=>(AA (i:=0) Ct.nd)) (λζ ζ ζ ζ ζ=>IK) (λζ ζ ζ ζ ζ=>(Bx (Ab (CC Af) (Ab (CC Af) Af)))))
    (Ao (AX (i:=6) Ny.nd (Ay Az (CC (Ab Ai (Ab Ai Af))) (GA R9 B.b_int (Ab (Jc F9 (pv 3) Ai (Bp _)) Af))))
    (Ao (CP CB rfl (Dk (pv 0)) (AA (i:=7) Ny.nd) (Ao (AX (i:=8) Ny.nd (AF Bs (AF Bs (AF EL (AF FJ (pv 7) Ai) Ai) Ai) (pv 3)))
     (Ao (AX (i:=9) Ny.nd (AF FJ (pv 7) Ai))
     (Ao (Bj (PW.pt (GU (Bt F9 (AF Bs (pv 7) Ai) Ai (Bp _)) (GS (Bt F9 (BE DM B.b_len (Ab (Ay Az (Ay Az (pv 5) (pv 8)) Ai) Af)) (pv 6) (Bp _))))) (At (Db (DN Dp EE EF EH (Ay Az (Ay Az (pv 5) (pv 8)) Ai) (Ab (A9 a9 (Ab (pv 9) (Ab (pv 1) (Ab (pv 3) (Ab (Ay Az (pv 4) Ai) Af))))) Af)))) Bm)
     (At (Bj (PW.pt (GU (Yl F9 F9 Ai (AF Bs (pv 7) Ai) Ai) (GS (Bt F9 (BE DM B.b_len (Ab (Ay Az (Ay Az (pv 5) (pv 8)) Ai) Af)) Ai (Bp _))))) (At (Db (DN Dp EE EF EH (Ay Az (Ay Az (pv 5) (pv 8)) Ai) (Ab (A9 aA (Ab (pv 9) (Ab (pv 1) (Ab (pv 2) (Ab (Ay Az (pv 4) Ai) (Ab (Ay Az (pv 4) Ai) Af)))))) Af)))) Bm))))))
    (At (AW (pv 5)))))),?_⟩
   try dsimp only[AG,Cx.nox,Cx.wish]
   refine⟨by lia,by lia,SO (n:=m) (λD i ys r=>∃us d g:List Addr,ys=us.map V.ref/\Ac H r/\Df r D us d g (List.replicate i (([],[]):Bk))/\(D::(d++g)).Nodup/\∀x∈d++g,H x=none)
    (λD hD=>⟨[],[],[],rfl,Bf hD,Df.nil Aa,by simp,λx O=>by simp at O⟩) (λD i ys H7 RR hD hi hv k=>?_) (λS ys H7 aW hv=>?_)⟩
   refine AM λU b=>?_;obtain⟨us,d,g,rfl,l,SC,W,ae⟩:=hv;refine b ?_;clear b;have ay:=SC.lu;rw[List.length_replicate] at ay;refine⟨by decide,λG Q=>?_⟩;obtain⟨H8,aB,E,eG⟩:=new_at (o:=.lst []) Q;rw[<-aB];refine⟨by decide,λj A=>?_⟩;obtain⟨H9,aC,p,aD⟩:=new_at (o:=.lst []) A;rw[<-aC];refine⟨Ca,λu hu=>?_⟩;obtain⟨aE,aR,t3,eu⟩:=new_at (o:=.tup [.ref G,.ref j]) hu;rw[<-aR];have az:=(E.trans p).trans t3;have aF:=p.trans t3;have a0:=SC.same az;have al:=SC.alive
   have nG:G∉D::(d++g):=λy=>by
    rcases Cj.mp y with y|y;rw[y,SC.top] at Q;cases Q;obtain⟨xs,e⟩:=al G y;rw[e] at Q;cases Q
   have nE:j∉D::(d++g):=λy=>by
    rcases Cj.mp y with y|y;rw[y,E _ _ SC.top] at A;cases A;obtain⟨xs,e⟩:=al j y;rw[E _ _ e] at A;cases A
   have aG:G≠j:=λy=>by rw[<-y,eG] at A;cases A
   have aH:Hc aE u G j ([],[]):=⟨eu,⟨[],aF _ _ eG,RT.nil⟩,⟨[],t3 _ _ aD,RT.nil⟩⟩;have aI:=a0.snoc aH (λz=>nG (z▸BB)) (λz=>nE (z▸BB)) (λx O z=>(Gw.mp W).1 (z▸O));refine k _ _ a0.top (by rw[An,ay];exact BK (by lia)) ⟨us++[u],d++[G],g++[j],by rw[Br];rfl,λaT o e=>?_,?_,Zg W nG nE aG,λx O=>?_⟩;rw[AE (AK e hD)];exact az _ _ (l _ _ e);rw[List.replicate_succ'];exact aI
   have:x∈d++g\/x=G\/x=j:=by
    simp only[BI,AZ] at O ⊢;rcases O with(h|h)|(h|h);exact .inl (.inl h);exact .inr (.inl h);exact .inl (.inr h);exact .inr (.inr h)
   rcases this with h|h|h;exact ae x h;rw[h];exact l.free Q;rw[h];exact(l.trans E).free A;refine AM λU b=>?_;obtain⟨us,d,g,rfl,s4,aJ,W,ae⟩:=hv;refine b ?_;clear b;cbv;refine⟨Ca,λaU hl=>?_⟩;obtain⟨H5,aK,s5,el⟩:=new_at (o:=.lst [.int 2,.int 3]) hl;rw[<-aK]
   have aL:Bv [V.int 2,V.int 3] (if decide ((m:Int)<4)=true then 1 else 0)=some (.int (ET m)):=by
    unfold ET;by_cases h:m<4;rw[Al (A7 (by lia)),Al h];exact gJ _ _;rw[Ak (by rw[Do (by lia)];exact Cz),Ak h];exact gI _ _
   refine Or.inr ⟨_,rfl,Or.inl ⟨_,.int (ET m),Ae.of el,aL,?_⟩⟩;refine AU ?_;cbv;have a2:=s4.trans s5;refine⟨⟨_,a2.seq hC⟩,EZ (xs:=T.map V.int) (λi σ r=>∃u7 u8 u9,σ=[some (.ref af),some (.ref L),some (.ref ab),some (.int m),some (.ref ag),some (.ref S),some (.int (ET m)),u7,u8,u9]/\Ac H r/\Df r S us d g (Eh ls ns m t a T i)) ⟨none,none,none,rfl,a2,aJ.same s5⟩ (λi σ r ζ aM=>by obtain⟨_,_,_,_,s,_⟩:=aM;exact s.seq hC) ?_ ?_⟩;rotate_left;refine λσ H6 ak=>AM λU b=>?_;obtain⟨u7,u8,u9,rfl,I,q⟩:=ak;refine b ?_;clear b;rw[An] at q;exact a8 S us d g _ I q;refine λi y σ H6 hy ak=>AM λU b=>?_;obtain⟨u7,u8,u9,rfl,I,q⟩:=ak;refine b ?_;clear b;obtain⟨c,hc,rfl⟩:=getm hy;have a3:=QO (ls:=ls) (ns:=ns) m1 E a1 T i;rw[XM hc];generalize Eh ls ns m t a T i=ss at q a3;refine AU ?_;cbv;refine⟨⟨by decide,by decide⟩,Or.inr ⟨by decide,by decide⟩,(by show(0:Int)<65539;decide),(by show(0:Int)<m;lia),?_⟩;refine AU ?_;cbv;refine⟨⟨by decide,by decide⟩,?_⟩;refine AU ?_;cbv;have r0:0<=BS m c:=Fj _ (by lia);have r1:BS m c<m:=Fi _ (by lia);obtain⟨n,R⟩:=DL r0;have aN:=a3.len;have an:n<ss.length:=(by lia);have a4:EU ss (BS m c)=ss[n]:=by unfold EU;rw[R,Bo,B0,AC an];rfl
   have aX:ET m<=3:=by unfold ET;split<;>lia
   refine HF (λσ' r=>σ'=[some (.ref af),some (.ref L),some (.ref ab),some (.int m),some (.ref ag),some (.ref S),some (.int (ET m)),some (.int c),some (.int (BS m c)),some (.int (c/8))]/\Ac H r/\Df r S us d g (IT ls m a ss c)) ?_ (λNX ao=>?_);rotate_left
   . refine AM λU b=>?_
     obtain⟨u,G,j,ah,ai,aj,g4,⟨X,⟨tG,J,Y⟩,_⟩⟩:=q.get an;refine b ?_;clear b;have aa:Bv (us.map V.ref) (BS m c)=some (.ref u):=by rw[R];exact BX (by rw[Bh,ah];rfl)
     have aq:(tG.map V.ref).length=(EU ss (BS m c)).1.length:=(by rw[An,Y.len,a4]);have no:¬(c%8<3/\(EU ss (BS m c)).1.length<ET m)->IT ls m a ss c=ss:=λz=>Ak z;refine⟨(by show(0:Int)<8;decide),rfl,Am (λM=>?_) (λM=>?_)⟩;rotate_left;refine ao _ _ ⟨rfl,I,?_⟩;rw[no λz=>M (A7 z.1)];exact q;have ar:c%8<3:=Bi M;refine Or.inl ⟨_,.ref u,Ae.of q.top,aa,Or.inr (Or.inl ⟨_,.ref G,Ap.of X,rfl,_,Or.inl ⟨_,Ae.of J,rfl⟩,rfl,Am (λN=>?_) (λN=>?_)⟩)⟩;rotate_left;refine ao _ _ ⟨rfl,I,?_⟩;rw[no λz=>N (A7 (by rw[aq];exact Int.ofNat_lt.mpr z.2))];exact q
     have au:(EU ss (BS m c)).1.length<ET m:=by
      have:=Bi N;rw[aq] at this;exact Int.ofNat_lt.mp this
     refine Or.inl ⟨_,.ref u,Ae.of q.top,aa,Or.inr (Or.inl ⟨_,.ref G,Ap.of X,rfl,Or.inl ⟨rfl,_,Ae.of J⟩,Or.inr (Or.inl ⟨_,.int a,I.seqT hZ,rfl,c/8,L,ls,m,a,rfl,I.seq hL,ll,m1,a1,λtp H8 aO p av=>?_⟩)⟩)⟩;have Z:=p _ _ J;have mG:G∈d++g:=Ek _ (Bl ai);refine⟨_,Z,by rw[aq];exact BK (by lia),ao _ _ ⟨rfl,λx o e=>?_,?_⟩⟩;rw[AE (AK e (ae G mG))];exact p _ _ (I _ _ e);have:=(q.same p).step W an ai Z (Y.same p) av;unfold IT;rw[Al ⟨ar,au⟩,a4,R,Bo];exact this
   rintro σ' H7 ⟨rfl,l,C⟩;have aP:(IT ls m a ss c).length=m:=by rw[Kf];exact aN
   show _;unfold QM;generalize IT ls m a ss c=v at C aP;have ax:n<v.length:=(by lia);have a5:EU v (BS m c)=v[n]:=by unfold EU;rw[R,Bo,B0,AC ax];rfl
   refine AM λU b=>?_;obtain⟨u,G,j,ah,ai,aj,g4,⟨X,_,⟨tE,J,Y⟩⟩⟩:=C.get ax;refine b ?_;clear b;have aa:Bv (us.map V.ref) (BS m c)=some (.ref u):=by rw[R];exact BX (by rw[Bh,ah];rfl)
   have aw:(tE.map V.ref).length=(EU v (BS m c)).2.length:=(by rw[An,Y.len,a5]);have no:¬((2<c%8/\c%8<6)/\(EU v (BS m c)).2.length<2)->NE ls ns m t a v c=v:=λz=>Ak z;refine⟨(by show(0:Int)<8;decide),_,rfl,Am (λd0=>?_) (λd0=>?_)⟩;rotate_left;refine⟨rfl,Bb (Bb ⟨_,_,_,rfl,l,?_⟩)⟩;rw[no λz=>d0 (A7 z.1.1)];exact C;have aQ:2<c%8:=Bi d0;refine⟨rfl,Am (λM=>?_) (λM=>?_)⟩;rotate_left;refine⟨_,_,_,rfl,l,?_⟩;rw[no λz=>M (A7 z.1.2)];exact C;have ar:c%8<6:=Bi M;refine Or.inl ⟨_,.ref u,Ae.of C.top,aa,Or.inr (Or.inl ⟨_,.ref j,Ap.of X,rfl,_,Or.inl ⟨_,Ae.of J,rfl⟩,rfl,Am (λN=>?_) (λN=>?_)⟩)⟩;rotate_left;refine⟨_,_,_,rfl,l,?_⟩;rw[no λz=>N (A7 (by rw[aw];exact Int.ofNat_lt.mpr z.2))];exact C
   have au:(EU v (BS m c)).2.length<2:=by
    have:=Bi N;rw[aw] at this;exact Int.ofNat_lt.mp this
   refine Or.inl ⟨_,.ref u,Ae.of C.top,aa,Or.inr (Or.inl ⟨_,.ref j,Ap.of X,rfl,Or.inl ⟨rfl,_,Ae.of J⟩,Or.inr (Or.inl ⟨_,.int t,l.seqT hZ,rfl,Or.inr (Or.inl ⟨_,.int a,l.seqT hZ,rfl,c/8,L,ab,ls,ns,t,a,rfl,l.seq hL,ll,l.seq hN,ln,E,a1,λtp H8 aO p av=>?_⟩)⟩)⟩)⟩;have Z:=p _ _ J;have mE:j∈d++g:=Dj _ (Bl aj);refine⟨_,Z,by rw[aw];exact BK (by lia),⟨_,_,_,rfl,λx o e=>?_,?_⟩⟩;rw[AE (AK e (ae j mE))];exact p _ _ (l _ _ e);have:=(C.same p).tell W ax aj Z (Y.same p) av;unfold NE;rw[Al ⟨⟨aQ,ar⟩,au⟩,a5,R,Bo];exact this
abbrev Ei (ns:List Int):List Str:=G2 (Fq ns 0) 3
abbrev MR (ns:List Int):List Str:=G2 (Fq ns 1) 5
def Iw (ns:List Int) (n:Nat):List Int:=(List.range n).map λk:Nat=>Fq ns (2+(k:Int))
abbrev MS (ns:List Int):Int:=Fq ns 7
abbrev BA (ns:List Int):Nat:=(1+MS ns%5).toNat
abbrev Cg (ns:List Int):List Int:=ns.drop 9
def EV (cs:List Int):Nat:=(cs.filter λc=>decide (c%8=7)).length
def BL (ns:List Int):Nat:=1+min 5 (EV (Cg ns))
abbrev DC (ns:List Int):Nat:=(1+Fq ns 2%3).toNat
def K9 (m a:Nat) (l:List (Str×Int)) (c:Int):List (Str×Int):=if c%8=6/\l.length<6 then l++[ML m a (c/8)] else l
def BU (ns:List Int) (i:Nat):List (Str×Int):=((Cg ns).take i).foldl (K9 (BA ns) (BL ns)) [("part",MS ns/5%BA ns)]
def Kg (nm:List Str) (m s:Nat) (l:List Qu) (c:Int):List Qu:=if c%8=7/\l.length<6 then l++[DA nm m s (c/8)] else l
def FG (ns:List Int) (i:Nat):List Qu:=((Cg ns).take i).foldl (Kg (Ei ns) (BA ns) (DC ns)) [DA (Ei ns) (BA ns) (DC ns) (MS ns/25)]
def O5(ns:List Int):1<=BA ns/\BA ns<=5:=by unfold BA;lia
def Ut(ns:List Int):1<=DC ns/\DC ns<=3:=by unfold DC;lia
def O6(ns:List Int):1<=BL ns/\BL ns<=6:=by unfold BL;lia
def XO(h:(Cg ns)[i]?=some c):BU ns (i+1)=K9 (BA ns) (BL ns) (BU ns i) c:=by
 unfold BU;rw[DV,h,Kt];rfl
def XQ(h:(Cg ns)[i]?=some c):FG ns (i+1)=Kg (Ei ns) (BA ns) (DC ns) (FG ns i) c:=by
 unfold FG;rw[DV,h,Kt];rfl
set_option tactic.hygienic true in
def QP(ns:List Int)(i:Nat):1<=(BU ns i).length/\(BU ns i).length<=6:=by
 unfold BU;generalize (Cg ns).take i=l
 have:∀(l:List Int)(g:List (Str × Int)),1<=g.length/\g.length<=6->1<=(l.foldl (K9 (BA ns) (BL ns)) g).length/\(l.foldl (K9 (BA ns) (BL ns)) g).length<=6:=by
  intro l
  induction l with
  |nil=>exact λg h=>h
  |cons c l a =>
    intro g h;refine a _ ?_;unfold K9;split;rename_i k;rw[AY,DJ];lia;exact h
 exact this l _ ⟨AD _,(by show 1<=6;decide)⟩
def Kh(ns:List Int)(i:Nat):∀p∈BU ns i,FS (BA ns) (BL ns) p:=by
 unfold BU;generalize (Cg ns).take i=l;have b:=O5 ns;have d:=O6 ns
 have:∀(l:List Int)(g:List (Str × Int)),(∀p∈g,FS (BA ns) (BL ns) p) -> ∀p∈l.foldl (K9 (BA ns) (BL ns)) g,FS (BA ns) (BL ns) p:=by
  intro l
  induction l with
  |nil=>exact λg h=>h
  |cons c l e =>
    intro g h;refine e _ ?_;unfold K9;split;intro p a;rcases BI.mp a with a|a;exact h p a;rw[AZ.mp a];exact MM b.1 d.1 _;exact h
 refine this l _ λp a=>?_;rw[AZ.mp a];exact .inr (.inl ⟨rfl,Fj _ (by lia),Fi _ (by lia)⟩)
def XR(ns:List Int)(i:Nat):(FG ns i).length=1+min 5 (EV ((Cg ns).take i)):=by
 unfold FG;generalize (Cg ns).take i=l
 have:∀(l:List Int)(g:List Qu),g.length<=6->(l.foldl (Kg (Ei ns) (BA ns) (DC ns)) g).length=min 6 (g.length+EV l):=by
  intro l
  induction l with
  |nil=>intro g h;show g.length=min 6 (g.length+0);lia
  |cons c l d =>
    intro g h;show(l.foldl _ (Kg (Ei ns) (BA ns) (DC ns) g c)).length=_
    have e:EV (c::l)=(if c%8=7 then 1 else 0)+EV l:=by
     unfold EV;rw[M3];by_cases a:c%8=7;rw[Al (A7 a),Al a,El];lia;rw[Ak (by rw[Do a];exact Cz),Ak a];lia
    rw[e];by_cases k:c%8=7/\g.length<6;have b:Kg (Ei ns) (BA ns) (DC ns) g c=g++[DA (Ei ns) (BA ns) (DC ns) (c/8)]:=Al k;rw[b,d _ (by rw[AY,DJ];lia),AY,DJ,Al k.1];lia;have b:Kg (Ei ns) (BA ns) (DC ns) g c=g:=Ak k;rw[b,d g h];by_cases a:c%8=7;have:¬g.length<6:=λz=>k ⟨a,z⟩;lia;rw[Ak a];lia
 rw[this l _ (by show 1<=6;decide)];show min 6 (1+EV l)=_;lia
def Uu(ns:List Int):(FG ns (Cg ns).length).length=BL ns:=by rw[XR,Ej];rfl
def MT(ns:List Int)(i:Nat):∀q∈FG ns i,(0<=q.1/\q.1<BA ns)/\(0<=q.2.1/\q.2.1<DC ns)/\1<=q.2.2.length/\q.2.2.length<=8:=by
 unfold FG;generalize (Cg ns).take i=l;have d:=O5 ns;have e:=Ut ns
 have one:∀c,(0<=(DA (Ei ns) (BA ns) (DC ns) c).1/\(DA (Ei ns) (BA ns) (DC ns) c).1<BA ns)/\(0<=(DA (Ei ns) (BA ns) (DC ns) c).2.1/\(DA (Ei ns) (BA ns) (DC ns) c).2.1<DC ns)/\1<=(DA (Ei ns) (BA ns) (DC ns) c).2.2.length/\(DA (Ei ns) (BA ns) (DC ns) c).2.2.length<=8:=λc=>by
  have:=Kd (Ei ns) c;exact⟨⟨Fj _ (by lia),Fi _ (by lia)⟩,⟨Fj _ (by lia),Fi _ (by lia)⟩,this.1,Em this.2 (by decide)⟩
 have:∀(l:List Int)(g:List Qu),(∀q∈g,(0<=q.1/\q.1<BA ns)/\(0<=q.2.1/\q.2.1<DC ns)/\1<=q.2.2.length/\q.2.2.length<=8) -> ∀q∈l.foldl (Kg (Ei ns) (BA ns) (DC ns)) g,(0<=q.1/\q.1<BA ns)/\(0<=q.2.1/\q.2.1<DC ns)/\1<=q.2.2.length/\q.2.2.length<=8:=by
  intro l
  induction l with
  |nil=>exact λg h=>h
  |cons c l b =>
    intro g h;refine b _ ?_;unfold Kg;split;intro p a;rcases BI.mp a with a|a;exact h p a;rw[AZ.mp a];exact one _;exact h
 refine this l _ λp a=>?_;rw[AZ.mp a];exact one _
structure NF (ns:List Int) (ss:List Bk) (gs:List (Str×Int)) (qs:List Qu) (sts:List Cr) (inn:Int) (ord:A'):Prop where
 ss:ss=Eh (MR ns) (Ei ns) (BA ns) (BU ns (Cg ns).length).length (BL ns) (Cg ns) (Cg ns).length
 gs:gs=BU ns (Cg ns).length
 qs:qs=FG ns (Cg ns).length
 tb:O3 (Iw ns 5) (MR ns) sts inn ord
def NF.uniq{ns:List Int}{ss d:List Bk}{gs e:List (Str×Int)}{qs f:List Qu}{g i:List Cr}{inn j:Int}{ord l:A'}(h:NF ns ss gs qs g inn ord)(k:NF ns d e f i j l):ss=d/\gs=e/\qs=f/\g=i/\inn=j/\ord=l:=by
 obtain⟨a,b,c⟩:=h.tb.uniq k.tb;exact⟨h.ss.trans k.ss.symm,h.gs.trans k.gs.symm,h.qs.trans k.qs.symm,a,b,c⟩
def gM(ns:List Int)(n:Nat):Iw ns (n+1)=Iw ns n++[Fq ns (2+(n:Int))]:=by unfold Iw;rw[List.range_succ,Br];rfl
def XS(ns:List Int)(n:Nat):(Iw ns n).length=n:=by unfold Iw;rw[An,List.length_range]
def QQ(ns:List Int):(Iw ns 5).getD 0 0=Fq ns 2:=rfl
def O7{gs:List (Str×Int)}{qs:List Qu}{f:List Cr}{inn:Int}{ord:A'}(h:NF ns ss gs qs f inn ord){as:List (C')}(g:as.length=qs.length)(o:∀p,some p∈as->p.1=("thing" : Str)->0<=p.2/\p.2<gs.length):Qk ⟨ss,gs,as,f⟩ qs inn ord:=by
 have j:=O5 ns;have r:=O6 ns;have t:=QP ns (Cg ns).length;have F:=Ut ns;have eq:qs.length=BL ns:=(by rw[h.qs,Uu]);have u:gs.length=(BU ns (Cg ns).length).length:=(by rw[h.gs]);have a:=QO (ls:=MR ns) (ns:=Ei ns) j.1 t.1 r.1 (Cg ns) (Cg ns).length;rw[<-h.ss,<-u] at a;have ls:f.length=DC ns:=(by rw[h.tb.len,QQ]);have k:(0:Int)<1+Fq ns 2%3:=(by lia);have l:(DC ns:Int)=1+Fq ns 2%3:=by unfold DC;lia
 have v:FE ⟨ss,gs,as,f⟩:=by
  refine⟨λs b=>?_,λs b p d=>?_,λp d=>?_,o,λs b p d=>?_⟩;have:=a.st s b;have:ET (BA ns)<=3:=by unfold ET;split<;>lia
  lia;show Fu ss.length as.length p;rw[a.len,g,eq];exact a.kst s b p d;show FS ss.length as.length p;rw[a.len,g,eq];exact Kh ns _ p (h.gs▸d);obtain⟨i,w,e⟩:=List.getElem_of_mem b;have x:=h.tb.at_ i s (by rw[AC w,e]);have:=XH (ls:=MR ns) (c:=(Iw ns 5).getD (1+i) 0) (n:=1+(Iw ns 5).getD 0 0%3) (by rw[QQ];exact k) 5 p (x.pg.mem_iff.mp d);rw[QQ] at this;show 0<=p.2/\p.2<(f.length:Int);rw[ls,l];exact this
 have y:∀s∈ss,s.1.length<=ET (BA ns):=a.st
 have z:JK (ET (BA ns)) ss.length*max 2 (ET (BA ns))<=62:=by
  rw[a.len];generalize BA ns=m at j;have:m=1\/m=2\/m=3\/m=4\/m=5:=(by lia);rcases this with e|e|e|e|e<;>subst e<;>decide
 obtain⟨ok,A⟩:=cL v (B:=ET (BA ns)) y (by show ss.length<=100;rw[a.len];lia) z a.tl (λs b p d=>by
  show Fv gs.length as.length p
  rw[g,eq];exact a.ktl s b p d)
 refine⟨ok,A,?_,h.tb.ord.irr (XD (by decide)),?_,λq C=>?_⟩;have:=h.tb.ord.len (by rw[ND];decide);lia;rw[h.tb.inn,QQ];show 0<=_/\_<(f.length:Int);have D:=Fj (Fq ns 2/3) (show 1+Fq ns 2%3≠0 by lia);have E:=Fi (Fq ns 2/3) k;rw[ls,l];exact⟨D,E⟩;have:=MT ns _ q (h.qs▸C);show(0<=q.1/\q.1<(ss.length:Int))/\(0<=q.2.1/\q.2.1<(f.length:Int))/\_;rw[a.len,ls];exact this
inductive D6 (K:Ah) (vs:List V) (H:Hp) (Q:VK):Prop where
 |mk (a:Addr) (ns:List Int) (h0:vs=[.ref a]) (h1:Ae K H a (ns.map V.int)) (h2:ns.length<=63) (h3:∀(r nt t S T R:Addr)(us Gs Es ts qt:List Addr)(ss:List Bk)(gs:List (Str×Int))(qs:List Qu)(sts:List Cr)(inn:Int)(ord:A')(H':Hp),Ac H H'->H' r=some (.tup [.ref nt,.ref t])->H' nt=some (.tup [.ref S,.ref T,.ref R])->Fw H' S T R us Gs Es ts qt ss gs qs->FR K (λζ=>True) H' t sts inn ord->NF ns ss gs qs sts inn ord->Q (.ref r) H'):D6 K vs H Q
def gN (K:Ah):Sp:=λvs H Q ζ=>D6 K vs H Q
variable (P w K mg base) in
abbrev QR:Prop:=BG P w K mg base "_law_made" 4 ["_law_script"] (gN K)
theorem gO (B:BH mg) (aB:Ue P w K mg base) (ah:Uf P w K mg base) (bg:Ul P w K mg base) (aC:Uo P w K mg base) (bh:Up P w K mg base) (bi:Us P w K mg base) (F:Bu K "_law_made" "_law_made" NI f fd) (hm:mg "_law_made" = some (.ref f)):QR P w K mg base:=by
 refine BZ F hm Hg (λvs aq ba bb ar=>?_) (λbH bF bT s aq vs ba bb hr ar=>?_);obtain⟨a,ns,rfl,_⟩:=ar;rfl
 . obtain⟨a,ns,rfl,S,bR,q⟩:=ar
   have U:=O5 ns;have z2:=O6 ns;have z3:=Ut ns
   refine⟨_,(Ao (AX (i:=1) Hg.nd (A9 aB (Ab (A9 ah (Ab (pv 0) (Ab Ai Af))) (Ab Ai Af))))
    (Ao (AX (i:=2) Hg.nd (A9 aB (Ab (A9 ah (Ab (pv 0) (Ab Ai Af))) (Ab Ai Af))))
    (Ao (AX (i:=3) Hg.nd (A9 bg (Ab (G9 rfl C0 (Ye rfl B.b_range (Ab Ai (Ab Ai Af))) (λζ ζ ζ ζ ζ=>(AA (i:=0) C0.nd)) (λζ ζ ζ ζ ζ=>IK) (λζ ζ ζ ζ ζ=>(A9 ah (Ab (pv 1) (Ab (pv 0) Af))))) (Ab (pv 2) Af))))
    (Ao (AX (i:=4) Hg.nd (A9 ah (Ab (pv 0) (Ab Ai Af))))
    (Ao (AX (i:=5) Hg.nd (AF Ho Ai (AF Bs (pv 4) Ai)))
    (Ao (AX (i:=6) Hg.nd (Vc Ve (pv 0) (Sd Ai) Jh))
    (Ao (AX (i:=7) Hg.nd (CC (Ab (Bx (Ab B6 (Ab (AF Bs (AF FJ (pv 4) Ai) (pv 5)) Af))) Af)))
    (Ao (AX (i:=8) Hg.nd (CC (Ab (A9 aC (Ab (AF FJ (pv 4) Ai) (Ab (pv 5) (Ab (BE DM B.b_len (Ab (Ay Az (pv 3) Ai) Af)) (Ab (pv 1) Af))))) Af)))
    (Ao (AX (i:=9) Hg.nd (AF Ho Ai (BE (Yn rfl) B.b_min (Ab Ai (Ab (BE DM B.b_len (Ab (G9 rfl C1 (Dk (pv 6)) (λζ ζ ζ ζ ζ=>(AA (i:=0) C1.nd)) (λζ ζ ζ ζ ζ=>(PQ (Bt CF (AF Bs (pv 0) Ai) Ai (Bp _)))) (λζ ζ ζ ζ ζ=>(pv 0))) Af)) Af)))))
    (Ao (CP CB rfl (Dk (pv 6)) (AA (i:=10) Hg.nd) (Ao (Bj (PW.pt (GU (Bt CF (AF Bs (pv 10) Ai) Ai (Bp _)) (GS (Bt F9 (BE DM B.b_len (Ab (pv 7) Af)) Ai (Bp _))))) (At (Db (DN Dp EE EF EH (pv 7) (Ab (A9 bh (Ab (AF FJ (pv 10) Ai) (Ab (pv 5) (Ab (pv 9) Af)))) Af)))) Bm)
     (At (Bj (PW.pt (GU (Bt CF (AF Bs (pv 10) Ai) Ai (Bp _)) (GS (Bt F9 (BE DM B.b_len (Ab (pv 8) Af)) Ai (Bp _))))) (At (Db (DN Dp EE EF EH (pv 8) (Ab (A9 aC (Ab (AF FJ (pv 10) Ai) (Ab (pv 5) (Ab (BE DM B.b_len (Ab (Ay Az (pv 3) Ai) Af)) (Ab (pv 1) Af))))) Af)))) Bm))))
    (Ao (AX (i:=11) Hg.nd (A9 bi (Ab (pv 6) (Ab (pv 2) (Ab (pv 1) (Ab (pv 5) (Ab (Bx (Ab (BE DM B.b_len (Ab (pv 7) Af)) (Ab (pv 9) Af))) Af)))))))
    (At (AW (Bx (Ab (Bx (Ab (pv 11) (Ab (pv 7) (Ab (pv 8) Af)))) (Ab (pv 3) Af)))))))))))))))),?_⟩
   (try dsimp only[AG,Cx.nox,Cx.wish]);refine⟨a,ns,0,rfl,by decide,S,_,3,rfl,by decide,by decide,λN bG hN s1 eN=>?_⟩;refine AU ?_;cbv;refine⟨a,ns,1,rfl,by decide,s1.seq S,_,5,rfl,by decide,by decide,λag H2 hL s2 eL=>?_⟩;have aD:=s1.trans s2;have bj:=s2 _ _ eN;refine AU ?_;cbv
   refine⟨_,_,rfl,⟨by decide,by decide,by decide,by decide⟩,SO (lo:=2) (n:=5) (λD i A b=>Ac H2 b/\b D=some (.lst A)/\A=(Iw ns i).map V.int)
    (λD E=>⟨Bf E,Aa,rfl⟩) (λD i A H3 RR E hi G k=>?_) (λTC A H3 bI G=>?_)⟩
   obtain⟨M,eD,rfl⟩:=G;refine⟨a,ns,2+(i:Int),rfl,by lia,(aD.trans M).seq S,?_⟩;refine k _ _ eD (by rw[An,XS];exact BK (by lia)) ⟨λbc o e=>?_,Aa,?_⟩;rw[AE (AK e E)];exact M _ _ e;rw[gM,Br];rfl;obtain⟨M,bk,rfl⟩:=G;have bl:=aD.trans M;have aE:=M _ _ eL;have aw:=M _ _ bj;refine⟨TC,ag,Iw ns 5,MR ns,rfl,Ae.of bk,XS ns 5,Ae.of aE,ND _ _,λt bm bn bo H4 W TB aF=>?_⟩;have ai:=bl.trans W;refine AU ?_;cbv;refine⟨a,ns,7,rfl,by decide,ai.seq S,?_⟩;refine AU ?_;cbv;refine⟨(by show(0:Int)<5;decide),?_⟩;dsimp only[Hm,ID];rw[show(1+Fq ns 7%5:Int)=(BA ns:Int) by unfold BA MS;lia];refine AU ?_;cbv
   refine⟨_,rfl,a,_,rfl,ai.seq S,λX h0=>?_⟩;rw[show EM (ns.map V.int) (some 9) none=(Cg ns).map V.int from(YU _ 9).trans (List.map_drop).symm];obtain⟨H5,bp,s5,ax⟩:=new_at (o:=.lst ((Cg ns).map V.int)) h0;rw[<-bp];refine AU ?_;cbv
   have aG:=ai.trans s5;have bq:(Cg ns).length<=63:=by rw[Ks];lia
   refine⟨⟨by decide,by decide⟩,(by show(0:Int)<BA ns;lia),Ca,λp1 br=>?_⟩;obtain⟨H6,bs,s6,bt⟩:=new_at (o:=.tup [.str "part",.int (MS ns/5%BA ns)]) br;rw[<-bs];refine⟨HH,λT Y=>?_⟩;obtain⟨H7,bu,s7,aH⟩:=new_at (o:=.lst [.ref p1]) Y;rw[<-bu];refine AU ?_;cbv;have aj:=s6.trans s7;have aI:=aG.trans aj;refine AM λNz u=>?_;obtain⟨a9,tO,tu,bJ,et,_,_,_,aJ,SR,_⟩:=TB.ex;refine u ?_;clear u;have aK:(tu.map V.ref).length=DC ns:=by rw[An,SR.len,aF.len];rfl
   have aa:=s5.trans aj;refine⟨⟨by decide,by decide⟩,Or.inr (Or.inl ⟨_,.ref a9,Ap.of (aa _ _ et),rfl,_,Or.inl ⟨_,Ae.of (aa _ _ aJ),rfl⟩,_,N,Ei ns,BA ns,(tu.map V.ref).length,rfl,Ae.of ((W.trans aa) _ _ aw),ND _ _,U.1,by lia,λpq pu H8 Z aL aM=>?_⟩)⟩;rw[aK] at aL aM;refine⟨HH,λR H=>?_⟩;obtain⟨H9,bv,s9,bw⟩:=new_at (o:=.lst [.ref pq]) H;rw[<-bv];refine AU ?_;cbv;have ab:=Z.trans s9;have a7:=(aj.trans ab) _ _ ax
   refine⟨⟨_,Ae.of a7⟩,PZ (xs:=(Cg ns).map V.int) (λD i A b=>Ac H9 b/\b D=some (.lst A)/\A=(((Cg ns).take i).filter λc=>decide (c%8=7)).map V.int)
    (λD E=>⟨Bf E,Aa,rfl⟩) (λD i A b ay=>by obtain⟨s,_⟩:=ay;exact Ae.of (s _ _ a7)) (λD au bd A ak RR R0 E hy G k k0=>?_) (λCD A ak bK G=>?_)⟩
   obtain⟨v,eD,rfl⟩:=G;obtain⟨c,C,rfl⟩:=getm hy;have bL:au<(Cg ns).length:=(A8.mp C).1;refine⟨(by show(0:Int)<8;decide),rfl,rfl,Am (λav=>?_) (λav=>?_)⟩;have d':c%8=7:=V.int.inj (Bi av);refine k _ _ eD ?_ ⟨λbc o e=>?_,Aa,?_⟩;have h1:(((Cg ns).take au).filter λc=>decide (c%8=7)).length<=((Cg ns).take au).length:=Pk _ _;rw[FN] at h1;rw[An];exact BK (by lia);rw[AE (AK e E)];exact v _ _ e;rw[DV,C,NH,Br];congr 1;show _=(List.filter _ [c]).map V.int;rw[M3,Al (A7 d')];rfl;have d':¬c%8=7:=λz=>av (A7 (by show V.int (c%8)=V.int 7;rw[z]));refine k0 _ ⟨v,eD,?_⟩;rw[DV,C,NH,Br];show _=_++(List.filter _ [c]).map V.int;rw[M3,Ak (by rw[Do d'];exact Cz)];exact(FH _).symm;obtain⟨v,aN,rfl⟩:=G;rw[An,Ej] at aN;have bx:(((Cg ns).filter λc=>decide (c%8=7)).map V.int).length=EV (Cg ns):=An _;refine⟨_,Or.inl ⟨_,Ae.of aN,rfl⟩,_,_,rfl,?_⟩;rw[bx];dsimp only[Hm,ID]
   rw[show(1+(if((EV (Cg ns):Nat):Int)<5 then((EV (Cg ns):Nat):Int) else 5):Int)=(BL ns:Int) by unfold BL;split<;>lia]
   refine AU ?_;cbv;have aR:=(ab.trans v) _ _ aH;have aS:=v _ _ bw;have bM:aq T=none:=(aG.trans s6).free Y;have bN:aq R=none:=(aI.trans Z).free H;have aO:T≠R:=λz=>by rw[<-z,Z _ _ aH] at H;cases H
   have a8:=v _ _ a7;have aT:X≠T:=λz=>by rw[<-z,s6 _ _ ax] at Y;cases Y
   have aU:X≠R:=λz=>by rw[<-z,(aj.trans Z) _ _ ax] at H;cases H
   have bS:=aI.trans (ab.trans v);have b9:=aa.trans (ab.trans v);have bz:H4 T=none:=(s5.trans s6).free Y;have b0:H4 R=none:=(aa.trans Z).free H;have az:∀{b:Hp},Keeps (λx=>x=T\/x=R) ak b->Ac H4 b:=λk x o e=>k.at_ _ _ (b9 _ _ e) λz=>z.elim (AK e bz) (AK e b0)
   refine⟨⟨_,Ae.of a8⟩,EZ (xs:=(Cg ns).map V.int) (λi σ b=>∃a0 d g,σ=[some (.ref a),some (.ref N),some (.ref ag),some (.ref t),some (.int (Fq ns 7)),some (.int (BA ns)),some (.ref X),some (.ref T),some (.ref R),some (.int (BL ns)),a0,none]/\Keeps (λx=>x=T\/x=R) ak b/\b T=some (.lst (d.map V.ref))/\GT b d (BU ns i)/\b R=some (.lst (g.map V.ref))/\QT b g (FG ns i))
    ⟨none,[p1],[pq],rfl,Keeps.refl λx o m e=>?_,aR,?_,aS,?_⟩ (λi σ b ζ ay=>by obtain⟨_,_,_,_,k,_⟩:=ay;exact Ae.of (k.at_ _ _ a8 λz=>z.elim aT aU)) ?_ ?_⟩
   rcases m with m|m;rw[m,aR] at e;exact⟨_,(AO e).symm⟩;rw[m,aS] at e;exact⟨_,(AO e).symm⟩;exact GT.nil.snoc (p:=(("part" : Str),MS ns/5%BA ns)) ((s7.trans (ab.trans v)) _ _ bt);exact QT.nil.snoc (q:=DA (Ei ns) (BA ns) (DC ns) (MS ns/25)) ((s9.trans v) _ _ aL) ((s9.trans v) _ _ aM)
   . refine λi bd σ b1 hy ae=>AM λNz u=>?_
     obtain⟨a0,d,g,rfl,L,h,j,l,y⟩:=ae;refine u ?_;clear u;refine GJ ?_;intro Nx Cy;obtain⟨c,C,rfl⟩:=getm hy;refine AU ?_;cbv;have ao:=az L;have af:(d.map V.ref).length=(BU ns i).length:=(by rw[An,j.len]);have a1:(g.map V.ref).length=(FG ns i).length:=(by rw[An,y.len]);have b6:=(QP ns i).2;have q6:(FG ns i).length<=6:=by rw[XR];lia
     refine HF (λσ' b=>∃d,σ'=[some (.ref a),some (.ref N),some (.ref ag),some (.ref t),some (.int (Fq ns 7)),some (.int (BA ns)),some (.ref X),some (.ref T),some (.ref R),some (.int (BL ns)),some (.int c),none]/\Keeps (λx=>x=T\/x=R) ak b/\b T=some (.lst (d.map V.ref))/\GT b d (BU ns (i+1))/\b R=some (.lst (g.map V.ref))/\QT b g (FG ns i)) ?_ (λNX a2=>?_);rotate_left
     . have no:¬(c%8=6/\(BU ns i).length<6)->BU ns (i+1)=BU ns i:=λz=>by rw[XO C];exact Ak z
       refine⟨(by show(0:Int)<8;decide),rfl,rfl,Am (λI=>?_) (λI=>?_)⟩;rotate_left;refine a2 _ _ ⟨d,rfl,L,h,?_,l,y⟩;rw[no λz=>I (A7 (by show V.int (c%8)=V.int 6;rw[z.1]))];exact j;have a3:c%8=6:=V.int.inj (Bi I);refine⟨_,Or.inl ⟨_,Ae.of h,rfl⟩,rfl,Am (λJ=>?_) (λJ=>?_)⟩;rotate_left;refine a2 _ _ ⟨d,rfl,L,h,?_,l,y⟩;rw[no λz=>J (A7 (by rw[af];exact Int.ofNat_lt.mpr z.2))];exact j
       have a4:(BU ns i).length<6:=by
        have:=Bi J;rw[af] at this;exact Int.ofNat_lt.mp this
       refine⟨Or.inl ⟨rfl,_,Ae.of h⟩,⟨by decide,by decide⟩,c/8,BA ns,BL ns,rfl,U.1,z2.1,λtp al bO r b2=>?_⟩;have aV:=r _ _ h;have kT:Keeps (·=T) al (upd al T (.lst (d.map V.ref++[.ref tp]))):=Keeps.one aV;refine⟨_,aV,by rw[af];exact BK (by lia),a2 _ _ ⟨d++[tp],rfl,(L.same r).set (.inl rfl),by rw[Aa,Br];rfl,?_,kT.at_ _ _ (r _ _ l) (Ne.symm aO),(y.same r).keeps kT⟩⟩;rw[XO C,show K9 (BA ns) (BL ns) (BU ns i) c=BU ns i++[ML (BA ns) (BL ns) (c/8)] from Al ⟨a3,a4⟩];exact((j.same r).snoc b2).keeps kT
     refine λσ' al ae=>AM λNz u=>?_;obtain⟨d,rfl,an,h,j,l,y⟩:=ae;refine u ?_;clear u;have O:=az an;have no:¬(c%8=7/\(FG ns i).length<6)->FG ns (i+1)=FG ns i:=λz=>by rw[XQ C];exact Ak z
     refine⟨(by show(0:Int)<8;decide),rfl,rfl,Am (λI=>?_) (λI=>?_)⟩;rotate_left;refine⟨_,d,g,rfl,an,h,j,l,?_⟩;rw[no λz=>I (A7 (by show V.int (c%8)=V.int 7;rw[z.1]))];exact y;have a3:c%8=7:=V.int.inj (Bi I);refine⟨_,Or.inl ⟨_,Ae.of l,rfl⟩,rfl,Am (λJ=>?_) (λJ=>?_)⟩;rotate_left;refine⟨_,d,g,rfl,an,h,j,l,?_⟩;rw[no λz=>J (A7 (by rw[a1];exact Int.ofNat_lt.mpr z.2))];exact y
     have a4:(FG ns i).length<6:=by
      have:=Bi J;rw[a1] at this;exact Int.ofNat_lt.mp this
     refine⟨Or.inl ⟨rfl,_,Ae.of l⟩,⟨by decide,by decide⟩,Or.inr (Or.inl ⟨_,.ref a9,Ap.of (O _ _ et),rfl,_,Or.inl ⟨_,Ae.of (O _ _ aJ),rfl⟩,c/8,N,Ei ns,BA ns,(tu.map V.ref).length,rfl,Ae.of ((W.trans O) _ _ aw),ND _ _,U.1,by lia,λaP bP a5 r aW aX=>?_⟩)⟩;rw[aK] at aW aX;have aY:=r _ _ l;have kR:Keeps (·=R) a5 (upd a5 R (.lst (g.map V.ref++[.ref aP]))):=Keeps.one aY;refine⟨_,aY,by rw[a1];exact BK (by lia),⟨_,d,g++[aP],rfl,(an.same r).set (.inr rfl),kR.at_ _ _ (r _ _ h) aO,(j.same r).keeps kR,by rw[Aa,Br];rfl,?_⟩⟩;rw[XQ C,show Kg (Ei ns) (BA ns) (DC ns) (FG ns i) c=FG ns i++[DA (Ei ns) (BA ns) (DC ns) (c/8)] from Al ⟨a3,a4⟩];exact((y.same r).snoc aW aX).keeps kR
   refine λσ b1 ae=>AM λNz u=>?_;obtain⟨a0,d,g,rfl,L,h,j,l,y⟩:=ae;refine u ?_;clear u;rw[An] at j y;have ao:=az L;have bA:=ai.trans ao;have b3:=QP ns (Cg ns).length;have af:(d.map V.ref).length=(BU ns (Cg ns).length).length:=(by rw[An,j.len]);have bB:=L.at_ _ _ a8 λz=>z.elim aT aU;refine⟨_,Or.inl ⟨_,Ae.of h,rfl⟩,Ca,λbe hZ=>?_⟩;rw[af];obtain⟨al,bC,a6,eZ⟩:=new_at (o:=.tup [.int (BU ns (Cg ns).length).length,.int (BL ns)]) hZ;rw[<-bC];have O:=ao.trans a6;refine⟨X,ag,N,be,Cg ns,MR ns,Ei ns,BA ns,(BU ns (Cg ns).length).length,BL ns,rfl,Ae.of (a6 _ _ bB),bq,Ae.of ((W.trans O) _ _ aE),ND _ _,Ae.of ((W.trans O) _ _ aw),ND _ _,Ap.of eZ,U.1,U.2,b3.1,z2.1,λaA us Gs Es a5 b4 SC=>?_⟩;refine AU ?_;cbv;have bE:=a6.trans b4;refine⟨Jv,λnt b5=>?_⟩;obtain⟨bQ,bD,b7,b8⟩:=new_at (o:=.tup [.ref aA,.ref T,.ref R]) b5;rw[<-bD];refine⟨Ca,λbf hr=>?_⟩;have aQ:=Bf (o:=.tup [.ref nt,.ref t]) hr;have aZ:=b7.trans aQ;have Q:=bE.trans aZ;exact q bf nt t aA T R us Gs Es d g _ _ _ bm bn bo _ (bA.trans Q) Aa (aQ _ _ b8) ⟨SC.same aZ,Q _ _ h,j.same Q,Q _ _ l,y.same Q⟩ (TB.same (ao.trans Q)) ⟨rfl,rfl,rfl,aF⟩
inductive DD (K:Ah) (vs:List V) (H:Hp) (Q:VK):Prop where
 |mk (t a o:Addr) (inn:V) (ss:List Cr) (n:Int) (k:Nat) (s:Cr) (x:Str) (h0:vs=[.ref t,.int n,.str x]) (h1:n=k) (h2:Ap K H t [.ref a,inn,.ref o]) (h3:HJ K H a ss) (h4:ss[k]?=some s) (h5:Q (Ef (En s.1 x)) H):DD K vs H Q
def gP (K:Ah):Sp:=λvs H Q ζ=>DD K vs H Q
variable (P w K mg base) in
abbrev QS:Prop:=BG P w K mg base "next_state" 1 ["table", "state", "label"] (gP K)
theorem gQ(B:BH mg)(F:Bu K "next_state" "next_state" Rj f fd)(D:mg "next_state" = some (.ref f)):QS P w K mg base:=by
 refine BZ F D QC (λl H Q E h=>?_) (λae A af s H l Q E hr h=>?_);obtain⟨t,a,o,U,ss,n,k,s,x,rfl,_⟩:=h;rfl;obtain⟨t,a,o,U,ss,n,k,s,x,rfl,rfl,G,⟨l,I,J⟩,L,q⟩:=h;obtain⟨aa,M,W⟩:=J.get' (i:=k) (d:=KP s) (by rw[Bh,L];rfl);obtain⟨N,g,e,rfl,X,⟨O,u,C⟩,he⟩:=FQ W;have Y:=C.len_map
 refine⟨_,(Ao (AX (i:=3) QC.nd (Ay Az (Ay Az (Ay Az (pv 0) Ai) (pv 1)) Ai))
  (Ao (CP CB rfl (Dk (pv 3)) (Cq (n:=2) rfl (AI (AA (i:=4) QC.nd) (AI (AA (i:=5) QC.nd) Cp))) (At (Bj (Bt CF (pv 4) (pv 2) (Bp _)) (At (AW (pv 5))) Bm)))
  (At (AW GR)))),?_⟩
 (try dsimp only[AG,Cx.nox,Cx.wish]);refine Or.inr (Or.inl ⟨_,.ref a,G,rfl,?_⟩);refine Or.inl ⟨l,.ref N,I,BX M,?_⟩;refine Or.inr (Or.inl ⟨_,.ref g,X,rfl,?_⟩);refine⟨⟨_,u⟩,EZ (xs:=O) (λi σ v=>∃m r,σ=[some (.ref t),some (.int k),some (.str x),some (.ref g),m,r]/\v=H/\∀q∈s.1.take i,q.1≠x) ⟨none,none,rfl,rfl,λq b=>by simp at b⟩ (λi σ v ζ Z=>by obtain⟨_,_,_,e,_⟩:=Z;exact by rw[e];exact u) ?_ ?_⟩;rintro i ab σ R S ⟨m,r,rfl,rfl,j⟩;obtain⟨p,t',y,rfl,T⟩:=C.goes_get S;refine⟨_,T,rfl,?_⟩;refine⟨rfl,rfl,?_⟩;refine Am (λc=>?_) (λc=>?_);have c:p.1=x:=V.str.inj (Bi c);rw[HP y c j] at q;exact q;have c:p.1≠x:=λz=>c (A7 (by rw[z]));refine⟨_,_,rfl,rfl,λq b=>?_⟩;rw[DV,y] at b;rcases BI.mp b with b|b;exact j q b;rw[AZ.mp b];exact c;rintro σ R ⟨m,r,rfl,rfl,j⟩;rw[Y,Ej] at j;rw[VX j] at q;exact q
inductive Ch (K:Ah) (vs:List V) (H:Hp) (Q:VK):Prop where
 |mk (t S T R A:Addr) (ths:List (Str×Int)) (as:List (C')) (n:Int) (k:Nat) (h0:vs=[.ref t,.ref A,.int n]) (h1:n=k) (h2:k<as.length) (h3:Ap K H t [.ref S,.ref T,.ref R]) (h4:De K H T ths) (h5:Hb K H A as) (h6:GF ths as) (h7:∀(r:Addr)(H':Hp),H r=none->Ac H H'->H' r=some (.tup [.str (Ee ths as n).1,.int (Ee ths as n).2])->Q (.ref r) H'):Ch K vs H Q
def gR (K:Ah):Sp:=λvs H Q ζ=>Ch K vs H Q
variable (P w K mg base) in
abbrev Uv:Prop:=BG P w K mg base "inside_of_sort" 1 ["net", "answers", "question"] (gR K)
def gS(B:BH mg)(F:Bu K "inside_of_sort" "inside_of_sort" Rk f fd)(c:mg "inside_of_sort" = some (.ref f)):Uv P w K mg base:=by
 refine BZ F c QD (λg H Q E h=>?_) (λaa A ab s H g Q E a h=>?_);obtain⟨t,S,T,R,A,e,x,n,k,rfl,_⟩:=h;rfl;obtain⟨t,S,T,R,A,e,x,n,k,rfl,rfl,y,C,D,G,ok,q⟩:=h;obtain⟨g,v,M,I,J⟩:=G.get y
 refine⟨_,(Ao (AX (i:=3) QD.nd (Ay Az (pv 1) (pv 2)))
  (Ao (Bj (F8 (Gy (pv 3))) (At (AW (Bx (Ab B6 (Ab (pv 2) Af))))) Bm)
  (Ao (Bj (Bt CF (Ay Az (pv 3) Ai) B6 (Bp _)) (Ao (Eb (Ay Az (Ay Az (pv 0) Ai) (Ay Az (pv 3) Ai)) (Cq (n:=2) rfl (AI (AA (i:=4) QD.nd) (AI (AA (i:=5) QD.nd) Cp))))
   (At (Bj (Bt CF (pv 4) B6 (Bp _)) (At (AW (Bx (Ab B6 (Ab (pv 5) Af))))) Bm))) Bm)
  (At (AW (Bx (Ab B6 (Ab Ai Af)))))))),?_⟩
 (try dsimp only[AG,Cx.nox,Cx.wish]);refine Or.inl ⟨g,v,M,BX I,?_⟩;rcases J with⟨b,rfl⟩|⟨p,Z,b,rfl,u⟩;refine⟨rfl,Am (λζ=>?_) (λh=>absurd (A7 rfl) h)⟩;refine⟨Ca,λr a=>?_⟩;rw[Zc b] at q;exact q r _ a (Bf a) Aa;refine⟨rfl,Am (λh=>absurd (Bi h) (by simp)) (λζ=>?_)⟩;refine Or.inr (Or.inl ⟨_,.str p.1,u,rfl,rfl,rfl,Am (λh=>?_) (λh=>?_)⟩);have d:p.1=("thing" : Str):=V.str.inj (Bi h);obtain⟨L,p1⟩:=ok.t p (Bl b) d;obtain⟨m,c⟩:=DL L;have N:m<e.length:=(by lia);have j:=AC N;obtain⟨O,o,U,W,X⟩:=D.get j;have Y:Bv O p.2=some (.ref o):=by rw[c];exact BX W
 refine Or.inr (Or.inl ⟨_,.ref T,C,rfl,Or.inr (Or.inl ⟨_,.int p.2,u,rfl,Or.inl ⟨O,.ref o,U,Y,?_⟩⟩)⟩);refine⟨_,X,rfl,?_⟩;refine⟨rfl,rfl,Am (λh=>?_) (λh=>?_)⟩;have l:e[m].1=("part" : Str):=V.str.inj (Bi h);refine⟨Ca,λr a=>?_⟩;rw[Ze b d c j l] at q;exact q r _ a (Bf a) Aa;have l:e[m].1≠("part" : Str):=λz=>h (A7 (by rw[z]));refine⟨Ca,λr a=>?_⟩;rw[Zf b d c j l] at q;exact q r _ a (Bf a) Aa;have d:p.1≠("thing" : Str):=λz=>h (A7 (by rw[z]));refine⟨Ca,λr a=>?_⟩;rw[Zd b d] at q;exact q r _ a (Bf a) Aa
inductive F3 (K:Ah) (vs:List V) (H:Hp) (Q:VK):Prop where
 |mk (t S T R A:Addr) (ths:List (Str×Int)) (as:List (C')) (n:Int) (k:Nat) (p:Str×Int) (h0:vs=[.ref t,.ref A,.int n]) (h1:n=k) (h2:ths[k]?=some p) (h3:Ap K H t [.ref S,.ref T,.ref R]) (h4:De K H T ths) (h5:Hb K H A as) (h6:GF ths as) (h7:∀(r:Addr)(H':Hp),H r=none->Ac H H'->H' r=some (.tup [.str (Dr ths as p).1,.int (Dr ths as p).2])->Q (.ref r) H'):F3 K vs H Q
def gT (K:Ah):Sp:=λvs H Q ζ=>F3 K vs H Q
variable (P w K mg base) in
abbrev QU:Prop:=BG P w K mg base "inside" 2 ["net", "answers", "thing"] (gT K)
def gU(B:BH mg)(C:Uv P w K mg base)(F:Bu K "inside" "inside" Rl f fd)(g:mg "inside" = some (.ref f)):QU P w K mg base:=by
 refine BZ F g T6 (λu H Q E h=>?_) (λL A M s H u Q E a h=>?_);obtain⟨t,S,T,R,A,c,b,n,k,p,rfl,_⟩:=h;rfl;obtain⟨t,S,T,R,A,c,b,n,k,p,rfl,rfl,j,l,o,v,ok,q⟩:=h;obtain⟨O,x,D,G,I⟩:=o.get j
 refine⟨_,(Ao (Eb (Ay Az (Ay Az (pv 0) Ai) (pv 2)) (Cq (n:=2) rfl (AI (AA (i:=3) T6.nd) (AI (AA (i:=4) T6.nd) Cp))))
  (Ao (Bj (Bt CF (pv 3) B6 (Bp _)) (At (AW (Bx (Ab B6 (Ab (pv 4) Af))))) Bm)
  (Ao (Bj (Bt CF (pv 3) B6 (Bp _)) (At (AW (A9 C (Ab (pv 0) (Ab (pv 1) (Ab (pv 4) Af)))))) Bm)
  (At (AW (Bx (Ab B6 (Ab Ai Af)))))))),?_⟩
 (try dsimp only[AG,Cx.nox,Cx.wish]);refine Or.inr (Or.inl ⟨_,.ref T,l,rfl,Or.inl ⟨O,.ref x,D,BX G,?_⟩⟩);refine⟨_,I,rfl,?_⟩;refine⟨rfl,rfl,Am (λh=>?_) (λh=>?_)⟩;have d:p.1=("part" : Str):=V.str.inj (Bi h);refine⟨Ca,λr a=>?_⟩
 rw[show Dr c b p=(("to" : Str),p.2) from Al d] at q
 exact q r _ a (Bf a) Aa;have d:p.1≠("part" : Str):=λz=>h (A7 (by rw[z]));refine⟨rfl,rfl,Am (λh=>?_) (λh=>?_)⟩;have e:p.1=("sort" : Str):=V.str.inj (Bi h)
 obtain⟨y,J⟩:=ok.q p (Bl j) e;obtain⟨m,g⟩:=DL y;rw[show Dr c b p=Ee c b p.2 from(Ak d).trans (Al e)] at q;exact⟨t,S,T,R,A,c,b,p.2,m,rfl,g,by lia,l,o,v,ok,q⟩
 have e:p.1≠("sort" : Str):=λz=>h (A7 (by rw[z]));refine⟨Ca,λr a=>?_⟩
 rw[show Dr c b p=(("no" : Str),0) from(Ak d).trans (Ak e)] at q
 exact q r _ a (Bf a) Aa
inductive Ix (K:Ah) (vs:List V) (H:Hp) (Q:VK):Prop where
 |mk (t S T R A st:Addr) (ths:List (Str×Int)) (as:List (C')) (p:B8) (h0:vs=[.ref t,.ref A,.ref st]) (h1:Ap K H t [.ref S,.ref T,.ref R]) (h2:De K H T ths) (h3:Hb K H A as) (h4:GF ths as) (h5:Ap K H st (GW p)) (h6:(p.2.1≠("to" : Str)->0<=p.2.2/\p.2.2<as.length)) (h7:∀(r:Addr)(H':Hp),H r=none->Ac H H'->H' r=some (.tup [.str (BO ths as p).1,.int (BO ths as p).2])->Q (.ref r) H'):Ix K vs H Q
def Ki (K:Ah):Sp:=λvs H Q ζ=>Ix K vs H Q
variable (P w K mg base) in
abbrev Uw:Prop:=BG P w K mg base "goal" 3 ["net", "answers", "step"] (Ki K)
def gW(B:BH mg)(U:QU P w K mg base)(F:Bu K "goal" "goal" Rm f fd)(e:mg "goal" = some (.ref f)):Uw P w K mg base:=by
 refine BZ F e OU (λg H Q E h=>?_) (λaa A ab s H g Q E a h=>?_);obtain⟨t,S,T,R,A,D,o,u,p,rfl,_⟩:=h;rfl;obtain⟨t,S,T,R,A,D,o,u,p,rfl,G,I,x,ok,W,J,q⟩:=h
 refine⟨_,(Ao (Eb (pv 2) (Cq (n:=3) rfl (AI (AA (i:=3) OU.nd) (AI (AA (i:=4) OU.nd) (AI (AA (i:=5) OU.nd) Cp)))))
  (Ao (Bj (Bt CF (pv 4) B6 (Bp _)) (At (AW (Bx (Ab B6 (Ab (pv 5) Af))))) Bm)
  (Ao (AX (i:=6) OU.nd (Ay Az (pv 1) (pv 5)))
  (Ao (Bj (F8 (Gy (pv 6))) (At (AW (Bx (Ab B6 (Ab (pv 5) Af))))) Bm)
  (Ao (Bj (Bt CF (Ay Az (pv 6) Ai) B6 (Bp _)) (At (AW (A9 U (Ab (pv 0) (Ab (pv 1) (Ab (Ay Az (pv 6) Ai) Af)))))) Bm)
  (At (AW (Bx (Ab B6 (Ab Ai Af)))))))))),?_⟩
 (try dsimp only[AG,Cx.nox,Cx.wish]);refine⟨_,W,rfl,?_⟩;refine⟨rfl,rfl,Am (λh=>?_) (λh=>?_)⟩;have b:p.2.1=("to" : Str):=V.str.inj (Bi h);refine⟨Ca,λr a=>?_⟩;rw[Zh b] at q;exact q r _ a (Bf a) Aa;have b:p.2.1≠("to" : Str):=λz=>h (A7 (by rw[z]));obtain⟨L,Z⟩:=J b;obtain⟨n,j⟩:=DL L;obtain⟨g,v,X,M,N⟩:=x.get (k:=n) (by lia);have Y:Bv g p.2.2=some v:=by rw[j];exact BX M
 refine Or.inl ⟨g,v,X,Y,?_⟩;rcases N with⟨d,rfl⟩|⟨c,ta,d,rfl,y⟩;refine⟨rfl,Am (λζ=>?_) (λh=>absurd (A7 rfl) h)⟩;refine⟨Ca,λr a=>?_⟩;rw[Zi b j d] at q;exact q r _ a (Bf a) Aa;refine⟨rfl,Am (λh=>absurd (Bi h) (by simp)) (λζ=>?_)⟩;refine Or.inr (Or.inl ⟨_,.str c.1,y,rfl,rfl,rfl,Am (λh=>?_) (λh=>?_)⟩);have l:c.1=("thing" : Str):=V.str.inj (Bi h);obtain⟨O,q1⟩:=ok.t c (Bl d) l;obtain⟨m,e⟩:=DL O;have C:=AC (show m<o.length by lia);rw[Zk b j d l e C] at q;exact Or.inr (Or.inl ⟨_,.int c.2,y,rfl,t,S,T,R,A,o,u,c.2,m,_,rfl,e,C,G,I,x,ok,q⟩);have l:c.1≠("thing" : Str):=λz=>h (A7 (by rw[z]));refine⟨Ca,λr a=>?_⟩;rw[Zj b j d l] at q;exact q r _ a (Bf a) Aa
def Kj:([]:List V).length+1+1+1+1<=sizeLine:=by decide
variable {W:Wd}
def gX{k:Nat}(h:W.sts[k]?=some s):DX W (k:Int)=s.1:=by unfold DX;rw[Bo,h]
def gY{k:Nat}{s:Bk}(h:W.ss[k]?=some s):BY W (k:Int)=s.1:=by unfold BY;rw[Bo,h]
def gZ{b:Int}{go:List (Str×Int)}{p:B8}{a:Int}(h:En go p.1=some a):E3 W b go p i=[((b,("step" : Str),(i:Int)),BO W.gs W.as p,a)]:=by unfold E3;rw[h]
def g0{a:Int}{go:List (Str×Int)}{p:B8}(h:En go p.1=none):E3 W a go p i=[]:=by unfold E3;rw[h]
inductive DE (K:Ah) (vs:List V) (H:Hp) (Q:VK):Prop where
 |mk (nt A t:Addr) (W:Wd) (sc st:Int) (h0:vs=[.ref nt,.ref A,.ref t,.int sc,.int st]) (h1:Bq K H nt A t W) (h2:B2 W) (h3:(0<=sc/\sc<W.ss.length)) (h4:(0<=st/\st<W.sts.length)) (h5:∀(D:Addr)(zs:List (Addr×Gn))(H':Hp),H D=none->Ac H H'->H' D=some (.lst (zs.map λz=>V.ref z.1))->(∀z∈zs,KU H' z.1 z.2)->zs.map (·.2)=GG W sc st->Q (.ref D) H'):DE K vs H Q
def g8 (K:Ah):Sp:=λvs H Q ζ=>DE K vs H Q
variable (P w K mg base) in
abbrev QV:Prop:=BG P w K mg base "steps_gone" 4 ["net", "answers", "table", "scope", "state"] (g8 K)
theorem g9(B:BH mg)(a0:QS P w K mg base)(a1:Uw P w K mg base)(F:Bu K "steps_gone" "steps_gone" Rn f fd)(d:mg "steps_gone" = some (.ref f)):QV P w K mg base:=by
 refine BZ F d MA (λvs aa an ao h=>?_) (λaN A aP s aa vs an ao hr h=>?_);obtain⟨E,A,t,W,sc,ax,rfl,_⟩:=h;rfl
 . obtain⟨E,A,t,W,sc,ax,rfl,G,ok,a2,a3,aq⟩:=h
   obtain⟨ab,ar,au,us,Gs,Es,ts,qt,qs,eN,y⟩:=G.net;obtain⟨a,o,a4,b1,av,b2,b3⟩:=G.tab;obtain⟨n,hn⟩:=DL a2.1;obtain⟨k,hk⟩:=DL a3.1;subst hn hk;have T:n<W.ss.length:=(by lia);have a5:k<W.sts.length:=(by lia);obtain⟨ae,ag,E1,ay,aL,aM,g4,⟨c0,⟨tG,c1,H⟩,_⟩⟩:=y.sc.get T;have ah:=AC a5;have l:=gY g4;have eG:=gX ah;have a6:Bv (us.map V.ref) (n:Int)=some (.ref ae):=BX (by rw[Bh,ay];rfl);have aO:=ok.st _ (Ep T)
   refine⟨_,(Ao (AX (i:=5) MA.nd (CC Af))
    (Ao (CP CB rfl (P0 rfl B.b_enumerate (Ab (Ay Az (Ay Az (Ay Az (pv 0) Ai) (pv 3)) Ai) Af)) (Cq (n:=2) rfl (AI (AA (i:=6) MA.nd) (AI (AA (i:=7) MA.nd) Cp))) (Ao (AX (i:=8) MA.nd (A9 a0 (Ab (pv 2) (Ab (pv 4) (Ab (Ay Az (pv 7) Ai) Af)))))
     (At (Bj (F8 (NM (pv 8))) (Ao (Eb (A9 a1 (Ab (pv 0) (Ab (pv 1) (Ab (pv 7) Af)))) (Cq (n:=2) rfl (AI (AA (i:=9) MA.nd) (AI (AA (i:=10) MA.nd) Cp))))
      (At (Db (DN Dp EE EF EH (pv 5) (Ab (Bx (Ab (Bx (Ab (pv 3) (Ab B6 (Ab (pv 6) Af)))) (Ab (pv 9) (Ab (pv 10) (Ab (pv 8) Af))))) Af))))) Bm))))
    (At (AW (pv 5))))),?_⟩
   (try dsimp only[AG,Cx.nox,Cx.wish]);refine⟨by decide,λD I=>?_⟩;obtain⟨aI,a7,q,a8⟩:=new_at (o:=.lst []) I;rw[<-a7];refine Or.inr (Or.inl ⟨_,.ref ab,Ap.of (q _ _ eN),rfl,Or.inl ⟨_,.ref ae,Ae.of (q _ _ y.sc.top),a6,Or.inr (Or.inl ⟨_,.ref ag,Ap.of (q _ _ c0),rfl,ag,rfl,⟨_,q _ _ c1⟩,?_⟩)⟩⟩)
   refine SQ (xs:=tG.map V.ref) (λi σ C=>∃J L M N U c,σ=[some (.ref E),some (.ref A),some (.ref t),some (.int n),some (.int k),some (.ref D),J,L,M,N,U]/\Ac aa C/\C D=some (.lst (c.map λz:Addr×Gn=>V.ref z.1))/\(∀z∈c,KU C z.1 z.2)/\c.map (·.2)=Eo W n (DX W k) ((BY W n).take i) 0)
    ⟨none,none,none,none,none,[],rfl,q,a8,λz g=>by simp at g,by rw[Er];rfl⟩ (λi σ C a9=>by obtain⟨_,_,_,_,_,_,_,s,_⟩:=a9;exact Ae.of (s _ _ c1)) ?_ ?_
   rotate_left;refine λσ H2 X=>AM λNz u=>?_;obtain⟨J,L,M,N,U,c,rfl,O,v,g,d⟩:=X;refine u ?_;clear u;refine aq D c H2 I O v g ?_;rw[d,An,H.len,l,Ej];unfold GG;rw[l];refine λi x T' σ H2 hx aA X=>AM λNz u=>?_;obtain⟨J,L,M,N,U,c,rfl,O,v,g,d⟩:=X;refine u ?_;clear u;obtain⟨Q,ai,rfl⟩:=getm hx;have aj:i<W.ss[n].1.length:=by rw[<-H.len];exact(A8.mp ai).1
   have R:=AC aj;have Y:=H.at_ i Q _ ai R;have mp:=Ep aj;generalize W.ss[n].1[i]=p at R Y mp;obtain⟨H3,aB,j,aC⟩:=new_at (o:=.tup [.int i,.ref Q]) aA;rw[<-aB];have b:=O.trans j
   have ak:Eo W n (DX W k) ((BY W n).take (i+1)) 0=Eo W n (DX W k) ((BY W n).take i) 0++E3 W n (DX W k) p i:=by
    rw[DV,l,R];show Eo W n (DX W k) (W.ss[n].1.take i++[p]) 0=_;rw[VY,FN,Nat.zero_add,Nat.min_eq_left (by lia)]
   refine⟨_,Ap.of aC,rfl,?_⟩;refine Or.inr (Or.inl ⟨_,.str p.1,Ap.of (b _ _ Y),rfl,t,a,o,a4,W.sts,k,k,_,p.1,rfl,rfl,b.seqT b1,⟨av,b.seq b2,b3.same b⟩,ah,?_⟩);rw[<-eG]
   cases eg:En (DX W k) p.1 with
   |none =>
     refine⟨rfl,Am (λh=>absurd h (by simp[Ef])) (λζ=>?_)⟩;refine⟨_,_,_,_,_,c,rfl,b,j _ _ v,λz h=>(g z h).same j,?_⟩;rw[ak,g0 eg,FH,d]
   |some af =>
     refine⟨rfl,Am (λζ=>?_) (λh=>absurd (by simp[Ef]) h)⟩;refine⟨E,ab,ar,au,A,Q,W.gs,W.as,p,rfl,Ap.of (b _ _ eN),⟨_,Ae.of (b _ _ y.et),(y.tg.same b).dts⟩,G.ans.same b,ok.net,Ap.of (b _ _ Y),λe=>ok.by_ (Ep T) mp e,λaJ H4 hr s4 er=>?_⟩;refine⟨_,Ap.of er,rfl,?_⟩;have aD:=s4 _ _ (j _ _ v);refine⟨Or.inl ⟨rfl,_,Ae.of aD⟩,Jv,λm aE=>?_⟩;obtain⟨H5,aF,s5,az⟩:=new_at (o:=.tup [.int n,.str "step",.int i]) aE;rw[<-aF];refine⟨Kj,λz aG=>?_⟩;obtain⟨H6,aH,s6,ez⟩:=new_at (o:=.tup [.ref m,.str (BO W.gs W.as p).1,.int (BO W.gs W.as p).2,Ef (some af)]) aG;rw[<-aH];have Z:=(s4.trans s5).trans s6;have al:=Z _ _ (j _ _ v);have S:Keeps (·=D) H6 (upd H6 D (.lst (c.map (λz=>V.ref z.1)++[.ref z]))):=Keeps.one al
     have lz:c.length<=8:=by
      have e1:=BJ List.length d;have e2:=L6 W n (DX W k) ((BY W n).take i) 0;rw[FN,l] at e2;rw[An] at e1;rw[l] at e1;lia
     refine⟨_,al,by rw[An];exact BK (by lia),?_⟩;refine⟨_,_,_,_,_,c++[(z,(((n:Int),("step" : Str),(i:Int)),BO W.gs W.as p,af))],rfl,λaK o e=>?_,by rw[Aa,Br];rfl,λaw r=>?_,?_⟩;rw[AE (AK e I)];exact Z _ _ (b _ _ e);rcases BI.mp r with r|r;exact((g aw r).same (j.trans Z)).keeps S;rw[AZ.mp r];exact⟨m,S.tup ez,S.tup (s6 _ _ az)⟩;rw[ak,gZ eg,Br,d];rfl
variable {b:AQ}
def hE{r:Gn}(a:r.2.1.1=("to" : Str))(c:r.2.1.2∉AV b):kid b r=some (b.1++[r.1],r.2.1.2,r.2.2):=Al ⟨a,c⟩
def hH{r:Gn}(h:¬(r.2.1.1=("to" : Str)/\r.2.1.2∉AV b)):kid b r=none:=Ak h
def Kk{α β:Type}(f:α->Option β)(l:List α)(x:α):(l++[x]).filterMap f=l.filterMap f++(f x).toList:=by
 rw[List.filterMap_append];cases e:f x<;>simp[e]
def hJ(b:AQ):(AV b).length=b.1.length+1:=by unfold AV;simp
inductive BV (K:Ah) (vs:List V) (H:Hp) (Q:VK):Prop where
 |mk (nt A t bt:Addr) (W:Wd) (b:AQ) (h0:vs=[.ref nt,.ref A,.ref t,.ref bt]) (h1:Bq K H nt A t W) (h2:B2 W) (h3:Cc W b) (h4:(∃F,DP F H bt b)) (h5:∀(D:Addr)(zs:List (Addr×AQ))(H':Hp),H D=none->Ac H H'->H' D=some (.lst (zs.map λz=>V.ref z.1))->(∀z∈zs,DP (λl=>H l=none/\l≠D) H' z.1 z.2)->zs.map (·.2)=CA W b->Q (.ref D) H'):BV K vs H Q
def hQ (K:Ah):Sp:=λvs H Q ζ=>BV K vs H Q
variable (P w K mg base) in
abbrev Ux:Prop:=BG P w K mg base "longer_by_a_step" 5 ["net", "answers", "table", "beginning"] (hQ K)
def hV(B:BH mg)(a2:QV P w K mg base)(F:Bu K "longer_by_a_step" "longer_by_a_step" Po f fd)(d:mg "longer_by_a_step" = some (.ref f)):Ux P w K mg base:=by
 refine BZ F d IR (λvs H ax ay h=>?_) (λaK A aO s H vs ax ay hr h=>?_);obtain⟨nt,A,t,bt,W,b,rfl,_⟩:=h;rfl
 . obtain⟨nt,A,t,bt,W,b,rfl,hC,ok,U,⟨F,l,g,E,q,j,_⟩,az⟩:=h
   have aL:g.length<=100:=by
    have:=KS W.ss.length (AV b) U.nd U.rng;rw[hJ] at this;have:=ok.s5;rw[j.len];lia
   have a3:=U.rng b.2.1 (by unfold AV;simp)
   refine⟨_,(Ao (Eb (pv 3) (Cq (n:=3) rfl (AI (AA (i:=4) IR.nd) (AI (AA (i:=5) IR.nd) (AI (AA (i:=6) IR.nd) Cp)))))
    (Ao (AX (i:=7) IR.nd (AF PJ (G9 (te:=GV (KE K) (B5 0) (tC (.int ((0:Nat):Int)))) rfl BF (Dk (pv 4)) (λζ ζ ζ ζ ζ=>(AA (i:=0) BF.nd)) (λζ ζ ζ ζ ζ=>IK) (λζ ζ ζ ζ ζ=>(Ay Az (pv 0) Ai))) (CC (Ab (pv 5) Af))))
    (Ao (AX (i:=8) IR.nd (CC Af))
    (Ao (CP CB rfl (Dk (A9 a2 (Ab (pv 0) (Ab (pv 1) (Ab (pv 2) (Ab (pv 5) (Ab (pv 6) Af))))))) (Cq (n:=4) rfl (AI (AA (i:=9) IR.nd) (AI (AA (i:=10) IR.nd) (AI (AA (i:=11) IR.nd) (AI (AA (i:=12) IR.nd) Cp))))) (At (Bj (PW.pt (GU (Bt CF (pv 10) B6 (Bp _)) (GS (Bt (Y2 hr.units) (pv 11) (pv 7) (by with_unfolding_all rfl))))) (At (Db (DN Dp EE EF EH (pv 8) (Ab (Bx (Ab (AF PJ (pv 4) (CC (Ab (pv 9) Af))) (Ab (pv 11) (Ab (pv 12) Af)))) Af)))) Bm)))
    (At (AW (pv 8))))))),?_⟩
   (try dsimp only[AG,Cx.nox,Cx.wish]);refine⟨_,Ap.of E,rfl,?_⟩
   refine⟨⟨_,Ae.of q⟩,SF (xs:=g.map V.ref) (λD i J p=>Ac H p/\p D=some (.lst J)/\J=(b.1.take i).map λm=>V.int m.1)
    (λD r=>⟨Bf r,Aa,by rw[Er];rfl⟩) (λD i J p af=>by obtain⟨s,_⟩:=af;exact Ae.of (s _ _ q)) (λD i x J H2 RR r M hv k=>?_) (λa0 J aH aM hv=>?_)⟩
   obtain⟨N,eD,rfl⟩:=hv;obtain⟨tm,ao,rfl⟩:=getm M;have a4:i<b.1.length:=by rw[<-j.len];exact(A8.mp ao).1
   have d:=AC a4;have a5:=j.at_ i tm _ ao d;have aa:b.1.take (i+1)=b.1.take i++[b.1[i]]:=by rw[DV,d];rfl
   have a6:=j.len;refine Or.inr (Or.inl ⟨_,.int b.1[i].1,Ap.of (N _ _ a5),rfl,?_⟩);refine k _ _ eD (by rw[An,FN];exact BK (by lia)) ⟨λx o e=>?_,Aa,by rw[aa,Br];rfl⟩;rw[AE (AK e r)];exact N _ _ e;obtain⟨s1,eC,rfl⟩:=hv;rw[An,j.len,Ej] at eC;refine⟨HH,λC2 a7=>?_⟩;obtain⟨H2,a8,N,a9⟩:=new_at (o:=.lst [.int b.2.1]) a7;rw[<-a8];have a6:=j.len;refine⟨a0,C2,_,_,rfl,rfl,N _ _ eC,a9,?_,λB hB=>?_⟩;rw[An];exact Dm (BK (by show b.1.length+1<=1000;lia));have s3:=Bf (o:=.lst ((b.1.map λm=>V.int m.1)++[.int b.2.1])) hB
   have X:(upd H2 B (.lst ((b.1.map λm=>V.int m.1)++[.int b.2.1]))) B=some (.lst ((AV b).map V.int)):=by
    rw[Aa];unfold AV
    simp
   generalize upd H2 B (.lst ((b.1.map λm=>V.int m.1)++[.int b.2.1]))=H3 at s3 X ⊢;have aq:=(s1.trans N).trans s3;refine⟨by decide,λD r=>?_⟩;have ab:H D=none:=aq.free r;obtain⟨H4,aA,s4,ag⟩:=new_at (o:=.lst []) r;rw[<-aA];have ar:=aq.trans s4;refine⟨nt,A,t,W,b.2.1,b.2.2,rfl,hC.same ar,ok,a3,U.st,λaI u H5 hG Y eG aB au=>⟨⟨_,Ae.of eG⟩,?_⟩⟩;have ae:=ar.trans Y
   have aN:u.length<=8:=by
    have E:=BJ List.length au;have q:=L6 W b.2.1 (DX W b.2.2) (BY W b.2.1) 0;have j:=P4 ok b.2.1;rw[An] at E;unfold GG at E;lia
   refine EZ (xs:=u.map λz=>V.ref z.1) (λi σ p=>∃u9 ah ai aj a,σ=[some (.ref nt),some (.ref A),some (.ref t),some (.ref bt),some (.ref l),some (.int b.2.1),some (.int b.2.2),some (.ref B),some (.ref D),u9,ah,ai,aj]/\Keeps (·=D) H5 p/\p D=some (.lst (a.map λz:Addr×AQ=>V.ref z.1))/\(∀z∈a,DP (λl=>H l=none/\l≠D) p z.1 z.2)/\a.map (·.2)=((u.map (·.2)).take i).filterMap (kid b))
    ⟨none,none,none,none,[],rfl,Keeps.refl λx o m e=>by rw[m,Y _ _ ag] at e;exact⟨_,(AO e).symm⟩,Y _ _ ag,λz v=>by simp at v,by rw[Er];rfl⟩ (λi σ p ζ af=>by obtain⟨_,_,_,_,_,_,k,_⟩:=af;exact Ae.of (k.at_ _ _ eG λz=>by rw[z,ag] at hG;cases hG)) ?_ ?_
   rotate_left;refine λσ H6 I=>AM λNz S=>?_;obtain⟨u9,ah,ai,aj,a,rfl,c,C,v,d⟩:=I;refine S ?_;clear S;refine az D a H6 ab (λx o e=>?_) C v ?_;exact c.at_ _ _ (ae _ _ e) (AK e ab);rw[d,An,<-An (f:=(·.2)),Ej,au];rfl;refine λi x σ H6 M I=>AM λNz S=>?_;obtain⟨u9,ah,ai,aj,a,rfl,c,C,v,d⟩:=I;refine S ?_;clear S;refine GJ ?_;intro Nx Cy;obtain⟨z,I,rfl⟩:=getm M;obtain⟨m,ak,al⟩:=aB z (Bl I);have ak:=c.tup ak;have al:=c.tup al
   have aa:((u.map (·.2)).take (i+1)).filterMap (kid b)=((u.map (·.2)).take i).filterMap (kid b)++(kid b z.2).toList:=by
    rw[DV,Bh,I];exact Kk _ _ _
   have lz:a.length<=8:=by
    have E:=BJ List.length d;have q:=List.length_filterMap_le (kid b) ((u.map (·.2)).take i);rw[FN,An] at q;rw[An] at E;lia
   refine⟨_,Ap.of ak,rfl,?_⟩
   have skip:¬(z.2.2.1.1=("to" : Str)/\z.2.2.1.2∉AV b)->a.map (·.2)=((u.map (·.2)).take (i+1)).filterMap (kid b):=λhn=>by
    rw[aa,hH hn,d];simp
   have aC:=c.at_ _ _ ((s4.trans Y) _ _ X) (λz=>by rw[z,r] at X;cases X);refine⟨rfl,rfl,Am (λO=>?_) (λO=>Bb ?_)⟩;rotate_left;exact⟨_,_,_,_,a,rfl,c,C,v,skip λh=>O (A7 (by rw[h.1]))⟩;have O:z.2.2.1.1=("to" : Str):=V.str.inj (Bi O);refine⟨2,.int z.2.2.1.2,(AV b).map Dt.int,B,_,λaJ hd=>?_,by decide,.int _,rfl,Ae.of aC,V8 _,rfl,Am (λG=>?_) (λG=>?_)⟩;obtain⟨y,_,rfl⟩:=A3.mp hd;exact .int _ _;rotate_left;refine⟨_,_,_,_,a,rfl,c,C,v,skip λh=>G ?_⟩;rw[Gb λz=>h.2 (GH.mp z)];rfl
   have G:z.2.2.1.2∉AV b:=λz=>by
    rw[Fs (GH.mpr z)] at G;cases G
   have aD:=c.at_ _ _ (ae _ _ q) (AK q ab);refine⟨Or.inl ⟨rfl,_,Ae.of C⟩,HH,λa1 hM=>?_⟩;obtain⟨H7,aE,Z,eM⟩:=new_at (o:=.lst [.ref m]) hM;rw[<-aE];refine⟨l,a1,_,_,rfl,rfl,Z _ _ aD,eM,by rw[An];exact Dm (BK (by show g.length+1<=1000;lia)),λL hL=>?_⟩
   have aF:H L=none:=by
    have h6:=Z.free hL
    cases e:H L with
    |none=>rfl
    |some o=>rw[c.at_ _ _ (ae _ _ e) (AK e ab)] at h6;cases h6
   have av:L≠D:=λy=>by rw[y,Z _ _ C] at hL;cases hL
   have s8:=Bf (o:=.lst (g.map V.ref++[.ref m])) hL;have eL:(upd H7 L (.lst (g.map V.ref++[.ref m]))) L=some (.lst ((g++[m]).map V.ref)):=by rw[Aa,Br];rfl
   generalize upd H7 L (.lst (g.map V.ref++[.ref m]))=H8 at s8 eL ⊢;refine⟨Jv,λan hr=>?_⟩;obtain⟨H9,aG,s9,er⟩:=new_at (o:=.tup [.ref L,.int z.2.2.1.2,.int z.2.2.2]) hr;rw[<-aG];have T:=(Z.trans s8).trans s9;have aw:=T _ _ C;have Q:Keeps (·=D) H9 (upd H9 D (.lst (a.map (λz=>V.ref z.1)++[.ref an]))):=Keeps.one aw;refine⟨_,aw,by rw[An];exact BK (by lia),?_⟩;refine⟨_,_,_,_,a++[(an,(b.1++[z.2.1],z.2.2.1.2,z.2.2.2))],rfl,⟨λx o e n=>?_,c.ls⟩,by rw[Aa,Br];rfl,λy R=>?_,?_⟩;rw[AE n];exact T _ _ (c.at_ x o e n);rcases BI.mp R with R|R;exact((v y R).same T).keeps Q λx M=>M.2;rw[AZ.mp R];refine⟨L,g++[m],Q.tup er,Q.at_ _ _ (s9 _ _ eL) av,?_,aF,av⟩;refine RT.snoc ?_ (Q.tup ((T) _ _ al));exact((j.same ae).keeps c |>.same T).keeps Q;rw[aa,hE O G,Br,d];rfl
inductive DF (K:Ah) (vs:List V) (H:Hp) (Q:VK):Prop where
 |mk (nt A t:Addr) (W:Wd) (sc st:Int) (h0:vs=[.ref nt,.ref A,.ref t,.int sc,.int st]) (h1:Bq K H nt A t W) (h2:B2 W) (h3:(0<=sc/\sc<W.ss.length)) (h4:(0<=st/\st<W.sts.length)) (h5:∀(D:Addr)(zs:List (Addr×AQ))(H':Hp),H D=none->Ac H H'->H' D=some (.lst (zs.map λz=>V.ref z.1))->(∀z∈zs,DP (λl=>H l=none/\l≠D) H' z.1 z.2)->Dg W sc st (zs.map (·.2))->Q (.ref D) H'):DF K vs H Q
def hW (K:Ah):Sp:=λvs H Q ζ=>DF K vs H Q
variable (P w K mg base) in
abbrev Uy:Prop:=BG P w K mg base "beginnings" 6 ["net", "answers", "table", "scope", "state"] (hW K)
theorem iA(B:BH mg)(aq:Ux P w K mg base)(F:Bu K "beginnings" "beginnings" Ro f fd)(hm:mg "beginnings" = some (.ref f)):Uy P w K mg base:=by
 refine BZ F hm QE (λvs H al an h=>?_) (λaB A aD s H vs al an Y h=>?_);obtain⟨L,A,t,W,g,j,rfl,_⟩:=h;rfl
 . obtain⟨L,A,t,W,g,j,rfl,hC,ok,Q,R,ao⟩:=h
   refine⟨_,(Ao (AX (i:=5) QE.nd (CC (Ab (Bx (Ab (CC Af) (Ab (pv 3) (Ab (pv 4) Af)))) Af)))
    (Ao (AX (i:=6) QE.nd Ai)
    (Ao (UX CB (Bt F9 (pv 6) (BE DM B.b_len (Ab (pv 5) Af)) (Bp _)) (Ao (Db (DN Dp PySem.F.slot_list_extend PySem.F.type_list_extend Oo (pv 5) (Ab (A9 aq (Ab (pv 0) (Ab (pv 1) (Ab (pv 2) (Ab (Ay Az (pv 5) (pv 6)) Af))))) Af)))
     (Ao (Bj (Bt N1 (BE DM B.b_len (Ab (pv 5) Af)) (IY (v:=.int 200) rfl (Classical.choose_spec B.c_MOST_BEGINNINGS) ⟨_,rfl⟩) (Bp _)) (At X9) Bm)
     (At (VP (i:=6) QE.nd rfl (Or.inl rfl) Ai U0)))))
    (At (AW (BE (Zs Nk FU FU Y.units (by decide) (by decide) (by decide)) B.b_sorted (Ab (pv 5) Af))))))),?_⟩
   (try dsimp only[AG,Cx.nox,Cx.wish]);refine⟨by decide,λl hl=>?_⟩;obtain⟨a8,ar,s1,el⟩:=new_at (o:=.lst []) hl;rw[<-ar];refine⟨Jv,λaf Y=>?_⟩;obtain⟨H2,au,Z,er⟩:=new_at (o:=.tup [.ref l,.int g,.int j]) Y;rw[<-au];refine⟨HH,λD hD=>?_⟩;have ag:=s1.trans Z;have av:H D=none:=ag.free hD;have aw:l≠D:=AK (Z _ _ el) hD;obtain⟨H3,ax,s3,ay⟩:=new_at (o:=.lst [.ref af]) hD;rw[<-ax];have az:=ag.trans s3;refine AU ?_;cbv;refine Sx ?_;cbv;refine HF (λσ' d=>∃(u6:V)(a:List (Addr×AQ)),σ'=[some (.ref L),some (.ref A),some (.ref t),some (.int g),some (.int j),some (.ref D),some u6]/\Ac H d/\d D=some (.lst (a.map λz=>V.ref z.1))/\(∀z∈a,DP (λl=>H l=none/\l≠D) d z.1 z.2)/\GZ W g j (a.map λz:Addr×AQ=>z.2) (a.map λz:Addr×AQ=>z.2).length) ?_ (λa9 hN=>?_);refine λσ' H4 S=>AM λNz C=>?_;obtain⟨u6,a,rfl,I,E,k,u⟩:=S;refine C ?_;clear C;have hf:=u.few ok Q R;rw[An] at hf;refine⟨D,a.map λz=>(V.ref z.1,z.2),rfl,?_,by rw[An];lia,λy M=>?_,λD2 G hp hs U=>?_⟩;rw[DK];exact Ae.of E;obtain⟨z,T,rfl⟩:=A3.mp M;exact(k z T).dt;have n:=Bf (o:=.lst (G.map (·.1))) U
   obtain⟨c,rfl⟩:∃c:List (Addr×AQ),G=c.map λz=>(V.ref z.1,z.2):=by
    have:∀{l:List (DR DS)},(∀y∈l,y∈a.map λz=>((V.ref z.1,z.2):DR DS))->∃c:List (Addr×AQ),l=c.map λz=>(V.ref z.1,z.2):=by
     intro l
     induction l with
     |nil=>exact λζ=>⟨[],rfl⟩
     |cons y l ih =>
       intro h;obtain⟨c,rfl⟩:=ih λz k=>h z (Co _ k);obtain⟨z,_,rfl⟩:=A3.mp (h y BB);exact⟨z::c,rfl⟩
    exact this λy M=>hp.mem_iff.mp M
   have N:(c.map λz=>((V.ref z.1,z.2):DR DS)).map (·.2)=c.map (·.2):=by rw[DK];rfl
   have O:(c.map λz=>((V.ref z.1,z.2):DR DS)).map (·.1)=c.map λz=>V.ref z.1:=by rw[DK];rfl
   have a0:(c.map (·.2)).Perm (a.map (·.2)):=by
    have:=hp.map (·.2)
    rwa [N,DK] at this
   rw[N] at hs;rw[O] at n ⊢
   have nm:∀z∈c,z∈a:=λz T=>by
    have:=hp.mem_iff.mp (A3.mpr ⟨z,T,rfl⟩);obtain⟨y,M,e⟩:=A3.mp this;injection e with O N;have:y=z:=Prod.ext (V.ref.inj O) N;rw[<-this];exact M
   refine ao D2 c _ (I.free U) (I.trans n) Aa (λz T=>?_) (u.all ok Q R a0 hs);refine((k z (nm z T)).mono' ?_).same n;intro x o ex q;exact⟨q.1,λy=>by rw[y,U] at ex;cases ex⟩;refine⟨λm σ d=>∃(p:Nat)(a:List (Addr×AQ)),σ=[some (.ref L),some (.ref A),some (.ref t),some (.int g),some (.int j),some (.ref D),some (.int p)]/\Ac H d/\d D=some (.lst (a.map λz=>V.ref z.1))/\(∀z∈a,DP (λl=>H l=none/\l≠D) d z.1 z.2)/\GZ W g j (a.map λz:Addr×AQ=>z.2) p/\m=62-p,⟨_,0,[(af,([],g,j))],rfl,az,ay,λz k=>?_,GZ.start W g j,rfl⟩,?_⟩;rw[AZ.mp k];exact⟨l,[],s3 _ _ er,(Z.trans s3) _ _ el,RT.nil,hl,aw⟩;refine λm σ H4 S=>AM λNz C=>?_;obtain⟨p,a,rfl,I,E,k,u,aA⟩:=S;refine C ?_;clear C;have hf:=u.few ok Q R;have a1:=u.le;rw[An] at hf a1;refine⟨_,Or.inl ⟨_,Ae.of E,rfl⟩,rfl,?_⟩;by_cases ah:p<a.length;rotate_left;have ep:p=a.length:=(by lia);rw[Do (by rw[An];lia)];refine Bb (hN _ _ ⟨_,a,rfl,I,E,k,?_⟩);rw[An,<-ep];exact u;rw[A7 (by rw[An];lia)];refine CV ?_;have ai:=AC ah;have aj:(a.map (·.2))[p]?=some a[p].2:=by rw[Bh,ai];rfl
   have aa:=u.turn aj;have ib:=(u.is _ (Bl aj)).ok ok Q R;refine⟨λσ' d=>∃(G:List (Addr×AQ)),σ'=[some (.ref L),some (.ref A),some (.ref t),some (.int g),some (.int j),some (.ref D),some (.int ((p+1:Nat):Int))]/\Ac H d/\d D=some (.lst (G.map λz=>V.ref z.1))/\(∀z∈G,DP (λl=>H l=none/\l≠D) d z.1 z.2)/\GZ W g j (G.map λz:Addr×AQ=>z.2) (p+1),?_,?_⟩;refine λσ' d S=>AM λNz C=>?_;obtain⟨G,rfl,n,X,a2,a3⟩:=S;refine C ?_;clear C;exact⟨_,by lia,p+1,G,rfl,n,X,a2,a3,rfl⟩;have a4:Bv (a.map λz=>V.ref z.1) (p:Int)=some (.ref a[p].1):=BX (by rw[Bh,ai];rfl);refine⟨Or.inl ⟨rfl,_,Ae.of E⟩,Or.inl ⟨_,.ref a[p].1,Ae.of E,a4,L,A,t,a[p].1,W,a[p].2,rfl,hC.same I,ok,ib,⟨_,k _ (Ep ah)⟩,λD2 r J U n a5 a6 ab=>?_⟩⟩
   have aC:r.length<=8:=by
    have O:=BJ List.length ab;have N:=V1 W a[p].2;have e3:=P4 ok a[p].2.2.1;rw[An] at O;lia
   have X:=n _ _ E;have k5:Keeps (·=D) J (upd J D (.lst (a.map (λz=>V.ref z.1)++r.map λz=>V.ref z.1))):=Keeps.one X;refine⟨D,D2,_,_,rfl,rfl,X,a5,by rw[An,An];exact Dm (BK (by lia)),?_⟩;have a7:=aa.few ok Q R;rw[<-ab,<-Br,An] at a7;rw[<-ab,<-Br] at aa;have ae:(upd J D (.lst (a.map (λz=>V.ref z.1)++r.map λz=>V.ref z.1))) D=some (.lst ((a++r).map λz=>V.ref z.1)):=(by rw[Aa,Br])
   have sn:Ac H (upd J D (.lst (a.map (λz=>V.ref z.1)++r.map λz=>V.ref z.1))):=λb o e=>by
    rw[AE (AK e av)];exact n _ _ (I _ _ e)
   have ak:∀z∈a++r,DP (λl=>H l=none/\l≠D) (upd J D (.lst (a.map (λz=>V.ref z.1)++r.map λz=>V.ref z.1))) z.1 z.2:=λz h=>by
    rcases BI.mp h with h|h;exact((k z h).same n).keeps k5 λx q=>q.2;refine((a6 z h).mono λx q=>⟨I.free q.1,?_⟩).keeps k5 λx q=>q.2;intro y;rw[y,E] at q;cases q.1
   generalize upd J D (.lst (a.map (λz=>V.ref z.1)++r.map λz=>V.ref z.1))=H6 at ae sn ak ⊢;refine⟨_,Or.inl ⟨_,Ae.of ae,rfl⟩,rfl,?_⟩;rw[Do (by rw[An];lia)];refine Bb ?_;refine⟨_,rfl,a++r,?_,sn,ae,ak,aa⟩
   simp
inductive Fa (K:Ah) (vs:List V) (H:Hp) (Q:VK):Prop where
 |mk (t a o:Addr) (inn:V) (ss:List Cr) (n:Int) (k:Nat) (s:Cr) (x:Str) (h0:vs=[.ref t,.int n,.str x]) (h1:n=k) (h2:Ap K H t [.ref a,inn,.ref o]) (h3:HJ K H a ss) (h4:ss[k]?=some s) (h5:Q (.bl (dec (x∈s.2))) H):Fa K vs H Q
def iB (K:Ah):Sp:=λvs H Q ζ=>Fa K vs H Q
variable (P w K mg base) in
abbrev Uz:Prop:=BG P w K mg base "has_end" 1 ["table", "state", "label"] (iB K)
def iC(B:BH mg)(F:Bu K "has_end" "has_end" Rp f fd)(c:mg "has_end" = some (.ref f)):Uz P w K mg base:=by
 refine BZ F c Xw (λb H Q E h=>?_) (λO A R s H b Q E j h=>?_);obtain⟨t,a,o,J,ss,n,k,s,x,rfl,_⟩:=h;rfl;obtain⟨t,a,o,J,ss,n,k,s,x,rfl,rfl,l,⟨b,m,p⟩,r,q⟩:=h;obtain⟨v,u,L⟩:=p.get' (i:=k) (d:=KP s) (by rw[Bh,r];rfl);obtain⟨C,g,e,rfl,M,N,D⟩:=FQ L
 refine⟨_,(Ao (AX (i:=3) Xw.nd (Ay Az (Ay Az (Ay Az (pv 0) Ai) (pv 1)) Ai))
  (At (AW (Jc (LR j.units) (pv 2) (pv 3) (by with_unfolding_all rfl))))),?_⟩
 (try dsimp only[AG,Cx.nox,Cx.wish]);refine Or.inr (Or.inl ⟨_,.ref a,l,rfl,?_⟩);refine Or.inl ⟨b,.ref C,m,BX u,?_⟩;refine Or.inr (Or.inl ⟨_,.ref e,M,rfl,?_⟩);refine⟨2,.str x,s.2.map Dt.str,e,_,λd hd=>?_,by decide,.str x,rfl,D,Aj.strs _,?_⟩;obtain⟨y,_,rfl⟩:=A3.mp hd;exact .str _ _
 have G:dec (Dt.str x∈s.2.map Dt.str)=dec (x∈s.2):=Ng ⟨λh=>by
  obtain⟨y,I,z⟩:=A3.mp h
  rw[<-Dt.str.inj z];exact I,λh=>A3.mpr ⟨x,h,rfl⟩⟩
 rw[G];exact q
def Kl{k:Nat}(h:W.sts[k]?=some s):Hd W (k:Int)=s.2:=by unfold Hd;rw[Bo,h]
def iD{k:Nat}{s:Bk}(h:W.ss[k]?=some s):Gp W (k:Int)=s.2:=by unfold Gp;rw[Bo,h]
def MU{q:DO}(a:q.2.1=x)(c:q.1∈Hd W b.2.2):Fy W b x q i=[b.1++[(b.2.1,("told" : Str),(i:Int))]]:=Al ⟨a,c⟩
def Km{q:DO}(h:¬(q.2.1=x/\q.1∈Hd W b.2.2)):Fy W b x q i=[]:=Ak h
def XT{bs:List AQ}(h:bs[i]?=some b):DY W x (bs.take (i+1))=DY W x (bs.take i)++DQ W b x (Gp W b.2.1) 0:=by
 rw[DV,h];show(bs.take i++[b]).flatMap _=_;rw[List.flatMap_append];simp[DY]
def O8{bs:List AQ}(i:Nat):(DY W x (bs.take i)).length<=(DY W x bs).length:=by
 have:DY W x bs=DY W x (bs.take i)++DY W x (bs.drop i):=by
  unfold DY;rw[<-List.flatMap_append,List.take_append_drop]
 rw[this,AY];lia
theorem XU(W:Wd)(b:AQ)(x:Str):∀(l:List DO)(j i:Nat),(DQ W b x (l.take j) i).length<=(DQ W b x l i).length
 |[],j,i=>by rw[List.take_nil];exact AD _
 |q::l,0,i=>Cm _
 |q::l,j+1,i=>by
   show(Fy W b x q i++DQ W b x (l.take j) (i+1)).length<=(Fy W b x q i++DQ W b x l (i+1)).length;rw[AY,AY];have:=XU W b x l j (i+1);lia
inductive CM (K:Ah) (vs:List V) (H:Hp) (Q:VK):Prop where
 |mk (nt A t D:Addr) (x:Str) (F:Addr->Prop) (W:Wd) (zs:List (Addr×AQ)) (h0:vs=[.ref nt,.ref t,.ref D,.str x]) (h1:Bq K H nt A t W) (h2:B2 W) (h3:H D=some (.lst (zs.map λz=>V.ref z.1))) (h4:(∀z∈zs,DP F H z.1 z.2)) (h5:(∀z∈zs,Cc W z.2)) (h6:(DY W x (zs.map (·.2))).length<=62) (h7:∀(D2:Addr)(ws:List (Addr×List Aq))(H':Hp),H D2=none->Ac H H'->H' D2=some (.lst (ws.map λz=>V.ref z.1))->(∀z∈ws,CQ (λl=>H l=none/\l≠D2) H' z.1 z.2)->Nl W x (zs.map (·.2)) (ws.map (·.2))->Q (.ref D2) H'):CM K vs H Q
def iE (K:Ah):Sp:=λvs H Q ζ=>CM K vs H Q
variable (P w K mg base) in
abbrev UA:Prop:=BG P w K mg base "found_behind" 2 ["net", "table", "begun", "name"] (iE K)
theorem iF(B:BH mg)(aC:Uz P w K mg base)(F:Bu K "found_behind" "found_behind" Rq f fd)(u:mg "found_behind" = some (.ref f)):UA P w K mg base:=by
 refine BZ F u MB (λvs H a2 a3 h=>?_) (λbb an bf s H vs a2 a3 hr h=>?_);obtain⟨nt,an,t,D,x,F,W,v,rfl,_⟩:=h;rfl
 . obtain⟨nt,an,t,D,x,F,W,v,rfl,hC,ok,eD,hz,aD,bc,a4⟩:=h
   obtain⟨a5,aW,aX,us,Gs,Es,ts,qt,qs,eN,N3⟩:=hC.net;obtain⟨a,o,aE,b1,a6,b2,b3⟩:=hC.tab
   refine⟨_,(Ao (AX (i:=4) MB.nd (CC Af))
    (Ao (CP CB rfl (Dk (pv 2)) (Cq (n:=3) rfl (AI (AA (i:=5) MB.nd) (AI (AA (i:=6) MB.nd) (AI (AA (i:=7) MB.nd) Cp)))) (At (CP CB rfl (P0 rfl B.b_enumerate (Ab (Ay Az (Ay Az (Ay Az (pv 0) Ai) (pv 6)) Ai) Af)) (Cq (n:=2) rfl (AI (AA (i:=8) MB.nd) (AI (AA (i:=9) MB.nd) Cp))) (At (Bj (PW.pt (GU (Bt CF (Ay Az (pv 9) Ai) (pv 3) (Bp _)) (GS (Fn (A9 aC (Ab (pv 1) (Ab (pv 7) (Ab (Ay Az (pv 9) Ai) Af)))))))) (At (Db (DN Dp EE EF EH (pv 4) (Ab (AF PJ (pv 5) (CC (Ab (Bx (Ab (pv 6) (Ab B6 (Ab (pv 8) Af)))) Af))) Af)))) Bm)))))
    (At (AW (BE (Zq Nk hr.units (by decide)) B.b_sorted (Ab (pv 4) Af)))))),?_⟩
   (try dsimp only[AG,Cx.nox,Cx.wish]);refine⟨by decide,λP hP=>?_⟩;obtain⟨Y,aF,s1,aq⟩:=new_at (o:=.lst []) hP;rw[<-aF];have bd:D≠P:=AK eD hP;have Q:∀{g:Hp},Keeps (·=P) Y g->Ac H g:=λk x o e=>k.at_ _ _ (s1 _ _ e) (AK e hP)
   refine⟨⟨_,Ae.of (s1 _ _ eD)⟩,EZ (xs:=v.map λz=>V.ref z.1) (λi σ g=>∃u5 u6 u7 A C b,σ=[some (.ref nt),some (.ref t),some (.ref D),some (.str x),some (.ref P),u5,u6,u7,A,C]/\Keeps (·=P) Y g/\g P=some (.lst (b.map λz:Addr×List Aq=>V.ref z.1))/\(∀z∈b,CQ (λl=>H l=none/\l≠P) g z.1 z.2)/\b.map (·.2)=DY W x ((v.map (·.2)).take i))
    ⟨none,none,none,none,none,[],rfl,Keeps.refl λx o m e=>by rw[m,aq] at e;exact⟨_,(AO e).symm⟩,aq,λz hz=>by simp at hz,by rw[Er];rfl⟩ (λi σ g ζ af=>by obtain⟨_,_,_,_,_,_,_,k,_⟩:=af;exact Ae.of (Q k _ _ eD)) ?_ ?_⟩
   rotate_left;refine λσ H2 G=>AM λM d=>?_;obtain⟨u5,u6,u7,A,C,b,rfl,T,ag,U,u⟩:=G;refine d ?_;clear d;rw[An,<-An (f:=(·.2)),Ej] at u;have lw:b.length<=62:=by have:=BJ List.length u;rw[An] at this;lia
   refine⟨P,b.map λz=>(V.ref z.1,z.2),rfl,?_,by rw[An];lia,λy q=>?_,λD2 aG N hs ah=>?_⟩;rw[DK];exact Ae.of ag;obtain⟨z,ai,rfl⟩:=A3.mp q;exact(U z ai).dt;obtain⟨vs,r1,r2,r3,r4⟩:=Wb (c:=CG) N;have s3:=Bf (o:=.lst (aG.map (·.1))) ah;rw[r1] at s3 ⊢;rw[r2] at hs;have r:=Q T;refine a4 D2 vs _ (r.free ah) (r.trans s3) Aa (λz ai=>?_) ⟨by rw[<-u];exact r3,hs⟩;refine((U z (r4 z ai)).mono' ?_).same s3;intro x o ex hx;exact⟨hx.1,λy=>by rw[y,ah] at ex;cases ex⟩;refine λi y σ H2 q G=>AM λM d=>?_;obtain⟨u5,u6,u7,A,C,b,rfl,T,ag,U,u⟩:=G;refine d ?_;clear d;obtain⟨z,ar,rfl⟩:=getm q;have mz:=Bl ar;have aa:=aD z mz;have r:=Q T;refine AM λM d=>?_;obtain⟨l,E,a8,a9,e3,_⟩:=hz z mz;refine d ?_;clear d;have e1:=r _ _ a8;have aH:=aa.rng z.2.2.1 (by unfold AV;simp);have aI:=aa.st;obtain⟨n,X⟩:=DL aH.1;obtain⟨k,hk⟩:=DL aI.1;have aJ:n<W.ss.length:=(by lia);have aK:k<W.sts.length:=(by lia);refine AM λM d=>?_;obtain⟨ao,aY,E1,aA,aZ,ba,g4,⟨c0,_,⟨tE,c1,c2⟩⟩⟩:=N3.sc.get aJ;refine d ?_;clear d;have au:=AC aK;have eT:Gp W z.2.2.1=W.ss[n].2:=by rw[X];exact iD g4
   have eE:Hd W z.2.2.2=W.sts[k].2:=by rw[hk];exact Kl au
   have aL:Bv (us.map V.ref) z.2.2.1=some (.ref ao):=by rw[X];exact BX (by rw[Bh,aA];rfl)
   have av:(v.map (·.2))[i]?=some z.2:=by rw[Bh,ar];rfl
   have be:E.length<=100:=by
    have:=KS W.ss.length (AV z.2) aa.nd aa.rng;rw[show(AV z.2).length=z.2.1.length+1 by unfold AV;simp] at this;have:=ok.s5;rw[e3.len];lia
   have aM:=O8 (W:=W) (x:=x) (bs:=v.map (·.2)) (i+1);rw[XT av,AY] at aM;refine⟨_,Ap.of e1,rfl,?_⟩;refine Or.inr (Or.inl ⟨_,.ref a5,Ap.of (r _ _ eN),rfl,Or.inl ⟨_,.ref ao,Ae.of (r _ _ N3.sc.top),aL,Or.inr (Or.inl ⟨_,.ref E1,Ap.of (r _ _ c0),rfl,E1,rfl,⟨_,r _ _ c1⟩,?_⟩)⟩⟩)
   refine SQ (xs:=tE.map V.ref) (λj σ g=>∃A C b,σ=[some (.ref nt),some (.ref t),some (.ref D),some (.str x),some (.ref P),some (.ref l),some (.int z.2.2.1),some (.int z.2.2.2),A,C]/\Keeps (·=P) Y g/\g P=some (.lst (b.map λz:Addr×List Aq=>V.ref z.1))/\(∀z∈b,CQ (λl=>H l=none/\l≠P) g z.1 z.2)/\b.map (·.2)=DY W x ((v.map (·.2)).take i)++DQ W z.2 x ((Gp W z.2.2.1).take j) 0)
    ⟨_,_,b,rfl,T,ag,U,by rw[u,Er];simp[DQ]⟩ (λj σ g af=>by obtain⟨_,_,_,_,k,_⟩:=af;exact Ae.of (Q k _ _ c1)) ?_ ?_
   rotate_left;refine λσ H3 G=>AM λM d=>?_;obtain⟨A,C,b,rfl,Z,aj,ak,R⟩:=G;refine d ?_;clear d;refine⟨_,_,_,_,_,b,rfl,Z,aj,ak,?_⟩;rw[XT av,R,An,c2.len,eT,Ej];refine λj y T' σ H3 q aN G=>AM λM d=>?_;obtain⟨A,C,b,rfl,Z,aj,ak,R⟩:=G;refine d ?_;clear d;obtain⟨tp,aw,rfl⟩:=getm q;have aO:j<W.ss[n].2.length:=by rw[<-c2.len];exact(A8.mp aw).1
   have N:=AC aO;have ax:=c2.at_ j tp _ aw N;generalize W.ss[n].2[j]=p at N ax;obtain⟨H4,aP,s4,aQ⟩:=new_at (o:=.tup [.int j,.ref tp]) aN;rw[<-aP];have aR:=Q Z;have I:=aR.trans s4;have k4:Keeps (·=P) Y H4:=Z.same s4;have S:=s4 _ _ aj;have al:∀z∈b,CQ (λl=>H l=none/\l≠P) H4 z.1 z.2:=λz h=>(ak z h).same s4;have a1:=Ap.of (K:=K) (I _ _ ax)
   have ay:DQ W z.2 x ((Gp W z.2.2.1).take (j+1)) 0=DQ W z.2 x ((Gp W z.2.2.1).take j) 0++Fy W z.2 x p j:=by
    rw[DV,eT,N];show DQ W z.2 x (W.ss[n].2.take j++[p]) 0=_;rw[V9,FN,Nat.zero_add,Nat.min_eq_left (by lia)]
   have skip:¬(p.2.1=x/\p.1∈Hd W z.2.2.2)->b.map (·.2)=DY W x ((v.map (·.2)).take i)++DQ W z.2 x ((Gp W z.2.2.1).take (j+1)) 0:=λX=>by
    rw[ay,Km X,FH,R]
   have lw:b.length<100:=by
    have:=BJ List.length R;rw[An,AY] at this;have J:=XU W z.2 x (Gp W z.2.2.1) j 0;lia
   refine⟨_,Ap.of aQ,rfl,?_⟩;refine Or.inr (Or.inl ⟨_,.str p.2.1,a1,rfl,rfl,rfl,Am (λJ=>?_) (λJ=>Bb ?_)⟩);rotate_left;exact⟨_,_,b,rfl,k4,S,al,skip λh=>J (A7 (by rw[h.1]))⟩;have J:p.2.1=x:=V.str.inj (Bi J);refine Or.inr (Or.inl ⟨_,.str p.1,a1,rfl,t,a,o,aE,W.sts,z.2.2.2,k,_,p.1,rfl,hk,I.seqT b1,⟨a6,I.seq b2,b3.same I⟩,au,rfl,Am (λO=>?_) (λO=>?_)⟩);rotate_left;exact⟨_,_,b,rfl,k4,S,al,skip λh=>O (Fs (by rw[<-eE];exact h.2))⟩;have O:p.1∈Hd W z.2.2.2:=by rw[eE];exact Ft.mp O
   refine⟨Or.inl ⟨rfl,_,Ae.of S⟩,Jv,λm aS=>?_⟩;obtain⟨H5,aT,s5,aB⟩:=new_at (o:=.tup [.int z.2.2.1,.str "told",.int j]) aS;rw[<-aT];refine⟨HH,λa7 hM=>?_⟩;obtain⟨H6,aU,s6,eM⟩:=new_at (o:=.lst [.ref m]) hM;rw[<-aU];have ab:=s5.trans s6;refine⟨l,a7,_,_,rfl,rfl,ab _ _ (I _ _ a9),eM,by rw[An];exact Dm (BK (by show E.length+1<=1000;lia)),λL hL=>?_⟩;have aV:H L=none:=(I.trans ab).free hL;have az:L≠P:=λy=>by rw[y,ab _ _ S] at hL;cases hL
   have s7:=Bf (o:=.lst (E.map V.ref++[.ref m])) hL;have eL:(upd H6 L (.lst (E.map V.ref++[.ref m]))) L=some (.lst ((E++[m]).map V.ref)):=by rw[Aa,Br];rfl
   generalize upd H6 L (.lst (E.map V.ref++[.ref m]))=H7 at s7 eL ⊢;have ae:=ab.trans s7;have a0:=ae _ _ S;have k7:Keeps (·=P) H7 (upd H7 P (.lst (b.map (λz=>V.ref z.1)++[.ref L]))):=Keeps.one a0;refine⟨_,a0,by rw[An];exact BK (by lia),?_⟩;refine⟨_,_,b++[(L,z.2.1++[(z.2.2.1,("told" : Str),(j:Int))])],rfl,(k4.same ae).set rfl,by rw[Aa,Br];rfl,λy q=>?_,?_⟩;rcases BI.mp q with q|q;exact((al y q).same ae).keeps k7 λx hx=>hx.2;rw[AZ.mp q];refine⟨E++[m],k7.at_ _ _ eL az,?_,aV,az⟩;exact RT.snoc ((e3.same (I.trans ae)).keeps k7) (k7.tup ((s6.trans s7) _ _ aB));rw[ay,MU J O,Br,R,F5];rfl
inductive CN (K:Ah) (vs:List V) (H:Hp) (Q:VK):Prop where
 |mk (t:Addr) (F:Addr->Prop) (sts:List Cr) (inn:Int) (ord:A') (h0:vs=[.ref t]) (h1:FR K F H t sts inn ord) (h2:ord.length<=40) (h3:∀(p:Addr)(H':Hp),H p=none->Ac H H'->HU H' p ord->Q (.ref p) H'):CN K vs H Q
def iG (K:Ah):Sp:=λvs H Q ζ=>CN K vs H Q
variable (P w K mg base) in
abbrev QW:Prop:=BG P w K mg base "better_pairs" 1 ["table"] (iG K)
theorem iH(B:BH mg)(F:Bu K "better_pairs" "better_pairs" Pp f fd)(J:mg "better_pairs" = some (.ref f)):QW P w K mg base:=by
 refine BZ F J fG (λL H Q E h=>?_) (λak ag an s H L Q E M h=>?_);obtain⟨t,F,X,Y,v,rfl,_⟩:=h;rfl;obtain⟨t,F,X,Y,v,rfl,N,aj,q⟩:=h;obtain⟨ta,o,al,Z,O,_,_,_,_,_,x,TO⟩:=N.ex;refine⟨_,(At (AW (GA (ZM rfl (Mc M)) B.b_dict (Ab (G9 rfl Cf (Dk (Ay Az (pv 0) Ai)) (λζ ζ ζ ζ ζ=>(AA (i:=0) Cf.nd)) (λζ ζ ζ ζ ζ=>IK) (λζ ζ ζ ζ ζ=>(Bx (Ab (pv 0) (Ab F7 Af))))) Af)))),?_⟩;(try dsimp only[AG,Cx.nox,Cx.wish])
 refine Or.inr (Or.inl ⟨_,.ref o,Ap.of O,rfl,⟨_,Ae.of x⟩,SF (xs:=Z.map V.ref) (λP i a g=>Ac H g/\g P=some (.lst a)/\a.length=i/\E5 g a ((v.take i).map λp=>(FA p,V.bl true)))
  (λP j=>⟨Bf j,Aa,rfl,.nil⟩) (λP i a g aa=>by obtain⟨s,_⟩:=aa;exact Ae.of (s _ _ x)) (λP i ah a R RR j S n k=>?_) (λP a R j n=>?_)⟩)
 obtain⟨c,r,d,m⟩:=n;obtain⟨y,D,rfl⟩:=getm S;have ab:i<v.length:=by rw[<-TO.len];exact(A8.mp D).1
 have G:=AC ab;have ae:=c _ _ (TO.at_ i _ _ D G);refine⟨Ca,λT U=>?_⟩;obtain⟨A,af,l,W⟩:=new_at (o:=.tup [.ref y,.bl true]) U;rw[<-af];have I:=l _ _ r
 have u:∀b xs,A b=some (.tup xs)->(upd A P (.lst (a++[.ref T]))) b=some (.tup xs):=λb xs e=>by
  rw[AE (M9 e I (λz=>nomatch z))];exact e
 refine k _ _ I (by rw[d];exact BK (by lia)) ⟨λb ai e=>?_,Aa,by rw[AY,d];rfl,?_⟩;rw[AE (AK e j)];exact l _ _ (c _ _ e);rw[DV,G,Br];exact Paired.snoc ((m.tups λb xs e=>l _ _ e).tups u) ⟨T,y,rfl,u _ _ W,u _ _ (l _ _ ae)⟩;obtain⟨c,r,d,m⟩:=n;rw[An,TO.len,Ej] at m;rw[An,TO.len] at d;refine⟨P,a,_,rfl,r,by rw[d];exact BK (by lia),m,λp C=>?_⟩;exact q p _ (c.free C) (c.trans (Bf C)) ⟨_,Aa,ZU⟩
inductive Fb (K:Ah) (vs:List V) (H:Hp) (Q:VK):Prop where
 |mk (D:Addr) (F:Addr->Prop) (zs:List (Addr×List Aq)) (h0:vs=[.ref D]) (h1:H D=some (.lst (zs.map λz=>V.ref z.1))) (h2:(∀z∈zs,CQ F H z.1 z.2)) (h3:zs.length<=100) (h4:∀(d:List Aq->Addr)(c:List Aq->Aq->Addr)(H':Hp),Ac H H'->Bg dW H' (Bc (zs.map (·.2))) d c->(∀p,Eg (Bc (zs.map (·.2))) p->H (d p)=none)->Q (.ref (d [])) H'):Fb K vs H Q
def iI (K:Ah):Sp:=λvs H Q ζ=>Fb K vs H Q
variable (P w K mg base) in
abbrev QX:Prop:=BG P w K mg base "tree_of" 1 ["ways"] (iI K)
theorem iJ(B:BH mg)(F:Bu K "tree_of" "tree_of" Rr f fd)(q:mg "tree_of" = some (.ref f)):QX P w K mg base:=by
 refine BZ F q MC (λvs H an ao h=>?_) (λaA a6 aD s H vs an ao hr h=>?_);obtain⟨D,F,l,rfl,_⟩:=h;rfl
 . obtain⟨D,F,l,rfl,eD,hz,lz,aq⟩:=h
   refine⟨_,(Ao (AX (i:=1) MC.nd So)
    (Ao (CP CB rfl (P0 rfl B.b_enumerate (Ab (pv 0) Af)) (Cq (n:=2) rfl (AI (AA (i:=2) MC.nd) (AI (AA (i:=3) MC.nd) Cp))) (Ao (AX (i:=4) MC.nd (pv 1))
     (At (CP CB rfl (Dk (pv 3)) (AA (i:=5) MC.nd) (At (AX (i:=4) MC.nd (Ay Az (DN PySem.F.plainAttrs_dict PySem.F.slot_dict_setdefault PySem.F.type_dict_setdefault (ZG (LO hr)) (pv 4) (Ab (pv 5) (Ab (Bx (Ab (pv 2) (Ab So Af))) Af))) Ai)))))))
    (At (AW (pv 1))))),?_⟩
   (try dsimp only[AG,Cx.nox,Cx.wish]);refine λt ht=>?_;obtain⟨ar,au,s1,et⟩:=new_at (o:=.dT []) ht;rw[<-au]
   refine⟨D,rfl,⟨_,s1 _ _ eD⟩,SQ (xs:=l.map λz=>V.ref z.1) (λi σ A=>∃(W X Y C:Option V)(d:List Aq->Addr)(c:List Aq->Aq->Addr),σ=[some (.ref D),some (.ref t),W,X,Y,C]/\Ac H A/\d []=t/\Bg dW A (Bc ((l.map (·.2)).take i)) d c/\∀p,Eg (Bc ((l.map (·.2)).take i)) p->H (d p)=none)
    ⟨none,none,none,none,λζ=>t,λζ ζ=>t,rfl,s1,rfl,?_,λp v=>ht⟩ (λi σ A aa=>by obtain⟨_,_,_,_,_,_,_,s,_⟩:=aa;exact Ae.of (s _ _ eD)) ?_ ?_⟩
   have nil:∀p,Eg (Bc ((l.map (·.2)).take 0)) p->p=[]:=λp v=>by
    rcases v with h|⟨kw,h,_⟩;exact h;rw[Er] at h;cases h
   refine⟨λp v=>?_,λp m k q=>?_,λp p' v av ζ=>(nil p v).trans (nil p' av).symm⟩;show ar t=some (.dT (DT _ _ p));rw[et,Er];rfl;rw[Er] at q;cases q;rotate_left;refine λσ H2 I=>AM λO r=>?_;obtain⟨W,X,Y,C,d,c,rfl,Z,rfl,Q,R⟩:=I;refine r ?_;clear r;rw[An,<-An (f:=(·.2)),Ej] at Q R;exact aq d c H2 Z Q R;refine λi y a7 σ H2 hy hT I=>AM λO r=>?_;obtain⟨W,X,Y,C,d,c,rfl,Z,hd,Q,R⟩:=I;refine r ?_;clear r;refine GJ ?_;intro Nx Cy;obtain⟨z,ab,rfl⟩:=getm hy;have mz:=Bl ab;have aB:=(A8.mp ab).1;have aw:(l.map (·.2))[i]?=some z.2:=by rw[Bh,ab];rfl
   obtain⟨H3,ax,s3,eT⟩:=new_at (o:=.tup [.int (i:Int),.ref z.1]) hT;rw[<-ax];have ai:=Z.trans s3;obtain⟨ms,ag,f3,_⟩:=(hz z mz).same ai;refine⟨_,Ap.of eT,rfl,?_⟩
   refine⟨⟨_,Ae.of ag⟩,EZ (xs:=ms.map V.ref) (λj σ A=>∃(C:Option V)(d:List Aq->Addr)(c:List Aq->Aq->Addr),σ=[some (.ref D),some (.ref t),some (.int (i:Int)),some (.ref z.1),some (.ref (d (z.2.take j))),C]/\Ac H A/\RT GY A ms z.2/\A z.1=some (.lst (ms.map V.ref))/\d []=t/\Bg dW A (Bc ((l.map (·.2)).take i)++[(i,z.2.take j)]) d c/\∀p,Eg (Bc ((l.map (·.2)).take i)++[(i,z.2.take j)]) p->H (d p)=none)
    ⟨C,d,c,by rw[Er,hd];rfl,ai,f3,ag,hd,by rw[Er];exact(Q.sameW s3).begin,λp v=>R p ?_⟩ (λj σ A ζ aa=>by obtain⟨_,_,_,_,_,_,e,_⟩:=aa;exact Ae.of e) ?_ ?_⟩
   rw[Er] at v;rcases v with h|⟨kw,h1,L⟩;exact .inl h;rcases BI.mp h1 with y|y;exact .inr ⟨kw,y,L⟩;rw[AZ.mp y] at L;exact .inl (List.prefix_nil.mp L);rotate_left;refine λσ H4 I=>AM λO r=>?_;obtain⟨C,d,c,rfl,M,_,_,T,E,J⟩:=I;refine r ?_;clear r;rw[An,f3.len,Ej,<-ZW aw] at E J;exact⟨_,_,_,_,d,c,rfl,M,T,E,J⟩;refine λj y σ H4 hy I=>AM λO r=>?_;obtain⟨C,d,c,rfl,M,S,e4,T,E,J⟩:=I;refine r ?_;clear r;refine GJ ?_;intro Nx Cy;obtain⟨mk,aj,rfl⟩:=getm hy;have hj:j<z.2.length:=by rw[<-f3.len];exact(A8.mp aj).1
   have ae:=AC hj;have ah:=S.at_ j _ _ aj ae;have tk:z.2.take (j+1)=z.2.take j++[z.2[j]]:=by rw[DV,ae];rfl
   generalize z.2[j]=m at ae ah tk;generalize hg:z.2.take j=g at E J tk ⊢;have ak:Eg (Bc ((l.map (·.2)).take i)++[(i,g)]) g:=.inr ⟨_,Dj _ (AZ.mpr rfl),List.prefix_refl g⟩;have eB:=E.dct g ak;have a9:=Tc (Bc ((l.map (·.2)).take i)++[(i,g)]) g
   have aC:(Bc ((l.map (·.2)).take i)++[(i,g)]).length<=101:=by
    unfold Bc;rw[AY,An,List.length_zipIdx,FN,An,DJ];lia
   have lr:(DT (Bc ((l.map (·.2)).take i)++[(i,g)]) c g).length<sizeLine:=by unfold DT;rw[An];exact BK (by lia)
   refine⟨Or.inr (Or.inr (Or.inl ⟨rfl,Or.inr ⟨_,eB⟩⟩)),λe he=>?_⟩;have s5:=Bf (o:=.dT []) he;have ee:(upd H4 e (.dT [])) e=some (.dT []):=Aa;have al:=he;generalize upd H4 e (.dT [])=H5 at s5 ee ⊢;refine⟨Ca,λT5 ay=>?_⟩;obtain⟨H6,az,s6,U⟩:=new_at (o:=.tup [.int (i:Int),.ref e]) ay;rw[<-az];have u:=s5.trans s6;refine⟨d g,_,Ge m,mk,.ref T5,rfl,rfl,u _ _ eB,u _ _ ah,lr,λa8 G=>?_,λG=>?_⟩;rw[OI] at G;by_cases q:m∈(TreeM.keysAt (Bc ((l.map (·.2)).take i)++[(i,g)]) g).map (·.1);rw[Al q] at G;cases G;obtain⟨⟨m',k⟩,hk,rfl⟩:=A3.mp q;have a0:=E.tup g m' k hk;refine Or.inr (Or.inl ⟨_,.ref (d (g++[m'])),Ap.of (u _ _ a0),rfl,?_⟩);refine⟨some (.ref mk),d,c,by rw[tk];rfl,M.trans u,S.same u,u _ _ e4,T,by rw[tk];exact(E.sameW u).stay q,λp v=>J p ((Qa q).mp (by rw[tk] at v;exact v))⟩;rw[Ak q] at G;cases G;have q:m∉(TreeM.keysAt (Bc ((l.map (·.2)).take i)++[(i,g)]) g).map (·.1):=λq=>by rw[OI,Al q] at G;cases G
   refine AM λO r=>?_;obtain⟨d',c',T7,a1,a2,a3⟩:=E.grow q al J (M.free al) u (s6 _ _ ee) U;refine r ?_;clear r;have a4:∀{b o},H b=some o->b≠d g:=λ{b o}N z=>by rw[z,J g ak] at N;cases N
   have s7:Ac H (upd H6 (d g) (.dT (A0 (DT (Bc ((l.map (·.2)).take i)++[(i,g)]) c g) (Ge m) (.ref T5)))):=λb o N=>by
    rw[AE (a4 N)];exact u _ _ (M _ _ N)
   have af:=u _ _ eB;have a5:T5≠d g:=λy=>by rw[y,af] at U;cases U
   refine Or.inr (Or.inl ⟨_,.ref e,Ap.of (by rw[AE a5];exact U),rfl,?_⟩);refine⟨some (.ref mk),d',c',by rw[tk,a1];rfl,s7,⟨S.len,λn a b h1 L=>?_⟩,?_,a3.trans T,by rw[tk];exact T7,by rw[tk];exact a2⟩;have x:=u _ _ (S.at_ n a b h1 L);rw[AE (M9 x af (λz=>nomatch z))];exact x;have x:=u _ _ e4;rw[AE (M9 x af (λz=>nomatch z))];exact x
inductive EA (K:Ah) (vs:List V) (H:Hp) (Q:VK):Prop where
 |mk (nt S T R mk:Addr) (us Gs Es:List Addr) (ss:List Bk) (m:Aq) (h0:vs=[.ref nt,.ref mk]) (h1:Ap K H nt [.ref S,.ref T,.ref R]) (h2:Df H S us Gs Es ss) (h3:Ap K H mk (GY m)) (h4:Ev ss m) (h5:Q (.str (FV ss m)) H):EA K vs H Q
def iK (K:Ah):Sp:=λvs H Q ζ=>EA K vs H Q
variable (P w K mg base) in
abbrev UB:Prop:=BG P w K mg base "label_at" 1 ["net", "mark"] (iK K)
def iL(B:BH mg)(F:Bu K "label_at" "label_at" Rs f fd)(t:mg "label_at" = some (.ref f)):UB P w K mg base:=by
 refine BZ F t NA (λG H Q E h=>?_) (λah ab ai s H G Q E hr h=>?_);obtain⟨I,S,T,R,mk,us,J,L,ss,m,rfl,_⟩:=h;rfl;obtain⟨I,S,T,R,mk,us,J,L,ss,m,rfl,M,A,t,⟨n,k,Z,v,g,j,C⟩,q⟩:=h;have Y:n<ss.length:=(A8.mp j).1;obtain⟨u,ae,E1,N,af,ag,D,⟨O,⟨l,U,o⟩,⟨p,W,r⟩⟩⟩:=A.get Y;rw[j] at D;have X:=AO D;rw[<-X] at o r;have aa:Bv (us.map V.ref) m.1=some (.ref u):=by rw[v];exact BX (by rw[Bh,N];rfl)
 refine⟨_,(Ao (Eb (pv 1) (Cq (n:=3) rfl (AI (AA (i:=2) NA.nd) (AI (AA (i:=3) NA.nd) (AI (AA (i:=4) NA.nd) Cp)))))
  (Ao (Eb (Ay Az (Ay Az (pv 0) Ai) (pv 2)) (Cq (n:=2) rfl (AI (AA (i:=5) NA.nd) (AI (AA (i:=6) NA.nd) Cp))))
  (Ao (Bj (Bt CF (pv 3) B6 (Bp _)) (At (AW (Ay Az (Ay Az (pv 5) (pv 4)) Ai))) Bm)
  (At (AW (Ay Az (Ay Az (pv 6) (pv 4)) Ai)))))),?_⟩
 (try dsimp only[AG,Cx.nox,Cx.wish]);refine⟨_,t,rfl,?_⟩;refine Or.inr (Or.inl ⟨_,.ref S,M,rfl,Or.inl ⟨_,.ref u,Ae.of A.top,aa,?_⟩⟩);refine⟨_,Ap.of O,rfl,?_⟩;refine⟨rfl,rfl,Am (λh=>?_) (λh=>?_)⟩;have b:m.2.1=("step" : Str):=V.str.inj (Bi h);rcases C with⟨_,a⟩|⟨e,_⟩;have c:=AC a;rw[Zx v g j b c] at q;have d:l[k]?=some (l[k]'(by rw[o.len];exact a)):=AC _;have x:=o.at_ _ _ _ d c;have y:Bv (l.map V.ref) m.2.2=some (.ref (l[k]'(by rw[o.len];exact a))):=by rw[g];exact BX (by rw[Bh,d];rfl)
 exact Or.inl ⟨_,_,Ae.of U,y,Or.inr (Or.inl ⟨_,.str Z.1[k].1,Ap.of x,rfl,q⟩)⟩;exact absurd (e.symm.trans b) S5;have b:m.2.1≠("step" : Str):=λz=>h (A7 (by rw[z]));rcases C with⟨e,_⟩|⟨_,a⟩;exact absurd e b;have c:=AC a;rw[Zy v g j b c] at q;have d:p[k]?=some (p[k]'(by rw[r.len];exact a)):=AC _;have x:=r.at_ _ _ _ d c;have y:Bv (p.map V.ref) m.2.2=some (.ref (p[k]'(by rw[r.len];exact a))):=by rw[g];exact BX (by rw[Bh,d];rfl)
 exact Or.inl ⟨_,_,Ae.of W,y,Or.inr (Or.inl ⟨_,.str Z.2[k].1,Ap.of x,rfl,q⟩)⟩
def XV{bet:Aq->Aq->Bool}{ws:TreeM.Ws Aq}{a:List Aq}{m:Aq}{t:List Aq}:TreeM.gat bet ws a (m::t)=((TreeM.keysAt ws a).filter λb=>bet b.1 m).map (·.2)++TreeM.gat bet ws (a++[m]) t:=rfl
theorem XW{bet:Aq->Aq->Bool}{ws:TreeM.Ws Aq}:∀{b a:List Aq},(TreeM.gat bet ws a b).length<=b.length*ws.length
 |[],_=>Cm _
 |m::t,a=>by
   rw[XV,AY,An,El];have d:=Pk (λc:Aq×Nat=>bet c.1 m) (TreeM.keysAt ws a);have e:=Tc ws a;have f:=XW (bet:=bet) (ws:=ws) (b:=t) (a:=a++[m]);rw[Nat.add_mul,Nat.one_mul];lia
inductive C5 (K:Ah) (vs:List V) (H:Hp) (Q:VK):Prop where
 |mk (nt S T R bp l:Addr) (us Gs Es:List Addr) (ss:List Bk) (ord:A') (ws:TreeM.Ws Aq) (d:List Aq->Addr) (c:List Aq->Aq->Addr) (F:Addr->Prop) (w:List Aq) (h0:vs=[.ref nt,.ref bp,.ref (d []),.ref l]) (h1:H nt=some (.tup [.ref S,.ref T,.ref R])) (h2:Df H S us Gs Es ss) (h3:HU H bp ord) (h4:Bg dF H ws d c) (h5:ws.length<=100) (h6:(∀kw∈ws,∀m∈kw.2,Ev ss m)) (h7:CQ F H l w) (h8:Nm ss w) (h9:∀H',Ac H H'->Q (P9 ((TreeM.gat (Cd ss ord) ws [] w).map λk:Nat=>(k:Int))) H'):C5 K vs H Q
def iM (K:Ah):Sp:=λvs H Q ζ=>C5 K vs H Q
variable (P w K mg base) in
abbrev QY:Prop:=BG P w K mg base "first_hider" 2 ["net", "better", "tree", "way"] (iM K)
theorem iN(B:BH mg)(an:UB P w K mg base)(F:Bu K "first_hider" "first_hider" Rt f fd)(A:mg "first_hider" = some (.ref f)):QY P w K mg base:=by
 refine BZ F A MD (λvs H a1 a2 h=>?_) (λaO aJ aS s H vs a1 a2 hr h=>?_);obtain⟨L,S,T,R,O,l,us,Gs,Es,ss,q,ws,d,c,F,w,rfl,_⟩:=h;rfl
 . obtain⟨L,S,T,R,O,l,us,Gs,Es,ss,q,ws,d,c,F,w,rfl,eN,SC,BD,TT,a5,a6,⟨ms,el,rl,_⟩,ok,a3⟩:=h
   obtain⟨kb,eb,hb⟩:=BD
   refine⟨_,(Ao (AX (i:=4) MD.nd (CC Af))
    (Ao (AX (i:=5) MD.nd (pv 2))
    (Ao (CP CB rfl (Dk (pv 3)) (AA (i:=6) MD.nd) (Ao (AX (i:=7) MD.nd (A9 an (Ab (pv 0) (Ab (pv 6) Af))))
     (Ao (CP CB rfl (JD (pv 5)) (AA (i:=8) MD.nd) (At (Bj (Bt (VA (LO hr)) (Bx (Ab (A9 an (Ab (pv 0) (Ab (pv 8) Af))) (Ab (pv 7) Af))) (pv 1) (by with_unfolding_all rfl)) (At (Db (DN Dp EE EF EH (pv 4) (Ab (Ay Az (Vm (LO hr) (pv 5) (pv 8) (λζ ζ=>rfl)) Ai) Af)))) Bm)))
     (At (AX (i:=5) MD.nd (Ay Az (YH (LO hr) (pv 5) (pv 6) (Bx (Ab Ai (Ab So Af))) ⟨rfl,rfl,rfl,rfl⟩) Ai))))))
    (At (AW (JE rfl (by rfl) B.b_min (Ab (pv 4) Af))))))),?_⟩
   (try dsimp only[AG,Cx.nox,Cx.wish]);refine⟨by decide,λN Y=>?_⟩;obtain⟨aK,a7,s1,a8⟩:=new_at (o:=.lst []) Y;rw[<-a7];refine AU ?_;cbv;refine AU ?_;cbv
   refine⟨⟨_,Ae.of (s1 _ _ el)⟩,EZ (xs:=ms.map V.ref) (λj σ n=>∃(a:Addr)(u6 u7 C:Option V)(ns:List Nat),σ=[some (.ref L),some (.ref O),some (.ref (d [])),some (.ref l),some (.ref N),some (.ref a),u6,u7,C]/\Ac H n/\n N=some (.lst ((ns.map λk:Nat=>(k:Int)).map V.int))/\ns++TreeM.gat (Cd ss q) ws (w.take j) (w.drop j)=TreeM.gat (Cd ss q) ws [] w/\a≠N/\((Eg ws (w.take j)/\a=d (w.take j))\/(¬Eg ws (w.take j)/\H a=none/\Rd n a (.dT []))))
    ⟨d [],none,none,none,[],rfl,s1,a8,rfl,?_,.inl ⟨.inl rfl,rfl⟩⟩ (λj σ n ζ ab=>by obtain⟨_,_,_,_,_,_,s,_⟩:=ab;exact Ae.of (s _ _ el)) ?_ ?_⟩
   obtain⟨o,x⟩:=TT.dct [] (.inl rfl);exact AK x Y;rotate_left;refine λσ D ae=>AM λNz U=>?_;obtain⟨a,u6,u7,C,ns,rfl,y,af,t,_⟩:=ae;refine U ?_;clear U;rw[An,rl.len,List.drop_length] at t;have t:ns=_:=(FH ns).symm.trans t;subst t;exact⟨N,_,rfl,af,a3 D y⟩;refine λj aL σ D hy ae=>AM λNz U=>?_;obtain⟨a,u6,u7,C,ns,rfl,y,af,t,ao,ag⟩:=ae;refine U ?_;clear U;refine GJ ?_;intro Nx Cy;obtain⟨mk,aq,rfl⟩:=getm hy;have hj:j<w.length:=by rw[<-rl.len];exact(A8.mp aq).1
   have ah:=AC hj;have aa:=rl.at_ j _ _ aq ah;have ar:=ok.1 _ (Ep hj);have tk:w.take (j+1)=w.take j++[w[j]]:=by rw[DV,ah];rfl
   have dk:w.drop j=w[j]::w.drop (j+1):=M1 hj;rw[dk,XV] at t;generalize w[j]=m at ah aa tk ar t;generalize aP:w.take j=g at tk t ag ⊢;refine⟨L,S,T,R,mk,us,Gs,Es,ss,m,rfl,Ap.of (y _ _ eN),SC.same y,Ap.of (y _ _ aa),ar,?_⟩;refine AU ?_;cbv
   have a9:Rd D a (.dT (DT ws c g)):=by
    rcases ag with⟨u,p⟩|⟨u,_,p⟩;obtain⟨o,x⟩:=TT.dct g u;rw[p];exact .inr ⟨o,y _ _ x⟩;unfold DT;rw[Wo u];exact p
   refine HF (λσ' n=>∃(C:Option V),σ'=[some (.ref L),some (.ref O),some (.ref (d [])),some (.ref l),some (.ref N),some (.ref a),some (.ref mk),some (.str (FV ss m)),C]/\Ac H n/\n N=some (.lst (((ns++((TreeM.keysAt ws g).filter λE=>Cd ss q E.1 m).map (·.2)).map λk:Nat=>(k:Int)).map V.int))/\Rd n a (.dT (DT ws c g))) ?_ (λN' aA=>?_)
   case refine_2 =>
    refine⟨a,_,rfl,a9,λo G=>?_⟩
    have Q:Ac H (upd D a (.frz o (.dT (DT ws c g)))):=λb a4 e=>by
     by_cases au:b=a;subst au;rw[Aa];rcases ag with⟨u,p⟩|⟨_,p,_⟩;obtain⟨o',x⟩:=TT.dct g u;rw[<-p] at x;have x2:=y _ _ x;rcases G with G|G;rw[x2] at G;cases G;rw[x2] at G;cases G;rw[x] at e;exact e;rw[e] at p;cases p;rw[AE au];exact y _ _ e
    have M:(upd D a (.frz o (.dT (DT ws c g)))) N=_:=(AE (Ne.symm ao)).trans af;have av:(upd D a (.frz o (.dT (DT ws c g)))) a=some (.frz o (.dT (DT ws c g))):=Aa;generalize upd D a (.frz o (.dT (DT ws c g)))=H3 at Q M av ⊢
    refine ZI (λi σ n=>∃(C:Option V),σ=[some (.ref L),some (.ref O),some (.ref (d [])),some (.ref l),some (.ref N),some (.ref a),some (.ref mk),some (.str (FV ss m)),C]/\Ac H n/\n N=some (.lst (((ns++(((TreeM.keysAt ws g).take i).filter λE=>Cd ss q E.1 m).map (·.2)).map λk:Nat=>(k:Int)).map V.int))/\n a=some (.frz o (.dT (DT ws c g))))
     ⟨_,rfl,Q,by rw[Er];show H3 N=some (.lst (((ns++[]).map _).map _));rw[FH];exact M,av⟩ (λi σ n ζ ab=>by obtain⟨_,_,_,_,e⟩:=ab;exact e) ?_ ?_
    rotate_left;rintro σ H4 ⟨ai,rfl,I,J,W⟩;unfold DT at J;rw[An,Ej] at J;exact aA _ _ ⟨ai,rfl,I,J,.inr ⟨o,W⟩⟩;rintro i k aM b σ H4 hi aw ⟨ai,rfl,I,J,W⟩;unfold DT at hi;rw[Bh] at hi;obtain⟨⟨x,kk⟩,hx,e⟩:=EX.mp hi;have e1:=BJ Prod.fst e;have e2:=BJ Prod.snd e;dsimp only at e1 e2;subst e1 e2;have mx:=Bl hx;have aj:x∈(TreeM.keysAt ws g).map (·.1):=A3.mpr ⟨_,mx,rfl⟩
    have aB:Ev ss x:=by
     obtain⟨kw,u,p⟩:=TreeM.keysAt_mem.mp aj;exact a6 kw u x (p.subset (by simp))
    have aC:=TT.tup g x kk mx
    have aQ:Eg ws g:=by
     obtain⟨kw,u,p⟩:=TreeM.keysAt_mem.mp aj;exact .inr ⟨kw,u,(IB g _).trans p⟩
    have ax:(TreeM.keysAt ws g).take (i+1)=(TreeM.keysAt ws g).take i++[(x,kk)]:=by rw[DV,hx];rfl
    refine⟨L,S,T,R,b,us,Gs,Es,ss,x,rfl,Ap.of (I _ _ eN),SC.same I,Ap.of aw,aB,?_⟩;refine⟨Ca,λaN hp=>?_⟩;obtain⟨H5,ak,r,ep⟩:=new_at (o:=.tup [.str (FV ss x),.str (FV ss m)]) hp;rw[<-ak];have v:=I.trans r;refine⟨O,_,rfl,Dq.t (k:=FA (FV ss x,FV ss m)) (v _ _ eb) ep,rfl,?_⟩;rw[hb];refine Am (λh=>?_) (λh=>?_);have al:Cd ss q x m=true:=(by simpa [Cd] using h);refine⟨Or.inl ⟨rfl,_,Ae.of (r _ _ J)⟩,a,.ref (c g x),rfl,?_,Or.inr (Or.inl ⟨_,.int (kk:Int),Ap.of (v _ _ aC),rfl,_,r _ _ J,?_,?_⟩)⟩;refine .inr ⟨_,Ge x,b,.inr ⟨o,r _ _ W⟩,rfl,r _ _ aw,?_⟩;rw[OI,Al aj];rw[An,An,AY,An];have u:=Pk (λE:Aq×Nat=>Cd ss q E.1 m) ((TreeM.keysAt ws g).take i);have p:=Tc ws g;have h3:(((TreeM.keysAt ws g).take i)).length<=(TreeM.keysAt ws g).length:=by rw[FN];lia
    have h4:=BJ List.length t;have h5:=XW (bet:=Cd ss q) (ws:=ws) (b:=w) (a:=[]);have h6:w.length*ws.length<=100*100:=Nat.mul_le_mul ok.2 a5;rw[AY] at h4;exact ZA (by lia);refine⟨_,rfl,λb' a4 e=>?_,?_,?_⟩;rw[AE (AK e Y)];exact v _ _ e;rw[Aa,ax,NH,M3,Al al]
    simp
    rw[AE ao];exact r _ _ W;have al:¬Cd ss q x m=true:=(by simpa [Cd] using h);refine⟨_,rfl,v,?_,r _ _ W⟩;rw[ax,NH,M3,Ak al];simpa using r _ _ J
   rintro σ' H3 ⟨ai,rfl,Q,M,a0⟩;have aR:((DT ws c g).map (·.1)).length=(DT ws c g).length:=An _;refine⟨a,rfl,.inr ⟨_,a0⟩,λe Z=>?_⟩;obtain⟨H4,aD,I,ee⟩:=new_at (o:=.dT []) Z;rw[<-aD];refine⟨Ca,λT5 aE=>?_⟩;obtain⟨H5,ak,r,aF⟩:=new_at (o:=.tup [.int 0,.ref e]) aE;rw[<-ak];have X:=I.trans r;have v:=Q.trans X;have aI:Rd H5 a (.dT (DT ws c g)):=a0.elim (λz=>.inl (X _ _ z)) λ⟨o,z⟩=>.inr ⟨o,X _ _ z⟩;have aG:e≠N:=λz=>by rw[z,M] at Z;cases Z
   refine⟨_,.inr ⟨_,Ge m,mk,aI,rfl,v _ _ aa,rfl⟩,?_⟩;rw[OI];have ay:(ns++((TreeM.keysAt ws g).filter λE=>Cd ss q E.1 m).map (·.2))++TreeM.gat (Cd ss q) ws (g++[m]) (w.drop (j+1))=TreeM.gat (Cd ss q) ws [] w:=by rw[F5];exact t
   by_cases A:m∈(TreeM.keysAt ws g).map (·.1);rw[Al A];obtain⟨⟨m',k⟩,hk,rfl⟩:=A3.mp A;have aH:=TT.tup g m' k hk;have az:=Fz.mpr A;refine Or.inr (Or.inl ⟨_,.ref (d (g++[m'])),Ap.of (v _ _ aH),rfl,?_⟩);refine⟨_,_,_,_,_,rfl,v,X _ _ M,by rw[tk];exact ay,?_,.inl ⟨by rw[tk];exact az,by rw[tk]⟩⟩;obtain⟨o,x⟩:=TT.dct _ az;exact AK x Y;rw[Ak A];refine Or.inr (Or.inl ⟨_,.ref e,Ap.of aF,rfl,?_⟩);exact⟨_,_,_,_,_,rfl,v,X _ _ M,by rw[tk];exact ay,aG,.inr ⟨λz=>A (Fz.mp (by rw[tk] at z;exact z)),Q.free Z,.inl (r _ _ ee)⟩⟩
inductive D7 (K:Ah) (vs:List V) (H:Hp) (Q:VK):Prop where
 |mk (nt S T R t D:Addr) (us Gs Es:List Addr) (ss:List Bk) (F G:Addr->Prop) (sts:List Cr) (inn:Int) (ord:A') (zs:List (Addr×List Aq)) (h0:vs=[.ref nt,.ref t,.ref D]) (h1:H nt=some (.tup [.ref S,.ref T,.ref R])) (h2:Df H S us Gs Es ss) (h3:FR K F H t sts inn ord) (h4:ord.length<=40) (h5:(∀x,(x,x)∉ord)) (h6:H D=some (.lst (zs.map λz=>V.ref z.1))) (h7:(∀z∈zs,CQ G H z.1 z.2)) (h8:(∀z∈zs,Nm ss z.2)) (h9:zs.length<=100) (h10:∀(P:Addr)(ys:List (Addr×List Aq))(H':Hp),H P=none->Ac H H'->H' P=some (.lst (ys.map λz=>V.ref z.1))->(∀z∈ys,CQ (λl=>H l=none/\l≠P) H' z.1 z.2)->ys.map (·.2)=CS ss ord (zs.map (·.2)) (zs.map (·.2))->Q (.ref P) H'):D7 K vs H Q
def iO (K:Ah):Sp:=λvs H Q ζ=>D7 K vs H Q
variable (P w K mg base) in
abbrev UC:Prop:=BG P w K mg base "seen_ways" 3 ["net", "table", "ways"] (iO K)
theorem iP(B:BH mg)(ay:QW P w K mg base)(az:QX P w K mg base)(a0:QY P w K mg base)(F:Bu K "seen_ways" "seen_ways" Pq f fd)(L:mg "seen_ways" = some (.ref f)):UC P w K mg base:=by
 refine BZ F L T8 (λa H aq ar h=>?_) (λa9 a7 aC s H a aq ar hr h=>?_);obtain⟨nt,S,aa,ab,t,ae,us,Gs,Es,ss,F,G,ag,ah,j,d,rfl,_⟩:=h;rfl;obtain⟨nt,S,aa,ab,t,ae,us,Gs,Es,ss,F,G,ag,ah,j,d,rfl,eN,SC,TB,aw,irr,M,p,ai,lz,au⟩:=h
 refine⟨_,(Ao (AX (i:=3) T8.nd (A9 ay (Ab (pv 1) Af)))
  (Ao (AX (i:=4) T8.nd (HS (A9 az (Ab (pv 2) Af))))
  (At (AW (G9 (te:=PD (Jy K) (Lx (B5 0) Hr)) rfl C3 (Dk (pv 2)) (λζ ζ ζ ζ ζ=>(AA (i:=0) C3.nd)) (λζ ζ ζ ζ ζ=>(PQ (F8 (Gy (A9 a0 (Ab (pv 1) (Ab (pv 2) (Ab (pv 3) (Ab (pv 0) Af))))))))) (λζ ζ ζ ζ ζ=>(GA Oc B.b_list (Ab (pv 0) Af)))))))),?_⟩
 (try dsimp only[AG,Cx.nox,Cx.wish]);refine⟨t,F,ag,ah,j,rfl,TB,aw,λbp a8 aA N BD=>?_⟩;refine⟨ae,G,d,rfl,N _ _ M,λz h=>(p z h).same N,lz,λav c H2 s2 T2 aj H3 q f4=>?_⟩;have s3:=q.same s2;have T3:=T2.frz aj q f4;have a1:=BD.same s3;clear T2 aj q f4 s2 BD;have n:=N.trans s3;have lw:(Bc (d.map (·.2))).length<=100:=by unfold Bc;rw[An,List.length_zipIdx,An];exact lz
 have a2:∀kw∈Bc (d.map (·.2)),∀m∈kw.2,Ev ss m:=λkw a3 m L=>by
  obtain⟨z,h1,h2⟩:=A3.mp (Bl (Ds.mp a3));exact(ai z h1).1 m (by rw[h2];exact L)
 refine⟨⟨_,Ae.of (n _ _ M)⟩,PZ (xs:=d.map λz=>V.ref z.1) (λP i r C=>∃a:List (Addr×List Aq),r=(a.map λz=>V.ref z.1)/\Ac H3 C/\C P=some (.lst r)/\(∀z∈a,CQ (λl=>H l=none/\l≠P) C z.1 z.2)/\a.map (·.2)=CS ss j (d.map (·.2)) ((d.map (·.2)).take i)/\a.length<=i)
  (λP u=>⟨[],rfl,Bf u,Aa,λz p=>by simp at p,by rw[Er];rfl,AD _⟩) (λP i r C a4=>by obtain⟨_,_,s,_⟩:=a4;exact Ae.of (s _ _ (n _ _ M))) (λP i af r H4 RR R0 u hy O k k0=>?_) (λP r H4 u O=>?_)⟩
 refine AM λNz y=>?_;obtain⟨a,rfl,g,Q,J,A,lv⟩:=O;refine y ?_;clear y;obtain⟨z,U,rfl⟩:=getm hy;have aB:i<d.length:=(A8.mp U).1;have R:=Bl U;have ak:(d.map (·.2))[i]?=some z.2:=by rw[Bh,U];rfl
 have W:=n.trans g;refine⟨nt,S,aa,ab,bp,z.1,us,Gs,Es,ss,j,_,av,c,G,z.2,rfl,W _ _ eN,SC.same W,a1.same g,T3.same g,lw,a2,(p z R).same W,ai z R,λH5 D=>?_⟩;have X:=g.trans D;have al:=n.trans X;have Y:=D _ _ Q;refine⟨rfl,Am (λh=>?_) (λh=>?_)⟩;have Z:=(Qb irr).mp (CT.mp (Bi h));obtain⟨ms,ax,q,_⟩:=(p z R).same al;refine⟨z.1,_,rfl,Or.inl (Ae.of ax),λl E=>?_⟩;obtain⟨H6,a5,I,el⟩:=new_at (o:=.lst (ms.map V.ref)) E;rw[<-a5];have an:=I _ _ Y;have ao:l≠P:=λaf=>by rw[af,Y] at E;cases E
 have T:Keeps (·=P) H6 (upd H6 P (.lst (a.map (λz=>V.ref z.1)++[.ref l]))):=Keeps.one an;refine k _ _ an (by rw[An];exact BK (by lia)) ⟨a++[(l,z.2)],by rw[Br];rfl,λb o e=>?_,Aa,λw a6=>?_,?_,by rw[AY,DJ];lia⟩;rw[AE (AK e u)];exact I _ _ (X _ _ e);rcases BI.mp a6 with h|h;exact((J w h).same (D.trans I)).keeps T λx hx=>hx.2;rw[AZ.mp h];exact⟨ms,T.at_ _ _ el ao,(q.same I).keeps T,al.free E,ao⟩;rw[Wu ak,Ak (by rw[Z];exact Cz),Br,A];rfl
 have Z:((d.map (·.2)).any λv=>Cn ss j v z.2)=true:=by
  cases e:(d.map (·.2)).any λv=>Cn ss j v z.2 with
  |true=>rfl
  |false=>exact absurd (A7 (CT.mpr ((Qb irr).mpr e))) h
 exact k0 _ ⟨a,rfl,X,Y,λw hw=>(J w hw).same D,by rw[Wu ak,Al Z];exact A,by lia⟩;refine AM λNz y=>?_;obtain⟨a,rfl,g,Q,J,A,lv⟩:=O;refine y ?_;clear y;rw[An,<-An (f:=(·.2)),Ej] at A;exact au P a H4 ((n).free u) (n.trans g) Q J A
inductive EB (K:Ah) (vs:List V) (H:Hp) (Q:VK):Prop where
 |mk (nt A t D:Addr) (x:Str) (F G:Addr->Prop) (W:Wd) (inn:Int) (ord:A') (sc st:Int) (zs:List (Addr×AQ)) (h0:vs=[.ref nt,.ref t,.ref D,.str x]) (h1:Bq K H nt A t W) (h2:FR K F H t W.sts inn ord) (h3:B2 W) (h4:Bn W) (h5:ord.length<=40) (h6:(∀x,(x,x)∉ord)) (h7:(0<=sc/\sc<W.ss.length)) (h8:(0<=st/\st<W.sts.length)) (h9:H D=some (.lst (zs.map λz=>V.ref z.1))) (h10:(∀z∈zs,DP G H z.1 z.2)) (h11:Dg W sc st (zs.map (·.2))) (h12:∀(r D2 P:Addr)(ws ys:List (Addr×List Aq))(H':Hp),Ac H H'->H' r=some (.tup [.ref D,.ref D2,.ref P])->H D2=none->H' D2=some (.lst (ws.map λz=>V.ref z.1))->(∀z∈ws,CQ (λl=>H l=none) H' z.1 z.2)->Nl W x (zs.map (·.2)) (ws.map (·.2))->H P=none->H' P=some (.lst (ys.map λz=>V.ref z.1))->(∀z∈ys,CQ (λl=>H l=none) H' z.1 z.2)->ys.map (·.2)=CS W.ss ord (ws.map (·.2)) (ws.map (·.2))->Q (.ref r) H'):EB K vs H Q
def iQ (K:Ah):Sp:=λvs H Q ζ=>EB K vs H Q
variable (P w K mg base) in
abbrev UD:Prop:=BG P w K mg base "look_for" 4 ["net", "table", "begun", "name"] (iQ K)
def iR(B:BH mg)(aa:UA P w K mg base)(ab:UC P w K mg base)(F:Bu K "look_for" "look_for" Ru f fd)(O:mg "look_for" = some (.ref f)):UD P w K mg base:=by
 refine BZ F O Xx (λU H Q E h=>?_) (λaj A ak s H U Q E y h=>?_);obtain⟨j,A,t,D,x,F,G,W,L,M,k,l,m,rfl,_⟩:=h;rfl;obtain⟨j,A,t,D,x,F,G,W,L,M,k,l,m,rfl,C,V,ok,I,X,irr,e,g,Y,Z,c,q⟩:=h;obtain⟨S,T,R,us,Gs,Es,ts,qt,qs,eN,N3⟩:=C.net
 refine⟨_,(Ao (AX (i:=4) Xx.nd (A9 aa (Ab (pv 0) (Ab (pv 1) (Ab (pv 2) (Ab (pv 3) Af))))))
  (At (AW (Bx (Ab (pv 2) (Ab (pv 4) (Ab (A9 ab (Ab (pv 0) (Ab (pv 1) (Ab (pv 4) Af)))) Af))))))),?_⟩
 (try dsimp only[AG,Cx.nox,Cx.wish]);refine⟨j,A,t,D,x,G,W,m,rfl,C,ok,Y,Z,λz ae=>((c.mem _).mp (A3.mpr ⟨z,ae,rfl⟩)).ok ok e g,I.fnd x k l _ e g c,λn d ai af a N J p=>?_⟩;have ag:∀z∈d,z.2∈DY W x (m.map (·.2)):=λz h=>p.perm.mem_iff.mp (A3.mpr ⟨z,h,rfl⟩)
 have lw:d.length<=100:=by
  have h1:=p.perm.length_eq;have h2:=I.fnd x k l _ e g c;rw[An] at h1;lia
 refine⟨j,S,T,R,t,n,us,Gs,Es,W.ss,F,_,W.sts,L,M,d,rfl,a _ _ eN,N3.sc.same a,V.same a,X,irr,N,J,λz h=>S6 ok e g c (ag z h),lw,λP ys H2 hP u eP hy ah=>?_⟩;refine⟨Jv,λr y=>?_⟩;have b:=Bf (o:=.tup [.ref D,.ref n,.ref P]) y;refine q r n P d ys _ ((a.trans u).trans b) Aa af (b _ _ (u _ _ N)) (λz h=>(((J z h).mono' λζ ζ ζ v=>v.1).same u).same b) p (a.free hP) (b _ _ eP) (λz h=>((hy z h).mono' λx o ζ v=>a.free v.1).same b) ah
inductive DG (K:Ah) (vs:List V) (H:Hp) (Q:VK):Prop where
 |mk (nt S T R t D O:Addr) (us Gs Es:List Addr) (ss:List Bk) (F G:Addr->Prop) (sts:List Cr) (inn:Int) (ord:A') (ws:List (Addr×List Aq)) (os:List (Addr×Ow)) (h0:vs=[.ref nt,.ref t,.ref D,.ref O]) (h1:H nt=some (.tup [.ref S,.ref T,.ref R])) (h2:Df H S us Gs Es ss) (h3:FR K F H t sts inn ord) (h4:ord.length<=40) (h5:(∀x,(x,x)∉ord)) (h6:H D=some (.lst (ws.map λz=>V.ref z.1))) (h7:(∀z∈ws,CQ G H z.1 z.2)) (h8:(∀z∈ws,Nm ss z.2)) (h9:ws.length<=100) (h10:H O=some (.lst (os.map λz=>V.ref z.1))) (h11:(∀z∈os,FK G H z.1 z.2)) (h12:(∀z∈os,Nm ss z.2.1)) (h13:∀(v:V)(H':Hp),Ac H H'->Tp G H' v (FL ss ord (ws.map (·.2)) (os.map (·.2)))->Q v H'):DG K vs H Q
def iS (K:Ah):Sp:=λvs H Q ζ=>DG K vs H Q
variable (P w K mg base) in
abbrev UE:Prop:=BG P w K mg base "first_owed" 3 ["net", "table", "found", "owed"] (iS K)
def iT(B:BH mg)(ao:QW P w K mg base)(aq:QX P w K mg base)(ar:QY P w K mg base)(F:Bu K "first_owed" "first_owed" Rv f fd)(r:mg "first_owed" = some (.ref f)):UE P w K mg base:=by
 refine BZ F r OV (λvs ai aj ak h=>?_) (λa2 a0 a4 s ai vs aj ak hr h=>?_);obtain⟨u,S,T,R,t,D,O,us,J,L,ss,F,G,aa,ab,b,a,k,rfl,_⟩:=h;rfl
 . obtain⟨u,S,T,R,t,D,O,us,J,L,ss,F,G,aa,ab,b,a,k,rfl,eN,SC,TB,an,irr,eD,hw,au,ae,M,ho,av,q⟩:=h
   refine⟨_,(Ao (AX (i:=4) OV.nd (A9 ao (Ab (pv 1) Af)))
    (Ao (AX (i:=5) OV.nd (HS (A9 aq (Ab (pv 2) Af))))
    (Ao (CP CB rfl (Dk (pv 3)) (Cq (n:=2) rfl (AI (AA (i:=6) OV.nd) (AI (AA (i:=7) OV.nd) Cp))) (At (Bj (F8 (Gy (A9 ar (Ab (pv 0) (Ab (pv 4) (Ab (pv 5) (Ab (pv 6) Af))))))) (At (AW (Bx (Ab (pv 6) (Ab (pv 7) Af))))) Bm)))
    (At (AW GR))))),?_⟩
   (try dsimp only[AG,Cx.nox,Cx.wish]);refine⟨t,F,aa,ab,b,rfl,TB,an,λN a1 a3 y Q=>?_⟩;refine⟨D,G,a,rfl,y _ _ eD,λz h=>(hw z h).same y,ae,λd c H2 U W af H3 A X=>?_⟩;have Y:=A.same U;have T3:=W.frz af A X;have aw:=Q.same Y;clear W af A X U Q;have p:=y.trans Y;have lw:(Bc (a.map (·.2))).length<=100:=by unfold Bc;rw[An,List.length_zipIdx,An];exact ae
   have ax:∀Z∈Bc (a.map (·.2)),∀m∈Z.2,Ev ss m:=λZ ay m r=>by
    obtain⟨z,h1,h2⟩:=A3.mp (Bl (Ds.mp ay));exact(au z h1).1 m (by rw[h2];exact r)
   refine⟨⟨_,Ae.of (p _ _ M)⟩,EZ (xs:=k.map λz=>V.ref z.1) (λi σ H'=>∃C E,σ=[some (.ref u),some (.ref t),some (.ref D),some (.ref O),some (.ref N),some (.ref (d [])),C,E]/\Ac H3 H'/\FL ss b (a.map (·.2)) (k.map (·.2))=FL ss b (a.map (·.2)) ((k.map (·.2)).drop i))
    ⟨none,none,rfl,λζ ζ e=>e,rfl⟩ (λi σ H' ζ az=>by obtain⟨_,_,_,s,_⟩:=az;exact Ae.of (s _ _ (p _ _ M))) ?_ ?_⟩
   rotate_left;rintro σ H4 ⟨C,E,rfl,g,j⟩;rw[An,<-An (f:=(·.2)),List.drop_length] at j;refine q _ _ (p.trans g) ?_;rw[j];rfl;rintro i x σ H4 hx ⟨C,E,rfl,g,j⟩;obtain⟨z,ag,rfl⟩:=getm hx;have mz:=Bl ag;have H:=p.trans g;obtain⟨l,e1,wl⟩:=((ho z mz).same H).way;have hd:=Tq (l:=k.map (·.2)) (i:=i) (x:=z.2) (by rw[Bh,ag];rfl);rw[hd] at j;refine⟨_,Ap.of e1,rfl,?_⟩;refine⟨u,S,T,R,N,l,us,J,L,ss,b,_,d,c,G,z.2.1,rfl,H _ _ eN,SC.same H,aw.same g,T3.same g,lw,ax,wl,av z mz,λH5 s5=>?_⟩;have ah:=g.trans s5;refine⟨rfl,Am (λh=>?_) (λh=>?_)⟩;have I:=(Qb irr).mp (CT.mp (Bi h));refine⟨Ca,λal hp=>?_⟩;have s6:=Bf (o:=.tup [.ref l,.int z.2.2]) hp;refine q _ _ ((p.trans ah).trans s6) ?_;rw[j,WA I];exact⟨al,l,rfl,Aa,(wl.same s5).same s6⟩
   have I:((a.map (·.2)).any λv=>Cn ss b v z.2.1)=true:=by
    cases e:(a.map (·.2)).any λv=>Cn ss b v z.2.1 with
    |true=>rfl
    |false=>exact absurd (A7 (CT.mpr ((Qb irr).mpr e))) h
   exact⟨_,_,rfl,ah,by rw[j,WB I]⟩
inductive DH (K:Ah) (vs:List V) (H:Hp) (Q:VK):Prop where
 |mk (nt S T R mk:Addr) (us Gs Es:List Addr) (ss:List Bk) (m:Aq) (h0:vs=[.ref nt,.ref mk]) (h1:Ap K H nt [.ref S,.ref T,.ref R]) (h2:Df H S us Gs Es ss) (h3:Ap K H mk (GY m)) (h4:Ev ss m) (h5:m.2.1=("told" : Str)) (h6:∀t,H t=some (.tup (GX (KZ ss m)))->Q (.ref t) H):DH K vs H Q
def iU (K:Ah):Sp:=λvs H Q ζ=>DH K vs H Q
variable (P w K mg base) in
abbrev O9:Prop:=BG P w K mg base "telling_at" 1 ["net", "mark"] (iU K)
def iV(B:BH mg)(F:Bu K "telling_at" "telling_at" Rw f fd)(c:mg "telling_at" = some (.ref f)):O9 P w K mg base:=by
 refine BZ F c OW (λv H Q E h=>?_) (λaf A ag s H v Q E hr h=>?_);obtain⟨x,S,T,R,mk,us,y,z,ss,m,rfl,_⟩:=h;rfl;obtain⟨x,S,T,R,mk,us,y,z,ss,m,rfl,C,j,c,⟨n,k,Z,l,o,d,D⟩,X,q⟩:=h;have U:n<ss.length:=(A8.mp d).1;obtain⟨u,aa,G,I,ab,ae,p,⟨J,⟨tG,b1,L⟩,⟨a,M,b⟩⟩⟩:=j.get U;rw[d] at p;have N:=AO p;rw[<-N] at L b;have W:Bv (us.map V.ref) m.1=some (.ref u):=by rw[l];exact BX (by rw[Bh,I];rfl)
 refine⟨_,(Ao (Eb (pv 1) (Cq (n:=3) rfl (AI (AA (i:=2) OW.nd) (AI (AA (i:=3) OW.nd) (AI (AA (i:=4) OW.nd) Cp)))))
  (Ao (AX (i:=5) OW.nd (Ay Az (Ay Az (Ay Az (pv 0) Ai) (pv 2)) Ai))
  (At (AW (Ay Az (pv 5) (pv 4)))))),?_⟩
 (try dsimp only[AG,Cx.nox,Cx.wish]);refine⟨_,c,rfl,?_⟩;refine Or.inr (Or.inl ⟨_,.ref S,C,rfl,Or.inl ⟨_,.ref u,Ae.of j.top,W,Or.inr (Or.inl ⟨_,.ref G,Ap.of J,rfl,?_⟩)⟩⟩);rcases D with⟨e,_⟩|⟨_,g⟩;exact absurd (X.symm.trans e) S5;have r:=AC g;rw[Ww l o d r] at q;have t:a[k]?=some (a[k]'(by rw[b.len];exact g)):=AC _;have O:=b.at_ _ _ _ t r;have Y:Bv (a.map V.ref) m.2.2=some (.ref (a[k]'(by rw[b.len];exact g))):=by rw[o];exact BX (by rw[Bh,t];rfl)
 exact Or.inl ⟨_,_,Ae.of M,Y,q _ O⟩
inductive DI (K:Ah) (vs:List V) (H:Hp) (Q:VK):Prop where
 |mk (nt A t P:Addr) (G:Addr->Prop) (W:Wd) (ys:List (Addr×List Aq)) (h0:vs=[.ref nt,.ref A,.ref P]) (h1:Bq K H nt A t W) (h2:Bn W) (h3:H P=some (.lst (ys.map λz=>V.ref z.1))) (h4:(∀z∈ys,CQ G H z.1 z.2)) (h5:(∀z∈ys,Du W.ss z.2)) (h6:∀(v:V)(H':Hp),Ac H H'->Tp G H' v (FD W (ys.map (·.2)))->Q v H'):DI K vs H Q
def iW (K:Ah):Sp:=λvs H Q ζ=>DI K vs H Q
variable (P w K mg base) in
abbrev UF:Prop:=BG P w K mg base "first_open" 2 ["net", "answers", "seen"] (iW K)
def iX(B:BH mg)(ak:O9 P w K mg base)(F:Bu K "first_open" "first_open" Rx f fd)(hm:mg "first_open" = some (.ref f)):UF P w K mg base:=by
 refine BZ F hm NB (λvs H aa ab h=>?_) (λao A ar s H vs aa ab hr h=>?_);obtain⟨g,A,t,P,ae,W,c,rfl,_⟩:=h;rfl
 . obtain⟨g,A,t,P,ae,W,c,rfl,J,sm,L,hy,R,q⟩:=h
   obtain⟨af,ag,ah,us,Gs,Es,ts,qt,qs,eN,N3⟩:=J.net
   refine⟨_,(Ao (CP CB rfl (Dk (pv 2)) (AA (i:=3) NB.nd) (Ao (Eb (A9 ak (Ab (pv 0) (Ab (Ay Az (pv 3) (Pz PB Ai)) Af))) (Cq (n:=4) rfl (AI (AA (i:=4) NB.nd) (AI (AA (i:=5) NB.nd) (AI (AA (i:=6) NB.nd) (AI (AA (i:=7) NB.nd) Cp))))))
    (At (Bj (PW.pt (GU (Bt CF (pv 6) B6 (Bp _)) (GS (F8 (Gy (Ay Az (pv 1) (pv 7))))))) (At (AW (Bx (Ab (pv 3) (Ab (pv 7) Af))))) Bm))))
    (At (AW GR))),?_⟩
   try dsimp only[AG,Cx.nox,Cx.wish]
   refine⟨⟨_,Ae.of L⟩,EZ (xs:=c.map λz=>V.ref z.1) (λi σ M=>∃j r u v y,σ=[some (.ref g),some (.ref A),some (.ref P),j,r,u,v,y]/\Ac H M/\FD W (c.map (·.2))=FD W ((c.map (·.2)).drop i))
    ⟨none,none,none,none,none,rfl,λζ ζ e=>e,rfl⟩ (λi σ M ζ al=>by obtain⟨_,_,_,_,_,_,s,_⟩:=al;exact Ae.of (s _ _ L)) ?_ ?_⟩
   rotate_left;refine λσ H4 G=>AM λNz d=>?_;obtain⟨j,r,u,v,y,rfl,a,b⟩:=G;refine d ?_;clear d;rw[An,<-An (f:=(·.2)),List.drop_length] at b;refine q _ _ a ?_;rw[b];rfl;refine λi x σ H4 hx G=>AM λNz d=>?_;obtain⟨j,r,u,v,y,rfl,a,b⟩:=G;refine d ?_;clear d;obtain⟨z,S,rfl⟩:=getm hx;have C:=Bl S;have hd:=Tq (l:=c.map (·.2)) (i:=i) (x:=z.2) (by rw[Bh,S];rfl);rw[hd] at b;have tk:=Np sm (R z C);have N:=(hy z C).same a;obtain⟨vv,m,O,mo,aj⟩:=R z C;have T:=N;rw[O] at T;obtain⟨ms,mk,l1,l2,l3⟩:=Wz T;refine Or.inl ⟨_,.ref mk,Ae.of l1,l2,g,af,ag,ah,mk,us,Gs,Es,W.ss,m,rfl,Ap.of (a _ _ eN),N3.sc.same a,Ap.of l3,mo,aj,λtp U=>?_⟩;have et:KZ W.ss m=Cs W.ss z.2:=(by rw[O,Qh]);rw[et] at U;refine⟨_,Ap.of U,rfl,?_⟩;refine⟨rfl,rfl,Am (λh=>?_) (λh=>?_)⟩;rotate_left;have hn:(Cs W.ss z.2).2.2.1≠("by" : Str):=λe=>h (A7 (by rw[e]));refine Bb ?_;refine⟨_,_,_,_,_,rfl,a,?_⟩;rw[b,Qj (Ak λe=>hn e.1)];have X:(Cs W.ss z.2).2.2.1=("by" : Str):=V.str.inj (Bi h);rcases tk with⟨e,_⟩|⟨_,k0,k1⟩;rw[X] at e;exact absurd e (by decide +kernel);obtain⟨k,D⟩:=DL k0;have an:k<W.as.length:=(by lia);obtain⟨I,ai,Y,hv,hc⟩:=(J.ans.same a).get an;have Z:Bv I (Cs W.ss z.2).2.2.2=some ai:=by rw[D];exact BX hv
   rcases hc with⟨E,rfl⟩|⟨p,ta,E,rfl,aq⟩;refine Or.inl ⟨I,_,Y,Z,rfl,Am (λζ=>?_) (λh=>absurd (A7 rfl) h)⟩;refine⟨Ca,λp hp=>?_⟩;have Q:=Bf (o:=.tup [.ref z.1,.int (Cs W.ss z.2).2.2.2]) hp;refine q _ _ (a.trans Q) ?_;rw[b,WC (q:=(Cs W.ss z.2).2.2.2) (Al ⟨X,by rw[D,Bo];exact E⟩)];exact⟨p,z.1,rfl,Aa,N.same Q⟩;refine Or.inl ⟨I,_,Y,Z,rfl,Am (λh=>absurd (Bi h) (by simp)) (λζ=>?_)⟩;refine⟨_,_,_,_,_,rfl,a,?_⟩;rw[b,Qj (Ak λe=>by have:=e.2;rw[D,Bo,E] at this;cases this)]
inductive Fc (K:Ah) (vs:List V) (H:Hp) (Q:VK):Prop where
 |mk (nt A t l:Addr) (G:Addr->Prop) (W:Wd) (w:List Aq) (h0:vs=[.ref nt,.ref A,.ref l]) (h1:Bq K H nt A t W) (h2:Bn W) (h3:CQ G H l w) (h4:Du W.ss w) (h5:FC W w=none) (h6:Q (Ef (Bz W w)) H):Fc K vs H Q
def iY (K:Ah):Sp:=λvs H Q ζ=>Fc K vs H Q
variable (P w K mg base) in
abbrev UG:Prop:=BG P w K mg base "meaning" 2 ["net", "answers", "way"] (iY K)
def iZ(B:BH mg)(aa:O9 P w K mg base)(F:Bu K "meaning" "meaning" Ry f fd)(D:mg "meaning" = some (.ref f)):UG P w K mg base:=by
 refine BZ F D ME (λI H Q E h=>?_) (λai A aj s H I Q E hr h=>?_);obtain⟨g,A,t,l,G,W,w,rfl,_⟩:=h;rfl;obtain⟨g,A,t,l,G,W,w,rfl,j,J,o,r,d,q⟩:=h;obtain⟨S,T,R,us,L,M,ts,qt,qs,N,O⟩:=j.net;have tk:=Np J r;obtain⟨vv,m,u,U,X⟩:=r;have Y:KZ W.ss m=Cs W.ss w:=(by rw[u,Qh]);rw[u] at o;obtain⟨ms,mk,Z,l2,l3⟩:=Wz o
 refine⟨_,(Ao (Eb (A9 aa (Ab (pv 0) (Ab (Ay Az (pv 2) (Pz PB Ai)) Af))) (Cq (n:=4) rfl (AI (AA (i:=3) ME.nd) (AI (AA (i:=4) ME.nd) (AI (AA (i:=5) ME.nd) (AI (AA (i:=6) ME.nd) Cp))))))
  (Ao (Bj (Bt CF (pv 5) B6 (Bp _)) (At (AW (pv 6))) Bm)
  (Ao (Eb (Ay Az (pv 1) (pv 6)) (Cq (n:=2) rfl (AI (AA (i:=5) ME.nd) (AI (AA (i:=6) ME.nd) Cp))))
  (Ao (Bj (Bt CF (pv 5) B6 (Bp _)) (At (AW (pv 6))) Bm)
  (At (AW GR)))))),?_⟩
 (try dsimp only[AG,Cx.nox,Cx.wish]);refine Or.inl ⟨_,.ref mk,Ae.of Z,l2,g,S,T,R,mk,us,L,M,W.ss,m,rfl,Ap.of N,O.sc,Ap.of l3,U,X,λtp z=>?_⟩;rw[Y] at z;refine⟨_,Ap.of z,rfl,?_⟩;refine⟨rfl,rfl,Am (λh=>?_) (λh=>?_)⟩;have ht:(Cs W.ss w).2.2.1=("thing" : Str):=V.str.inj (Bi h)
 rw[show Bz W w=some (Cs W.ss w).2.2.2 from Al ht] at q;exact q
 have x:(Cs W.ss w).2.2.1≠("thing" : Str):=λe=>h (A7 (by rw[e]));rcases tk with⟨e,_⟩|⟨ab,k0,k1⟩;exact absurd e x;obtain⟨k,a⟩:=DL k0;have ae:k<W.as.length:=(by lia);obtain⟨C,v,af,hv,hc⟩:=j.ans.get ae;have ag:Bv C (Cs W.ss w).2.2.2=some v:=by rw[a];exact BX hv
 rcases hc with⟨b,rfl⟩|⟨p,ta,b,rfl,ah⟩;unfold FC at d;rw[Al ⟨ab,by rw[a,Bo];exact b⟩] at d;cases d
 have y:Bz W w=if p.1=("thing" : Str) then some p.2 else none:=by
  unfold Bz;rw[Ak x,a,Bo,b]
 refine Or.inl ⟨C,_,af,ag,?_⟩;refine⟨_,ah,rfl,?_⟩;refine⟨rfl,rfl,Am (λh=>?_) (λh=>?_)⟩;have c:p.1=("thing" : Str):=V.str.inj (Bi h);rw[y,Al c] at q;exact q;have c:p.1≠("thing" : Str):=λe=>h (A7 (by rw[e]));rw[y,Ak c] at q;exact q
inductive La (K:Ah) (vs:List V) (H:Hp) (Q:VK):Prop where
 |mk (nt A t O r D D2 P:Addr) (F G:Addr->Prop) (W:Wd) (inn:Int) (ord:A') (ws ys:List (Addr×List Aq)) (os:List (Addr×Ow)) (at_:Int) (h0:vs=[.ref nt,.ref A,.ref t,.ref O,.ref r,.int at_]) (h1:Bq K H nt A t W) (h2:FR K F H t W.sts inn ord) (h3:Bn W) (h4:ord.length<=40) (h5:(∀x,(x,x)∉ord)) (h6:H r=some (.tup [.ref D,.ref D2,.ref P])) (h7:H D2=some (.lst (ws.map λz=>V.ref z.1))) (h8:(∀z∈ws,CQ G H z.1 z.2)) (h9:(∀z∈ws,Nm W.ss z.2)) (h10:ws.length<=100) (h11:(∀z∈ws,Du W.ss z.2)) (h12:H P=some (.lst (ys.map λz=>V.ref z.1))) (h13:(∀z∈ys,CQ G H z.1 z.2)) (h14:ys.map (·.2)=CS W.ss ord (ws.map (·.2)) (ws.map (·.2))) (h15:H O=some (.lst (os.map λz=>V.ref z.1))) (h16:(∀z∈os,FK G H z.1 z.2)) (h17:(∀z∈os,Nm W.ss z.2.1)) (h18:∀(v:Addr)(a:C')(w:Option Wt)(H':Hp),Ac H H'->Ce W ord (ws.map (·.2)) (os.map (·.2)) at_=(a,w)->Bd G H' (.ref v) (.tup [CW a,HZ w])->Q (.ref v) H'):La K vs H Q
def MV (K:Ah):Sp:=λvs H Q ζ=>La K vs H Q
variable (P w K mg base) in
abbrev Iy:Prop:=BG P w K mg base "met" 4 ["net", "answers", "table", "owed", "look", "at"] (MV K)
theorem i0(B:BH mg)(a3:UE P w K mg base)(a4:UF P w K mg base)(a5:UG P w K mg base)(F:Bu K "met" "met" M6 f fd)(hm:mg "met" = some (.ref f)):Iy P w K mg base:=by
 refine BZ F hm J7 (λm ai av aw h=>?_) (λaL A aN s ai m av aw hr h=>?_);obtain⟨R,A,t,af,aj,ak,D2,P,F,G,W,an,ord,a,p,S,at_,rfl,_⟩:=h;rfl
 . obtain⟨R,A,t,af,aj,ak,D2,P,F,G,W,an,ord,a,p,S,at_,rfl,hC,TB,sm,a1,irr,er,a6,hw,a7,lw,a8,eP,hy,N,eO,ho,a9,q⟩:=h
   obtain⟨ax,ay,az,us,Gs,Es,ts,qt,qs,eN,N3⟩:=hC.net
   have ao:∀z∈p,Du W.ss z.2:=λz h=>by
    have g:z.2∈p.map (·.2):=A3.mpr ⟨z,h,rfl⟩;rw[N] at g;obtain⟨aa,r,h3⟩:=A3.mp (Qi g);rw[<-h3];exact a8 aa r
   have ly:p.length<=100:=by
    have g:=BJ List.length N;have r:=ZY (ss:=W.ss) (ord:=ord) (all:=a.map (·.2)) (l:=a.map (·.2));rw[An] at g r;lia
   refine⟨_,(Ao (Eb (pv 4) (Cq (n:=3) rfl (AI (AA (i:=6) J7.nd) (AI (AA (i:=7) J7.nd) (AI (AA (i:=8) J7.nd) Cp)))))
    (Ao (AX (i:=9) J7.nd (A9 a3 (Ab (pv 0) (Ab (pv 2) (Ab (pv 7) (Ab (pv 3) Af))))))
    (Ao (Bj (F8 (Gy (pv 9))) (At (AX (i:=9) J7.nd (A9 a4 (Ab (pv 0) (Ab (pv 1) (Ab (pv 8) Af)))))) Bm)
    (Ao (Bj (F8 (NM (pv 9))) (Ao (Eb (pv 9) (Cq (n:=2) rfl (AI (AA (i:=10) J7.nd) (AI (AA (i:=11) J7.nd) Cp))))
     (At (AW (Bx (Ab GR (Ab (Bx (Ab (pv 5) (Ab (pv 10) (Ab (pv 11) Af)))) Af)))))) Bm)
    (Ao (AX (i:=12) J7.nd (G9 rfl GK (Dk (pv 8)) (λζ ζ ζ ζ ζ=>(AA (i:=0) GK.nd)) (λζ ζ ζ ζ ζ=>IK) (λζ ζ ζ ζ ζ=>(A9 a5 (Ab (pv 1) (Ab (pv 2) (Ab (pv 0) Af)))))))
    (Ao (Bj (Fn (BE (YN rfl) B.b_all (Ab (G9 rfl GL (Dk (pv 12)) (λζ ζ ζ ζ ζ=>(AA (i:=0) GL.nd)) (λζ ζ ζ ζ ζ=>IK) (λζ ζ ζ ζ ζ=>(RO (Gy (pv 0))))) Af))) (At (AW (Bx (Ab (Bx (Ab B6 (Ab (pv 5) Af))) (Ab GR Af))))) Bm)
    (Ao (Bj (Fn (BE (Wh rfl) B.b_any (Ab (G9 (te:=GV U1 (B5 0) (GV (KE K) (B5 1) (tC (.int ((0:Nat):Int))))) rfl GN (Dk (pv 12)) (λζ ζ ζ ζ ζ=>(AA (i:=0) GN.nd)) (λζ ζ ζ ζ ζ=>IK) (λζ ζ ζ ζ ζ=>(Jc KA (pv 0) (Ay Az (pv 1) Ai) (Bp _)))) Af))) (At (AW (Bx (Ab (Bx (Ab B6 (Ab (pv 5) Af))) (Ab GR Af))))) Bm)
    (At (AW (Bx (Ab (Bx (Ab B6 (Ab (Ay Az (pv 12) Ai) Af))) (Ab GR Af)))))))))))),?_⟩
   (try dsimp only[AG,Cx.nox,Cx.wish]);refine⟨_,Ap.of er,rfl,?_⟩;refine⟨R,ax,ay,az,t,D2,af,us,Gs,Es,W.ss,F,G,W.sts,an,ord,a,S,rfl,eN,N3.sc,TB,a1,irr,a6,hw,a7,lw,eO,ho,a9,λa2 aJ T ab=>?_⟩;refine AU ?_;cbv;refine HF (λσ' H=>∃v,σ'=[some (.ref R),some (.ref A),some (.ref t),some (.ref af),some (.ref aj),some (.int at_),some (.ref ak),some (.ref D2),some (.ref P),some v,none,none,none]/\Ac ai H/\Tp G H v (Ew W ord (a.map (·.2)) (S.map (·.2)))) ?_ (λaK hN=>?_);rotate_left
   cases e:FL W.ss ord (a.map (·.2)) (S.map (·.2)) with
   |none =>
     rw[e] at ab;obtain rfl:a2=.non:=ab;refine⟨rfl,Am (λζ=>?_) (λh=>absurd (A7 rfl) h)⟩;refine⟨R,A,t,P,G,W,p,rfl,hC.same T,sm,T _ _ eP,λz h=>(hy z h).same T,ao,λv2 H2 u aq=>?_⟩;refine hN _ _ ⟨v2,rfl,T.trans u,?_⟩;unfold Ew;rw[e];rw[N] at aq;exact aq
   |some o =>
     rw[e] at ab;obtain⟨al,l,rfl,g,r⟩:=ab;refine⟨rfl,Am (λh=>absurd (Bi h) (by simp)) (λζ=>?_)⟩;refine hN _ _ ⟨_,rfl,T,?_⟩;unfold Ew;rw[e];exact⟨al,l,rfl,g,r⟩
   rintro σ' H2 ⟨v,rfl,u,j⟩
   cases e:Ew W ord (a.map (·.2)) (S.map (·.2)) with
   |some o =>
     rw[e] at j;obtain⟨al,l,rfl,g,r⟩:=j;refine⟨rfl,Am (λζ=>?_) (λh=>absurd rfl h)⟩;refine⟨_,Ap.of g,rfl,?_⟩;refine⟨Jv,λJ D=>?_⟩;obtain⟨H3,aA,x,e3⟩:=new_at (o:=.tup [.int at_,.ref l,.int o.2]) D;rw[<-aA];refine⟨Ca,λy E=>?_⟩;have c:=Bf (o:=.tup [.non,.ref J]) E;exact q y _ _ _ ((u.trans x).trans c) (Nn e) (.tup Aa (.cons .non (.cons (.tup (c _ _ e3) (.cons (.int _) (.cons ((r.same x).same c).own (.cons (.int _) .nil)))) .nil)))
   |none =>
     rw[e] at j;obtain rfl:v=.non:=j;refine⟨rfl,Am (λh=>absurd h (by decide)) (λζ=>?_)⟩;have aB:=Tr (Wx e)
     refine⟨⟨_,Ae.of (u _ _ eP)⟩,SF (xs:=p.map λz=>V.ref z.1) (λM i m H=>Ac H2 H/\H M=some (.lst m)/\m=((p.map (·.2)).take i).map λw=>Ef (Bz W w))
      (λM hM=>⟨Bf hM,Aa,by rw[Er];rfl⟩) (λM i m H aC=>by obtain⟨s,_⟩:=aC;exact Ae.of (s _ _ (u _ _ eP))) (λM i aa m H3 RR hM aD j k=>?_) (λM m H3 hM j=>?_)⟩
     obtain⟨x,I,rfl⟩:=j;obtain⟨z,ar,rfl⟩:=getm aD;have mz:=Bl ar;have O:=u.trans x;have mo:z.2∈CS W.ss ord (a.map (·.2)) (a.map (·.2)):=by rw[<-N];exact A3.mpr ⟨z,mz,rfl⟩
     refine⟨R,A,t,z.1,G,W,z.2,rfl,hC.same O,sm,(hy z mz).same O,ao z mz,aB _ mo,?_⟩;refine k _ _ I ?_ ⟨λb o e=>?_,Aa,?_⟩;rw[An,FN,An];exact BK (by lia);rw[AE (AK e hM)];exact x _ _ e;rw[DV,Bh,ar,Br];rfl
     obtain⟨x,I,rfl⟩:=j;rw[An,<-An (f:=(·.2)),Ej,N] at I;generalize ag:CS W.ss ord (a.map (·.2)) (a.map (·.2))=d at *
     have ls:d.length<=100:=by rw[<-N,An];exact ly
     have O:=u.trans x;refine AU ?_;cbv;refine⟨⟨_,Ae.of I⟩,Sw (xs:=d.map λw=>Ef (Bz W w)) (λv=>V.bl (decide (v=V.non))) (by rw[An];exact Dm (BK (by lia))) (Ae.of I) (λa0 aa H4 D4 R4 aM c aE k4=>(k4 _ (Ac.refl _))) (λH4 D4 c aE e4=>?_)⟩;refine⟨D4,(d.map λw=>Ef (Bz W w)).map λv=>decide (v=V.non),rfl,Ae.of (by rw[e4,DK (f:=λv=>decide (v=V.non))];rfl),rfl,Am (λh=>?_) (λh=>?_)⟩;refine⟨Ca,λJ D=>?_⟩;obtain⟨H5,aF,C,e5⟩:=new_at (o:=.tup [.str "none",.int at_]) D;rw[<-aF];refine⟨Ca,λy E=>?_⟩;have L:=Bf (o:=.tup [.ref J,.non]) E;refine q y (some ("none",at_)) none _ (((O.trans c).trans C).trans L) ?_ (.tup Aa (.cons (.tup (L _ _ e5) (.cons (.str _) (.cons (.int _) .nil))) (.cons .non .nil)));rw[JI e,ag,Ti (FX.mp h)];have U:¬∀w∈d,Bz W w=none:=λz=>h (FX.mpr z)
     cases Q:d with
     |nil=>rw[Q] at U;exact absurd (λw hw=>by cases hw) U
     |cons X r0 =>
       have ae:=c _ _ I;have h0:Bv (d.map λw=>Ef (Bz W w)) ((0:Nat):Int)=some (Ef (Bz W X)):=BX (by rw[Q];rfl);refine⟨⟨_,Ae.of ae⟩,Sw (xs:=d.map λw=>Ef (Bz W w)) (λv=>V.bl (!decide (v=Ef (Bz W X)))) (by rw[An];exact Dm (BK (by lia))) (Ae.of ae) (λa0 aa H5 D5 R5 aG C aH k5=>?_) (λH5 D5 C aH e5=>?_)⟩;obtain⟨w,_,rfl⟩:=getm aG;exact Or.inl ⟨_,_,Ae.of (C _ _ ae),h0,cC _ _,k5 _ (Ac.refl _)⟩;refine⟨D5,(d.map λw=>Ef (Bz W w)).map λv=>!decide (v=Ef (Bz W X)),rfl,Ae.of (by rw[e5,DK (f:=λv=>!decide (v=Ef (Bz W X)))];rfl),rfl,Am (λh5=>?_) (λh5=>?_)⟩;refine⟨Ca,λJ D=>?_⟩;obtain⟨H6,ah,L,e6⟩:=new_at (o:=.tup [.str "torn",.int at_]) D;rw[<-ah];refine⟨Ca,λy E=>?_⟩;have Y:=Bf (o:=.tup [.ref J,.non]) E;refine q y (some ("torn",at_)) none _ ((((O.trans c).trans C).trans L).trans Y) ?_ (.tup Aa (.cons (.tup (Y _ _ e6) (.cons (.str _) (.cons (.int _) .nil))) (.cons .non .nil)));have Z:=H1.mp h5;rw[Q] at U Z;rw[JI e,ag,Q,Tj U Z];have Z:∀v∈d,Bz W v=Bz W X:=Classical.byContradiction λz=>h5 (H1.mpr z);have au:=U;rw[Q] at au Z;obtain⟨n,en,ea⟩:=Tl (at_:=at_) au Z;have aI:=C _ _ ae;rw[en] at h0;refine Or.inl ⟨_,.int n,Ae.of aI,h0,Ca,λJ D=>?_⟩;obtain⟨H6,ah,L,e6⟩:=new_at (o:=.tup [.str "thing",.int n]) D;rw[<-ah];refine⟨Ca,λy E=>?_⟩;have Y:=Bf (o:=.tup [.ref J,.non]) E;refine q y (some ("thing",n)) none _ ((((O.trans c).trans C).trans L).trans Y) ?_ (.tup Aa (.cons (.tup (Y _ _ e6) (.cons (.str _) (.cons (.int _) .nil))) (.cons .non .nil)));rw[JI e,ag,Q,ea]
inductive C6 (K:Ah) (vs:List V) (H:Hp) (Q:VK):Prop where
 |mk (nt A t D:Addr) (F:Addr->Prop) (W:Wd) (zs:List (Addr×AQ)) (h0:vs=[.ref nt,.ref A,.ref t,.ref D]) (h1:Bq K H nt A t W) (h2:B2 W) (h3:H D=some (.lst (zs.map λz=>V.ref z.1))) (h4:(∀z∈zs,DP F H z.1 z.2)) (h5:(∀z∈zs,Cc W z.2)) (h6:zs.length<=62) (h7:(Gd W (zs.map (·.2))).length<=62) (h8:∀(D2:Addr)(ws:List (Addr×Ow))(H':Hp),H D2=none->Ac H H'->H' D2=some (.lst (ws.map λz=>V.ref z.1))->(∀z∈ws,FK (λl=>H l=none/\l≠D2) H' z.1 z.2)->OC W (zs.map (·.2)) (ws.map (·.2))->Q (.ref D2) H'):C6 K vs H Q
def i3 (K:Ah):Sp:=λvs H Q ζ=>C6 K vs H Q
variable (P w K mg base) in
abbrev UH:Prop:=BG P w K mg base "owed_behind" 5 ["net", "answers", "table", "begun"] (i3 K)
theorem i4(B:BH mg)(a6:QV P w K mg base)(F:Bu K "owed_behind" "owed_behind" Rz f fd)(D:mg "owed_behind" = some (.ref f)):UH P w K mg base:=by
 refine BZ F D J8 (λa H a0 a1 h=>?_) (λaK A aT s H a a0 a1 hr h=>?_);obtain⟨Z,A,t,af,F,W,E,rfl,_⟩:=h;rfl
 . obtain⟨Z,A,t,af,F,W,E,rfl,hC,ok,eD,hz,a7,aL,aM,a2⟩:=h
   refine⟨_,(Ao (AX (i:=4) J8.nd (CC Af))
    (Ao (CP CB rfl (Dk (pv 3)) (Cq (n:=3) rfl (AI (AA (i:=5) J8.nd) (AI (AA (i:=6) J8.nd) (AI (AA (i:=7) J8.nd) Cp)))) (At (CP CB rfl (Dk (A9 a6 (Ab (pv 0) (Ab (pv 1) (Ab (pv 2) (Ab (pv 6) (Ab (pv 7) Af))))))) (Cq (n:=4) rfl (AI (AA (i:=8) J8.nd) (AI (AA (i:=9) J8.nd) (AI (AA (i:=10) J8.nd) (AI (AA (i:=11) J8.nd) Cp))))) (At (Bj (Bt CF (pv 9) B6 (Bp _)) (At (Db (DN Dp EE EF EH (pv 4) (Ab (Bx (Ab (AF PJ (pv 5) (CC (Ab (pv 8) Af))) (Ab (pv 10) Af))) Af)))) Bm)))))
    (At (AW (BE (Zr Nk FU hr.units (by decide) (by decide)) B.b_sorted (Ab (pv 4) Af)))))),?_⟩
   (try dsimp only[AG,Cx.nox,Cx.wish]);refine⟨by decide,λP hP=>?_⟩;obtain⟨aq,a8,s1,av⟩:=new_at (o:=.lst []) hP;rw[<-a8];have ag:∀{p:Hp},Keeps (·=P) aq p->Ac H p:=λk x o e=>k.at_ _ _ (s1 _ _ e) (AK e hP)
   refine⟨⟨_,Ae.of (s1 _ _ eD)⟩,EZ (xs:=E.map λz=>V.ref z.1) (λi σ p=>∃u5 u6 u7 J M N O u,σ=[some (.ref Z),some (.ref A),some (.ref t),some (.ref af),some (.ref P),u5,u6,u7,J,M,N,O]/\Keeps (·=P) aq p/\p P=some (.lst (u.map λz:Addr×Ow=>V.ref z.1))/\(∀z∈u,FK (λl=>H l=none/\l≠P) p z.1 z.2)/\u.map (·.2)=Gd W ((E.map (·.2)).take i))
    ⟨none,none,none,none,none,none,none,[],rfl,Keeps.refl λx o m e=>by rw[m,av] at e;exact⟨_,(AO e).symm⟩,av,λz hz=>by simp at hz,by rw[Er];rfl⟩ (λi σ p ζ ah=>by obtain⟨_,_,_,_,_,_,_,_,_,k,_⟩:=ah;exact Ae.of (ag k _ _ eD)) ?_ ?_⟩
   rotate_left;refine λσ H2 Q=>AM λNz d=>?_;obtain⟨u5,u6,u7,J,M,N,O,u,rfl,T,X,hw,D⟩:=Q;refine d ?_;clear d;rw[An,<-An (f:=(·.2)),Ej] at D;have lw:u.length<=62:=by have:=BJ List.length D;rw[An] at this;lia
   refine⟨P,u.map λz=>(V.ref z.1,z.2),rfl,?_,by rw[An];lia,λy r=>?_,λD2 a9 hp hs ai=>?_⟩;rw[DK];exact Ae.of X;obtain⟨z,aj,rfl⟩:=A3.mp r;exact(hw z aj).dt;obtain⟨a,r1,r2,r3,r4⟩:=Wb (c:=P6) hp;have q:=Bf (o:=.lst (a9.map (·.1))) ai;rw[r1] at q ⊢;rw[r2] at hs;have I:=ag T;refine a2 D2 a _ (I.free ai) (I.trans q) Aa (λz aj=>?_) ⟨by rw[<-D];exact r3,hs⟩;refine((hw z (r4 z aj)).mono' ?_).same q;intro x o ex hx;exact⟨hx.1,λy=>by rw[y,ai] at ex;cases ex⟩;refine λi y σ H2 r Q=>AM λNz d=>?_;obtain⟨u5,u6,u7,J,M,N,O,u,rfl,T,X,hw,D⟩:=Q;refine d ?_;clear d;obtain⟨z,ak,rfl⟩:=getm r;have aN:i<E.length:=(A8.mp ak).1;have mz:=Bl ak;have aa:=a7 z mz;have I:=ag T;refine AM λNz d=>?_;obtain⟨l,v,a5,au,e3,_⟩:=hz z mz;refine d ?_;clear d;have e1:=I _ _ a5;have aA:=aa.rng z.2.2.1 (by unfold AV;simp);have aB:(E.map (·.2))[i]?=some z.2:=by rw[Bh,ak];rfl
   have aO:v.length<=100:=by
    have:=KS W.ss.length (AV z.2) aa.nd aa.rng;rw[show(AV z.2).length=z.2.1.length+1 by unfold AV;simp] at this;have:=ok.s5;rw[e3.len];lia
   have aC:u.length<=8*i:=by
    have G:=BJ List.length D;rw[An] at G;have h2:=S4 (f:=λb=>(GG W b.2.1 b.2.2).filterMap (ow b)) (k:=8) ((E.map (·.2)).take i) λb=>Em (List.length_filterMap_le _ _) (Em (L6 W b.2.1 (DX W b.2.2) (BY W b.2.1) 0) (P4 ok b.2.1));rw[FN,An] at h2;unfold Gd at G;have h3:min i E.length=i:=(by lia);rw[h3] at h2;lia
   refine⟨_,Ap.of e1,rfl,?_⟩;refine⟨Z,A,t,W,z.2.2.1,z.2.2.2,rfl,hC.same I,ok,aA,aa.st,λa3 R H3 hG q eG aD aw=>⟨⟨_,Ae.of eG⟩,?_⟩⟩;have aE:a3≠P:=λy=>by rw[y,X] at hG;cases hG
   have aP:R.length<=8:=by
    have e1:=BJ List.length aw;have e2:=L6 W z.2.2.1 (DX W z.2.2.2) (BY W z.2.2.1) 0;have e3:=P4 ok z.2.2.1;rw[An] at e1;unfold GG at e1;lia
   refine EZ (xs:=R.map λz=>V.ref z.1) (λj σ p=>∃J M N O a,σ=[some (.ref Z),some (.ref A),some (.ref t),some (.ref af),some (.ref P),some (.ref l),some (.int z.2.2.1),some (.int z.2.2.2),J,M,N,O]/\Keeps (·=P) H3 p/\p P=some (.lst (a.map λz:Addr×Ow=>V.ref z.1))/\(∀z∈a,FK (λl=>H l=none/\l≠P) p z.1 z.2)/\a.map (·.2)=Gd W ((E.map (·.2)).take i)++((R.map (·.2)).take j).filterMap (ow z.2)/\a.length<=8*i+j)
    ⟨_,_,_,_,u,rfl,Keeps.refl λx o m e=>by rw[m,q _ _ X] at e;exact⟨_,(AO e).symm⟩,q _ _ X,λz h=>(hw z h).same q,by rw[D,Er];simp,aC⟩ (λj σ p ζ ah=>by obtain⟨_,_,_,_,_,_,k,_⟩:=ah;exact Ae.of (k.at_ _ _ eG aE)) ?_ ?_
   rotate_left;refine λσ H4 Q=>AM λNz d=>?_;obtain⟨J,M,N,O,a,rfl,C,S,ab,ae,_⟩:=Q;refine d ?_;clear d;refine⟨_,_,_,_,_,_,_,a,rfl,⟨λx o e n=>C.at_ _ _ (q _ _ (T.at_ x o e n)) n,T.ls⟩,S,ab,?_⟩;rw[Zw aB,ae,An,<-An (f:=(·.2)),Ej,aw];refine λj y σ H4 r Q=>AM λNz d=>?_;obtain⟨J,M,N,O,a,rfl,C,S,ab,ae,aQ⟩:=Q;refine d ?_;clear d;obtain⟨g,al,rfl⟩:=getm r;have aR:j<R.length:=(A8.mp al).1;obtain⟨m,an,ao⟩:=aD g (Bl al);have an:=C.tup an;have ao:=C.tup ao
   have ax:((R.map (·.2)).take (j+1)).filterMap (ow z.2)=((R.map (·.2)).take j).filterMap (ow z.2)++(ow z.2 g.2).toList:=by
    rw[DV,Bh,al];exact L8 _ _ _
   refine⟨_,Ap.of an,rfl,?_⟩;refine⟨rfl,rfl,Am (λG=>?_) (λG=>?_)⟩;rotate_left;refine⟨_,_,_,_,a,rfl,C,S,ab,?_,by lia⟩;rw[ax,JC (λe=>G (A7 (by rw[e]))),ae];simp;have G:g.2.2.1.1=("open" : Str):=V.str.inj (Bi G);have aS:Ac H2 H3:=q;have aF:H4 l=some (.lst (v.map V.ref)):=C.at_ _ _ (q _ _ (I _ _ au)) (AK au hP);have aG:RT GY H4 v z.2.1:=(e3.same (I.trans q)).keeps C;refine⟨Or.inl ⟨rfl,_,Ae.of S⟩,HH,λa4 hM=>?_⟩;obtain⟨H5,aH,s5,eM⟩:=new_at (o:=.lst [.ref m]) hM;rw[<-aH];refine⟨l,a4,_,_,rfl,rfl,s5 _ _ aF,eM,by rw[An];exact Dm (BK (by show v.length+1<=1000;lia)),λL hL=>?_⟩
   have aI:H L=none:=by
    have h4:=s5.free hL
    cases e:H L with
    |none=>rfl
    |some o=>rw[C.at_ _ _ (q _ _ (I _ _ e)) (AK e hP)] at h4;cases h4
   have ay:L≠P:=λy=>by rw[y,s5 _ _ S] at hL;cases hL
   have s6:=Bf (o:=.lst (v.map V.ref++[.ref m])) hL;have eL:(upd H5 L (.lst (v.map V.ref++[.ref m]))) L=some (.lst ((v++[m]).map V.ref)):=by rw[Aa,Br];rfl
   generalize upd H5 L (.lst (v.map V.ref++[.ref m]))=H6 at s6 eL ⊢;refine⟨Ca,λar hr=>?_⟩;obtain⟨H7,aJ,s7,er⟩:=new_at (o:=.tup [.ref L,.int g.2.2.1.2]) hr;rw[<-aJ];have Y:=(s5.trans s6).trans s7;have az:=Y _ _ S;have U:Keeps (·=P) H7 (upd H7 P (.lst (a.map (λz=>V.ref z.1)++[.ref ar]))):=Keeps.one az;refine⟨_,az,by rw[An];exact BK (by lia),?_⟩;refine⟨_,_,_,_,a++[(ar,(z.2.1++[g.2.1],g.2.2.1.2))],rfl,(C.same Y).set rfl,by rw[Aa,Br];rfl,λy r=>?_,?_,by rw[AY,DJ];lia⟩;rcases BI.mp r with r|r;exact((ab y r).same Y).keeps U λx hx=>hx.2;rw[AZ.mp r];refine⟨L,v++[m],U.tup er,U.at_ _ _ (s7 _ _ eL) ay,?_,aI,ay⟩;exact RT.snoc ((aG.same Y).keeps U) (U.tup (Y _ _ ao));rw[ax,JB G,Br,ae,F5];rfl
def both{A G:Prop}(k:A->G)(a:A):G:=k a
def Pa:([]:List V).length+1+1+1+1<=sizeLine:=by decide
inductive Fe (K:Ah) (vs:List V) (H:Hp) (Q:VK):Prop where
 |mk (nt A t ask u:Addr) (F:Addr->Prop) (W:Wd) (inn:Int) (ord:A') (q:Qu) (h0:vs=[.ref nt,.ref A,.ref t,.ref ask]) (h1:Bq K H nt A t W) (h2:FR K F H t W.sts inn ord) (h3:B2 W) (h4:Bn W) (h5:ord.length<=40) (h6:(∀x,(x,x)∉ord)) (h7:(0<=inn/\inn<W.sts.length)) (h8:H ask=some (.tup [.int q.1,.int q.2.1,.ref u])) (h9:H u=some (.tup (q.2.2.map V.str))) (h10:(0<=q.1/\q.1<W.ss.length)) (h11:(0<=q.2.1/\q.2.1<W.sts.length)) (h12:1<=q.2.2.length) (h13:q.2.2.length<=8) (h14:∀(r L T:Addr)(av wv:V)(lv:List V)(a:C')(w:Option Wt)(ls:List Lk)(ts:List Int)(H':Hp),Ac H H'->H' r=some (.tup [av,wv,.ref L,.ref T])->H L=none->H' L=some (.lst lv)->H' T=some (.lst (ts.map V.int))->Bd (λx=>H x=none) H' av (CW a)->Bd (λx=>H x=none) H' wv (HZ w)->Ax (λx=>H x=none/\x≠L) H' lv (ls.map No)->LU W inn ord q.1 q.2.1 q.2.2 0 a w ls ts->Q (.ref r) H'):Fe K vs H Q
def i6 (K:Ah):Sp:=λvs H Q ζ=>Fe K vs H Q
variable (P w K mg base) in
abbrev Pb:Prop:=BG P w K mg base "look_up" 7 ["net", "answers", "table", "asked"] (i6 K)
theorem i7(B:BH mg)(b8:Uy P w K mg base)(b9:UD P w K mg base)(bA:Iy P w K mg base)(bB:UH P w K mg base)(bC:QU P w K mg base)(F:Bu K "look_up" "look_up" RA f fd)(hm:mg "look_up" = some (.ref f)):Pb P w K mg base:=by
 refine BZ F hm Gr (λvs H aP bx h=>?_) (λcl A cx s H vs aP bx hr h=>?_);obtain⟨X,A,t,aS,a0,F,W,Z,aa,q,rfl,_⟩:=h;rfl
 . obtain⟨X,A,t,aS,a0,F,W,Z,aa,q,rfl,hC,TB,ok,sm,aR,irr,ca,eq,eu,bD,bE,cm,cn,qk⟩:=h
   obtain⟨bz,Tn,b0,us,Gs,Es,cp,qt,qs,eN,N3⟩:=hC.net
   refine⟨_,(Ao (Eb (pv 3) (Cq (n:=3) rfl (AI (AA (i:=4) Gr.nd) (AI (AA (i:=5) Gr.nd) (AI (AA (i:=6) Gr.nd) Cp)))))
    (Ao (AX (i:=7) Gr.nd (CC Af))
    (Ao (AX (i:=8) Gr.nd (CC Af))
    (At (CP CB rfl (Z2 rfl B.b_enumerate (Ab (pv 6) Af)) (Cq (n:=2) rfl (AI (AA (i:=9) Gr.nd) (AI (AA (i:=10) Gr.nd) Cp))) (Ao (AX (i:=11) Gr.nd (A9 b8 (Ab (pv 0) (Ab (pv 1) (Ab (pv 2) (Ab (pv 4) (Ab (pv 5) Af)))))))
     (Ao (Db (DN Dp EE EF EH (pv 7) (Ab (A9 b9 (Ab (pv 0) (Ab (pv 2) (Ab (pv 11) (Ab (pv 10) Af))))) Af)))
     (Ao (Eb (A9 bA (Ab (pv 0) (Ab (pv 1) (Ab (pv 2) (Ab (A9 bB (Ab (pv 0) (Ab (pv 1) (Ab (pv 2) (Ab (pv 11) Af))))) (Ab (Ay Az (pv 7) (Pz PB Ai)) (Ab (pv 9) Af))))))) (Cq (n:=2) rfl (AI (AA (i:=12) Gr.nd) (AI (AA (i:=13) Gr.nd) Cp))))
     (Ao (Bj (PW.pt (I0 (F8 (Gy (pv 12))) (I0 (Bt KA (Ay Az (pv 12) Ai) B6 (Bp _)) (Lh (Bt CF (pv 9) (AF R6 (BE DM B.b_len (Ab (pv 6) Af)) Ai) (Bp _)))))) (At (AW (Bx (Ab (pv 12) (Ab (pv 13) (Ab (pv 7) (Ab (pv 8) Af))))))) Bm)
     (Ao (Db (DN Dp EE EF EH (pv 8) (Ab (Ay Az (pv 12) Ai) Af)))
     (Ao (Eb (A9 bC (Ab (pv 0) (Ab (pv 1) (Ab (Ay Az (pv 12) Ai) Af)))) (Cq (n:=2) rfl (AI (AA (i:=14) Gr.nd) (AI (AA (i:=15) Gr.nd) Cp))))
     (Ao (Bj (Bt CF (pv 14) B6 (Bp _)) (At (AW (Bx (Ab GR (Ab (Bx (Ab (pv 9) (Ab (CC Af) (Ab (pv 15) Af)))) (Ab (pv 7) (Ab (pv 8) Af))))))) Bm)
     (Ao (Bj (Bt CF (pv 14) B6 (Bp _)) (At (AW (Bx (Ab (Bx (Ab B6 (Ab (AF Ho (pv 9) Ai) Af))) (Ab GR (Ab (pv 7) (Ab (pv 8) Af))))))) Bm)
     (Ao (AX (i:=4) Gr.nd (pv 15))
     (At (AX (i:=5) Gr.nd (Ay Az (pv 2) Ai))))))))))))))))),?_⟩
   (try dsimp only[AG,Cx.nox,Cx.wish]);refine⟨_,Ap.of eq,rfl,?_⟩;refine⟨by decide,λL hL=>?_⟩;obtain⟨aQ,bF,s1,a2⟩:=new_at (o:=.lst []) hL;rw[<-bF];refine AU ?_;cbv;refine⟨by decide,λT hT=>?_⟩;have s2:=Bf (o:=.lst []) hT;have aT:(upd aQ T (.lst [])) T=some (.lst []):=Aa;have aU:=s2 _ _ a2;generalize upd aQ T (.lst [])=H2 at s2 aT aU ⊢;have aV:L≠T:=λz=>by rw[z,hT] at a2;cases a2
   have bG:H T=none:=s1.free hT;refine AU ?_;cbv
   refine⟨a0,rfl,⟨_,Ap.of ((s1.trans s2) _ _ eu)⟩,Z3 (xs:=q.2.2.map V.str) (λi σ H'=>∃(C D:Int)(u9 aW aX aY aZ ba bb:Option V)(d:List V)(ls:List Lk)(l:List Int),σ=[some (.ref X),some (.ref A),some (.ref t),some (.ref aS),some (.int C),some (.int D),some (.ref a0),some (.ref L),some (.ref T),u9,aW,aX,aY,aZ,ba,bb]/\Ac H H'/\H' L=some (.lst d)/\H' T=some (.lst (l.map V.int))/\Ax (λx=>H x=none/\x≠L/\x≠T) H' d (ls.map No)/\d.length=i/\l.length=i/\i<q.2.2.length/\(0<=C/\C<W.ss.length)/\(0<=D/\D<W.sts.length)/\∀a w ak al,LU W Z aa C D (q.2.2.drop i) i a w ak al->LU W Z aa q.1 q.2.1 q.2.2 0 a w (ls++ak) (l++al))
    ⟨_,_,none,none,none,none,none,none,none,[],[],[],rfl,s1.trans s2,aU,aT,.nil,rfl,rfl,by lia,bD,bE,λa w ak al z=>z⟩ (λi σ H' bH=>by obtain⟨_,_,_,_,_,_,_,_,_,_,_,_,_,s,_⟩:=bH;exact Ap.of (s _ _ eu)) ?_ ?_⟩
   rotate_left;refine λσ H' a3=>AM λNz Q=>?_;obtain⟨_,_,_,_,_,_,_,_,_,_,_,_,_,_,_,_,_,_,_,hi,_⟩:=a3;refine Q ?_;clear Q;rw[An] at hi;exact absurd hi (Gi _);refine λi xv Te σ H3 hx bI a3=>AM λNz Q=>?_;obtain⟨C,D,u9,aW,aX,aY,aZ,ba,bb,d,ls,l,rfl,s3,bJ,bK,bL,bM,bN,hi,R,S,ay⟩:=a3;refine Q ?_;clear Q;refine GJ ?_;intro Nx Cy;obtain⟨x,bO,rfl⟩:=getm hx;have ag:=Tq bO;obtain⟨H4,bP,s4,bQ⟩:=new_at (o:=.tup [.int i,.str x]) bI;rw[<-bP];have an:=s3.trans s4;have ao:=s4 _ _ bJ;have a4:=s4 _ _ bK;refine⟨_,Ap.of bQ,rfl,?_⟩;refine⟨X,A,t,W,C,D,rfl,hC.same an,ok,R,S,λaj g H5 hD s5 eD hz E=>?_⟩;refine AU ?_;cbv;have ab:=an.trans s5;have U:=s5 _ _ ao;have ah:=s5 _ _ a4;have EY:∀{Hn:Hp}{x:Addr},Ac H Hn->Hn L=some (.lst d)->Hn T=some (.lst (l.map V.int))->Hn x=none->H x=none/\x≠L/\x≠T:=λ{Hn x}s Y e2 h=>⟨s.free h,λz=>(by rw[z,Y] at h;cases h),λz=>(by rw[z,e2] at h;cases h)⟩;refine⟨Or.inl ⟨rfl,_,Ae.of U⟩,X,A,t,aj,x,F,_,W,Z,aa,C,D,g,rfl,hC.same ab,TB.same ab,ok,sm,aR,irr,R,S,eD,hz,E,λr D2 P e u H6 s6 er a5 bc hw hF hP eP c bd=>?_⟩;have bR:=ab.trans s6;have be:=s6 _ _ U;have bS:=s6 _ _ ah;have v:Keeps (·=L) H6 (upd H6 L (.lst (d++[.ref r]))):=Keeps.one be;have aq:Ac H (upd H6 L (.lst (d++[.ref r]))):=λb o af=>by rw[AE (AK af hL)];exact bR _ _ af
   have a6:(upd H6 L (.lst (d++[.ref r]))) L=some (.lst (d++[.ref r])):=Aa;refine⟨_,be,BK (by lia),?_⟩;generalize upd H6 L (.lst (d++[.ref r]))=N at v aq a6 ⊢;have nD:aj≠L:=λz=>by rw[z,ao] at hD;cases hD
   have bT:D2≠L:=λz=>by rw[z,U] at a5;cases a5
   have nP:P≠L:=λz=>by rw[z,U] at hP;cases hP
   have bf:=v.at_ _ _ bS (Ne.symm aV);have a7:=v.tup er;have a8:=v.at_ _ _ (s6 _ _ eD) nD;have aK:=v.at_ _ _ bc bT;have a9:=v.at_ _ _ eP nP;have aA:∀z∈g,DP (λx=>H x=none/\x≠L/\x≠T) N z.1 z.2:=λz h=>(((hz z h).mono' λy o ζ c=>EY an ao a4 c.1).same s6).keeps v λy c=>c.2.1;have aB:∀z∈e,CQ (λx=>H x=none/\x≠L/\x≠T) N z.1 z.2:=λz h=>((hw z h).mono' λy o ζ c=>EY ab U ah c).keeps v λy c=>c.2.1;have aC:∀z∈u,CQ (λx=>H x=none/\x≠L/\x≠T) N z.1 z.2:=λz h=>((c z h).mono' λy o ζ c=>EY ab U ah c).keeps v λy c=>c.2.1;have bs:Ax (λx=>H x=none/\x≠L/\x≠T) N d (ls.map No):=(((bL.same s4).same s5).same s6).keeps v λy c=>c.2.1;have cq:=E;have bg:=E.few;rw[An] at bg;refine⟨X,A,t,aj,_,W,g,rfl,hC.same aq,ok,a8,aA,λz bU=>((E.mem _).mp (A3.mpr ⟨z,bU,rfl⟩)).ok ok R S,bg,sm.owd C D _ R S E,λb1 a1 H8 hO G eO ho bh=>?_⟩;have aD:=aq.trans G;have bi:=G _ _ a6;have bV:=G _ _ bf;have bj:∀z∈e,z.2∈DY W x (g.map (·.2)):=λz h=>hF.perm.mem_iff.mp (A3.mpr ⟨z,h,rfl⟩)
   have lw:e.length<=100:=by
    have h1:=hF.perm.length_eq;have h2:=sm.fnd x C D _ R S E;rw[An] at h1;lia
   have bk:∀z∈e,Du W.ss z.2:=λz h=>To ok R S E (bj z h);have cb:∀{x:Addr},N x=none->H x=none/\x≠L/\x≠T:=λ{x}h=>⟨aq.free h,λz=>(by rw[z,a6] at h;cases h),λz=>(by rw[z,bf] at h;cases h)⟩;refine Or.inl ⟨_,.ref r,Ae.of bi,S1 _ _,X,A,t,b1,r,aj,D2,P,F,(λx=>H x=none/\x≠L/\x≠T),W,Z,aa,e,u,a1,(i:Int),rfl,hC.same aD,TB.same aD,sm,aR,irr,G _ _ a7,G _ _ aK,λz h=>(aB z h).same G,λz h=>S6 ok R S E (bj z h),lw,bk,G _ _ a9,λz h=>(aC z h).same G,bd,eO,λz h=>(ho z h).mono' λy o ζ c=>cb c.1,λz h=>Zz ok R S E (bh.perm.mem_iff.mp (A3.mpr ⟨z,h,rfl⟩)),λm a w I s9 bt hm=>?_⟩;have aE:=aD.trans s9;have bl:=s9 _ _ bi;have ar:=s9 _ _ bV;obtain⟨av,wv,b2,ha,bW⟩:=hm.two;have LK:CH W aa C D x (g.map (·.2),e.map (·.2),u.map (·.2)) (a1.map (·.2)):=⟨E,hF,bd,bh⟩
   have bm:Bd (λx=>H x=none/\x≠L/\x≠T) I (.ref r) (No (g.map (·.2),e.map (·.2),u.map (·.2))):=by
    have b3:=EY an ao a4 hD;have b4:=EY ab U ah a5;have b5:=EY ab U ah hP
    have b6:Ax (λx=>H x=none/\x≠L/\x≠T) N (g.map λz=>V.ref z.1) ((g.map (·.2)).map DS.D):=by
     rw[DK];exact Ax.of_all λz h=>(aA z h).own
    have b7:Ax (λx=>H x=none/\x≠L/\x≠T) N (e.map λz=>V.ref z.1) ((e.map (·.2)).map CG.D):=by
     rw[DK];exact Ax.of_all λz h=>(aB z h).own
    have f3:Ax (λx=>H x=none/\x≠L/\x≠T) N (u.map λz=>V.ref z.1) ((u.map (·.2)).map CG.D):=by
     rw[DK];exact Ax.of_all λz h=>(aC z h).own
    exact((Bd.tup a7 (.cons (.lst a8 b3 b6) (.cons (.lst aK b4 b7) (.cons (.lst a9 b5 f3) .nil)))).same G).same s9
   have bu:Ax (λx=>H x=none/\x≠L/\x≠T) I (d++[.ref r]) ((ls++[(g.map (·.2),e.map (·.2),u.map (·.2))]).map No):=by
    rw[Br];exact((bs.same G).same s9).snoc bm
   clear aB aC aA bs bm hw c hz ho eD bc eP er a8 aK a9 a7 v;refine⟨_,Ap.of b2,rfl,?_⟩
   have au:((∀k,a≠some (("thing" : Str),k))\/q.2.2.drop (i+1)=[])->∀O,I O=none->aP (.ref O) (upd I O (.tup [av,wv,.ref L,.ref T])):=λcg O bX=>by
    have j:=Bf (o:=.tup [av,wv,.ref L,.ref T]) bX;refine qk O L T av wv (d++[.ref r]) a w _ l _ (aE.trans j) Aa hL (j _ _ bl) (j _ _ ar) ((ha.mono λζ ζ ζ h=>h.1).same j) ((bW.mono λζ ζ ζ h=>h.1).same j) ((bu.mono λζ ζ ζ h=>⟨h.1,h.2.1⟩).same j) ?_;have:=ay a w [(g.map (·.2),e.map (·.2),u.map (·.2))] [] (by rw[ag];exact .stop LK bt cg);rw[FH] at this;exact this
   cases a with
   |none =>
     obtain rfl:=ha.ansN;exact⟨rfl,Am (λζ=>CV ⟨Pa,au (.inl λk z=>(by cases z))⟩) (λh=>absurd (A7 rfl) h)⟩
   |some p =>
     obtain⟨pa,rfl,aF⟩:=ha.ansS;refine⟨rfl,Am (λh=>absurd (Bi h) (by simp)) (λζ=>?_)⟩;refine Or.inr (Or.inl ⟨_,.str p.1,Ap.of aF,rfl,rfl,rfl,Am (λh=>?_) (λh=>?_)⟩);refine CV ⟨Pa,au (.inl λk z=>?_)⟩;have:p.1=("thing" : Str):=BJ Prod.fst (AO z);rw[this] at h;simp at h
     have hp:p.1=("thing" : Str):=Classical.byContradiction λz=>h (by
      have:decide (V.str p.1=V.str "thing")=false:=Do λy=>z (V.str.inj y)
      rw[this];rfl)
     have az:Ce W aa (e.map (·.2)) (a1.map (·.2)) i=(some (("thing" : Str),p.2),w):=(by rw[bt,<-hp]);refine⟨_,Or.inr ⟨_,Ap.of (aE _ _ eu),rfl⟩,rfl,rfl,Am (λh2=>?_) (λh2=>?_)⟩;have e2:(i:Int)=((q.2.2.map V.str).length:Nat)-1:=V.int.inj (Bi h2);rw[An] at e2;exact⟨Pa,au (.inr (List.drop_eq_nil_of_le (by lia)))⟩
     have bn:i+1<q.2.2.length:=by
      refine Classical.byContradiction λz=>h2 (A7 ?_);rw[An];congr 1;lia
     clear au;have rng:=K0 ok sm (λck hv=>by obtain⟨z,h1,rfl⟩:=A3.mp hv;exact bk z h1) az;obtain⟨n,hn⟩:=DL rng.1;have bo:n<W.gs.length:=(by lia);have hg:=AC bo;have aw:Keeps (·=T) I (upd I T (.lst (l.map V.int++[.int p.2]))):=Keeps.one ar;have j:Ac H (upd I T (.lst (l.map V.int++[.int p.2]))):=λb o af=>by rw[AE (AK af bG)];exact aE _ _ af
     have bv:(upd I T (.lst (l.map V.int++[.int p.2]))) T=some (.lst ((l++[p.2]).map V.int)):=by rw[Aa,Br];rfl
     refine⟨Or.inl ⟨rfl,_,Ae.of ar⟩,Or.inr (Or.inl ⟨_,.int p.2,Ap.of aF,rfl,_,ar,by rw[An];exact BK (by lia),?_⟩)⟩;generalize upd I T (.lst (l.map V.int++[.int p.2]))=cs at aw j bv ⊢;have cc:=aw.at_ _ _ bl aV;have ch:=aw.tup aF;have cj:=bu.keeps aw λy c=>c.2.2;have cd:=hC.same j;refine Or.inr (Or.inl ⟨_,.int p.2,Ap.of ch,rfl,X,bz,Tn,b0,A,W.gs,W.as,p.2,n,W.gs[n],rfl,hn,hg,Ap.of (j _ _ eN),⟨_,Ae.of (j _ _ N3.et),(N3.tg.same j).dts⟩,cd.ans,ok.net,λb ct hb ax eb=>?_⟩);have ai:=j.trans ax;have aL:=ax _ _ cc;have aM:=ax _ _ bv;have aO:=cj.same ax
     have ei:CI W p.2=Dr W.gs W.as W.gs[n]:=by
      show(match W.gs[p.2.toNat]? with|some p=>Dr W.gs W.as p|none=>("no",0))=_
      rw[hn,Bo,hg]
     obtain⟨y2,O,bw⟩:∃y2 O,q.2.2.drop (i+1)=y2::O:=⟨_,_,M1 bn⟩;rw[bw] at ag;refine⟨_,Ap.of eb,rfl,?_⟩;generalize bp:Dr W.gs W.as W.gs[n]=J at *;refine⟨rfl,rfl,Am (λh3=>?_) (λh3=>?_)⟩
     have e3:J.1=("open" : Str):=V.str.inj (Bi h3);refine⟨by decide,λe0 bq=>?_⟩;obtain⟨bY,aN,aG,bZ⟩:=new_at (o:=.lst []) bq;rw[<-aN];refine⟨Jv,λY aH=>?_⟩;obtain⟨cu,cf,br,aI⟩:=new_at (o:=.tup [.int i,.ref e0,.int J.2]) aH;rw[<-cf];refine⟨Pa,λr3 aJ=>?_⟩;have ae:=Bf (o:=.tup [.non,.ref Y,.ref L,.ref T]) aJ;have M:=(aG.trans br).trans ae;refine qk r3 L T .non (.ref Y) (d++[.ref r]) none (some ((i:Int),[],J.2)) _ _ _ (ai.trans M) Aa hL (M _ _ aL) (M _ _ aM) .non (.tup (ae _ _ aI) (.cons (.int _) (.cons (.lst ((br.trans ae) _ _ bZ) (ai.free bq) .nil) (.cons (.int _) .nil)))) ((aO.mono λζ ζ ζ h=>⟨h.1,h.2.1⟩).same M) ?_;exact ay none (some ((i:Int),[],J.2)) [(g.map (·.2),e.map (·.2),u.map (·.2))] [p.2] (by rw[ag];exact .opn LK az (ei.trans (Prod.ext e3 rfl)));have e3:J.1≠("open" : Str):=λz=>h3 (A7 (by rw[z]));refine⟨rfl,rfl,Am (λh4=>?_) (λh4=>?_)⟩;have e4:J.1=("no" : Str):=V.str.inj (Bi h4);refine⟨Ca,λY aH=>?_⟩;obtain⟨bY,aN,aG,aI⟩:=new_at (o:=.tup [.str "none",.int ((i:Int)+1)]) aH;rw[<-aN];refine⟨Pa,λr3 aJ=>?_⟩;have ae:=Bf (o:=.tup [.ref Y,.non,.ref L,.ref T]) aJ;have M:=aG.trans ae;refine qk r3 L T (.ref Y) .non (d++[.ref r]) (some (("none" : Str),(i:Int)+1)) none _ _ _ (ai.trans M) Aa hL (M _ _ aL) (M _ _ aM) (.tup (ae _ _ aI) (.cons (.str _) (.cons (.int _) .nil))) .non ((aO.mono λζ ζ ζ h=>⟨h.1,h.2.1⟩).same M) ?_;exact ay (some (("none" : Str),(i:Int)+1)) none [(g.map (·.2),e.map (·.2),u.map (·.2))] [p.2] (by rw[ag];exact .no LK az (ei.trans (Prod.ext e4 rfl)));have e4:J.1≠("no" : Str):=λz=>h4 (A7 (by rw[z]))
     have e5:J.1=("to" : Str):=by
      have:=cG W.gs W.as W.gs[n];rw[bp] at this;rcases this with h|h|h;exact h;exact absurd h e3;exact absurd h e4
     have rg:=S0 ok (Ep bo) bp e5;refine AM λNz Q=>?_;obtain⟨ta,o,cv,cw,et,_⟩:=TB.ex;refine Q ?_;clear Q;refine AU ?_;cbv;refine Or.inr (Or.inl ⟨_,.int Z,Ap.of (ai _ _ et),rfl,?_⟩);refine⟨J.2,Z,_,_,_,_,_,_,_,d++[.ref r],ls++[(g.map (·.2),e.map (·.2),u.map (·.2))],l++[p.2],rfl,ai,aL,aM,aO,by simp[bM],by simp[bN],bn,rg,ca,λa w ak al z=>?_⟩;rw[F5,F5];refine ay a w _ _ ?_;rw[ag];rw[bw] at z;exact .go LK az (ei.trans (Prod.ext e5 rfl)) z
inductive Ff (K:Ah) (vs:List V) (H:Hp) (Q:VK):Prop where
 |mk (nt A t:Addr) (W:Wd) (n:Int) (h0:vs=[.ref nt,.int n]) (h1:Bq K H nt A t W) (h2:(0<=n/\n<W.gs.length)) (h3:∀(D:Addr)(H':Hp),H D=none->Ac H H'->H' D=some (.lst ((E8 W.gs n).map V.int))->Q (.ref D) H'):Ff K vs H Q
def i8 (K:Ah):Sp:=λvs H Q ζ=>Ff K vs H Q
variable (P w K mg base) in
abbrev QZ:Prop:=BG P w K mg base "of_sort" 1 ["net", "thing"] (i8 K)
def i9(B:BH mg)(F:Bu K "of_sort" "of_sort" RB f fd)(b:mg "of_sort" = some (.ref f)):QZ P w K mg base:=by
 refine BZ F b Ua (λr H Q E h=>?_) (λM A N s H r Q E C h=>?_);obtain⟨u,A,t,W,n,rfl,_⟩:=h;rfl;obtain⟨u,A,t,W,n,rfl,v,x,q⟩:=h;obtain⟨S,T,R,us,G,I,c,J,L,y,d⟩:=v.net;obtain⟨m,b⟩:=DL x.1;have j:m<W.gs.length:=(by lia);have o:m<c.length:=by rw[d.tg.len];exact j
 have k:W.gs[n.toNat]?=some W.gs[m]:=by rw[b,Bo];exact AC j
 have g:=d.tg.at_ m _ _ (AC o) (AC j);have l:Bv (c.map V.ref) n=some (.ref c[m]):=by rw[b];exact BX (by rw[Bh,AC o];rfl)
 generalize W.gs[m]=p at k g;generalize c[m]=z at l g
 have eq:E8 W.gs n=if p.1=("sort" : Str) then[p.2] else[]:=by unfold E8;rw[k]
 refine⟨_,(Ao (Eb (Ay Az (Ay Az (pv 0) Ai) (pv 1)) (Cq (n:=2) rfl (AI (AA (i:=2) Ua.nd) (AI (AA (i:=3) Ua.nd) Cp))))
  (Ao (Bj (Bt CF (pv 2) B6 (Bp _)) (At (AW (CC (Ab (pv 3) Af)))) Bm)
  (At (AW (CC Af))))),?_⟩
 (try dsimp only[AG,Cx.nox,Cx.wish]);refine Or.inr (Or.inl ⟨_,.ref T,Ap.of y,rfl,Or.inl ⟨_,.ref z,Ae.of d.et,l,?_⟩⟩);refine⟨_,Ap.of g,rfl,?_⟩;refine⟨rfl,rfl,Am (λh=>?_) (λh=>?_)⟩;have e:p.1=("sort" : Str):=V.str.inj (Bi h);refine⟨HH,λD a=>q D _ a (Bf a) ?_⟩;rw[Aa,eq,Al e];rfl;have e:p.1≠("sort" : Str):=λe=>h (A7 (by rw[e]));refine⟨by decide,λD a=>q D _ a (Bf a) ?_⟩;rw[Aa,eq,Ak e];rfl
inductive D8 (K:Ah) (vs:List V) (H:Hp) (Q:VK):Prop where
 |mk (nt A t:Addr) (W:Wd) (v:V) (o:C') (h0:vs=[.ref nt,v]) (h1:Bq K H nt A t W) (h2:((o=none/\v=.non)\/∃p ta,o=some p/\v=.ref ta/\Ap K H ta [.str p.1,.int p.2])) (h3:(∀p,o=some p->p.1=("thing" : Str)->0<=p.2/\p.2<W.gs.length)) (h4:∀(D:Addr)(H':Hp),H D=none->Ac H H'->H' D=some (.lst ((qA W.gs o).map V.int))->Q (.ref D) H'):D8 K vs H Q
def jA (K:Ah):Sp:=λvs H Q ζ=>D8 K vs H Q
variable (P w K mg base) in
abbrev UI:Prop:=BG P w K mg base "of_answer" 2 ["net", "answer"] (jA K)
def jB(B:BH mg)(n:QZ P w K mg base)(F:Bu K "of_answer" "of_answer" RC f fd)(i:mg "of_answer" = some (.ref f)):UI P w K mg base:=by
 refine BZ F i fH (λj H Q E h=>?_) (λC A G s H j Q E u h=>?_);obtain⟨b,A,t,W,v,o,rfl,_⟩:=h;rfl;obtain⟨b,A,t,W,v,o,rfl,k,l,r,q⟩:=h;have d:qA W.gs o=[]->∀D,H D=none->Q (.ref D) (upd H D (.lst [])):=λe D a=>q D _ a (Bf a) (by rw[Aa,e];rfl)
 refine⟨_,(Ao (Bj (PW.pt (I0 (F8 (Gy (pv 1))) (Lh (Bt KA (Ay Az (pv 1) Ai) B6 (Bp _))))) (At (AW (CC Af))) Bm)
  (At (AW (A9 n (Ab (pv 0) (Ab (Ay Az (pv 1) Ai) Af)))))),?_⟩
 (try dsimp only[AG,Cx.nox,Cx.wish]);rcases l with⟨rfl,rfl⟩|⟨p,x,rfl,rfl,g⟩;exact⟨rfl,Am (λζ=>CV ⟨by decide,d rfl⟩) (λh=>absurd (A7 rfl) h)⟩;refine⟨rfl,Am (λh=>absurd (Bi h) (by simp)) (λζ=>?_)⟩;refine Or.inr (Or.inl ⟨_,.str p.1,g,rfl,rfl,rfl,Am (λh=>?_) (λh=>?_)⟩);refine⟨by decide,d ?_⟩;refine Ak λe=>?_;rw[e] at h;simp at h
 have c:p.1=("thing" : Str):=Classical.byContradiction λz=>h (by
  have:decide (V.str p.1=V.str "thing")=false:=Do λy=>z (V.str.inj y)
  rw[this];rfl)
 refine Or.inr (Or.inl ⟨_,.int p.2,g,rfl,b,A,t,W,p.2,rfl,k,r p rfl c,λD m a s e=>q D m a s ?_⟩);rw[e]
 show some (HO.lst ((E8 W.gs p.2).map V.int))=some (HO.lst ((if p.1=("thing" : Str) then E8 W.gs p.2 else[]).map V.int))
 rw[Al c]
def jC{k:Nat}{s:Bk}(h:W.ss[k]?=some s):BY W (k:Int)=s.1:=by unfold BY;rw[Bo,h]
def Ko{k:Nat}(h:W.sts[k]?=some s):DX W (k:Int)=s.1:=by unfold DX;rw[Bo,h]
inductive EC (K:Ah) (vs:List V) (H:Hp) (Q:VK):Prop where
 |mk (nt A t:Addr) (W:Wd) (v:V) (F:Addr->Prop) (bs:List AQ) (h0:vs=[.ref nt,.ref A,.ref t,v]) (h1:Bq K H nt A t W) (h2:B2 W) (h3:Bd F H v (.lst (bs.map DS.D))) (h4:(∀b∈bs,Cc W b)) (h5:(bs.flatMap (Bw W)).length<=4000) (h6:∀(D:Addr)(H':Hp),H D=none->Ac H H'->H' D=some (.lst ((bs.flatMap (Bw W)).map V.int))->Q (.ref D) H'):EC K vs H Q
def jD (K:Ah):Sp:=λvs H Q ζ=>EC K vs H Q
variable (P w K mg base) in
abbrev UJ:Prop:=BG P w K mg base "of_steps" 3 ["net", "answers", "table", "begun"] (jD K)
def jE(B:BH mg)(a8:QS P w K mg base)(a9:UI P w K mg base)(F:Bu K "of_steps" "of_steps" RD f fd)(C:mg "of_steps" = some (.ref f)):UJ P w K mg base:=by
 refine BZ F C K1 (λvs H a0 a1 h=>?_) (λaW A aZ s H vs a0 a1 hr h=>?_);obtain⟨J,A,t,W,a2,F,bs,rfl,_⟩:=h;rfl
 . obtain⟨J,A,t,W,a2,F,bs,rfl,L,ok,hv,aA,hl,a3⟩:=h
   obtain⟨a4,aR,aS,us,Gs,Es,ts,qt,qs,eN,N3⟩:=L.net;obtain⟨a,o,aB,b1,a5,b2,b3⟩:=L.tab;obtain⟨P,bv,rfl,eP,hb⟩:=TQ hv
   refine⟨_,(Ao (AX (i:=4) K1.nd (CC Af))
    (Ao (CP CB rfl (Dk (pv 3)) (Cq (n:=3) rfl (AI (AA (i:=5) K1.nd) (AI (AA (i:=6) K1.nd) (AI (AA (i:=7) K1.nd) Cp)))) (At (CP CB rfl (Dk (Ay Az (Ay Az (Ay Az (pv 0) Ai) (pv 6)) Ai)) (Cq (n:=3) rfl (AI (AA (i:=8) K1.nd) (AI (AA (i:=9) K1.nd) (AI (AA (i:=10) K1.nd) Cp)))) (At (Bj (PW.pt (GU (Bt CF (pv 9) B6 (Bp _)) (GS (F8 (NM (A9 a8 (Ab (pv 2) (Ab (pv 7) (Ab (pv 8) Af))))))))) (Ao (Db (DN Dp EE EF EH (pv 4) (Ab (pv 10) Af)))
          (At (Db (DN Dp PySem.F.slot_list_extend PySem.F.type_list_extend Oo (pv 4) (Ab (A9 a9 (Ab (pv 0) (Ab (Ay Az (pv 1) (pv 10)) Af))) Af))))) Bm)))))
    (At (AW (pv 4))))),?_⟩
   (try dsimp only[AG,Cx.nox,Cx.wish]);refine⟨by decide,λD M=>?_⟩;obtain⟨aT,aC,s1,aD⟩:=new_at (o:=.lst []) M;rw[<-aC]
   refine⟨⟨_,Ae.of (s1 _ _ eP)⟩,EZ (xs:=bv) (λi σ q=>∃S T U r u v,σ=[some (.ref J),some (.ref A),some (.ref t),some (.ref P),some (.ref D),S,T,U,r,u,v]/\Ac H q/\q D=some (.lst (((bs.take i).flatMap (Bw W)).map V.int)))
    ⟨none,none,none,none,none,none,rfl,s1,by rw[aD,Er];rfl⟩ (λi σ q ζ aa=>by obtain⟨_,_,_,_,_,_,_,s,_⟩:=aa;exact Ae.of (s _ _ eP)) ?_ ?_⟩
   rotate_left;refine λσ H2 y=>AM λN c=>?_;obtain⟨S,T,U,r,u,v,rfl,g,O⟩:=y;refine c ?_;clear c;rw[hb.length,An,Ej] at O;exact a3 D _ M g O;refine λi x σ H2 hx y=>AM λN c=>?_;obtain⟨S,T,U,r,u,v,rfl,g,O⟩:=y;refine c ?_;clear c;refine GJ ?_;intro Nx Cy;obtain⟨b,ak,aE⟩:=J4 (hb.same g) hx;have al:=aA b (Bl ak);obtain⟨tb,x0,rfl,aF⟩:=Mt aE;have aG:=al.rng b.2.1 (by unfold AV;simp);have aH:=al.st;obtain⟨n,hn⟩:=DL aG.1;obtain⟨k,hk⟩:=DL aH.1;have an:n<W.ss.length:=(by lia);have aI:k<W.sts.length:=(by lia);refine AM λN c=>?_;obtain⟨ah,a6,E1,a7,aU,aV,g4,⟨c0,⟨tG,c1,X⟩,_⟩⟩:=N3.sc.get an;refine c ?_;clear c;have ao:=AC aI;have Y:BY W b.2.1=W.ss[n].1:=by rw[hn];exact jC g4
   have eG:DX W b.2.2=W.sts[k].1:=by rw[hk];exact Ko ao
   have aJ:Bv (us.map V.ref) b.2.1=some (.ref ah):=by rw[hn];exact BX (by rw[Bh,a7];rfl)
   have aq:=OR (f:=Bw W) ak;have aP:=OS (f:=Bw W) (l:=bs) (i+1);rw[aq,AY] at aP;refine⟨_,Ap.of aF,rfl,?_⟩;refine Or.inr (Or.inl ⟨_,.ref a4,Ap.of (g _ _ eN),rfl,Or.inl ⟨_,.ref ah,Ae.of (g _ _ N3.sc.top),aJ,Or.inr (Or.inl ⟨_,.ref a6,Ap.of (g _ _ c0),rfl,⟨_,Ae.of (g _ _ c1)⟩,?_⟩)⟩⟩)
   refine EZ (xs:=tG.map V.ref) (λj σ q=>∃r u v,σ=[some (.ref J),some (.ref A),some (.ref t),some (.ref P),some (.ref D),some x0,some (.int b.2.1),some (.int b.2.2),r,u,v]/\Ac H q/\q D=some (.lst (((bs.take i).flatMap (Bw W)++((BY W b.2.1).take j).flatMap (FY W b.2.2)).map V.int)))
    ⟨_,_,_,rfl,g,by rw[O,Er];simp⟩ (λj σ q ζ aa=>by obtain⟨_,_,_,_,s,_⟩:=aa;exact Ae.of (s _ _ c1)) ?_ ?_
   rotate_left;refine λσ E y=>AM λN c=>?_;obtain⟨r,u,v,rfl,d,I⟩:=y;refine c ?_;clear c;refine⟨_,_,_,_,_,_,rfl,d,?_⟩;rw[I,aq,An,X.len,Y,Ej,<-Y];rfl;refine λj ai σ E hy y=>AM λN c=>?_;obtain⟨r,u,v,rfl,d,I⟩:=y;refine c ?_;clear c;refine GJ ?_;intro Nx Cy;obtain⟨tp,ar,rfl⟩:=getm hy;have au:j<W.ss[n].1.length:=by rw[<-X.len];exact(A8.mp ar).1
   have Z:=AC au;have aw:=X.at_ j tp _ ar Z;have mp:=Ep au;generalize W.ss[n].1[j]=p at Z aw mp;have ab:=OR (f:=FY W b.2.2) (show(BY W b.2.1)[j]?=some p by rw[Y];exact Z);have ae:=OS (f:=FY W b.2.2) (l:=BY W b.2.1) (j+1);rw[ab,AY] at ae;have aX:(Bw W b).length=((BY W b.2.1).flatMap (FY W b.2.2)).length:=rfl
   have skip:¬(p.2.1=("by" : Str)/\(En (DX W b.2.2) p.1).isSome=true)->E D=some (.lst (((bs.take i).flatMap (Bw W)++((BY W b.2.1).take (j+1)).flatMap (FY W b.2.2)).map V.int)):=λaK=>by
    have:FY W b.2.2 p=[]:=Ak aK;rw[I,ab,this,FH]
   refine⟨_,Ap.of (d _ _ aw),rfl,?_⟩;refine⟨rfl,rfl,Am (λz=>?_) (λz=>Bb ?_)⟩;rotate_left;exact⟨_,_,_,rfl,d,skip λh=>z (A7 (by rw[h.1]))⟩;have z:p.2.1=("by" : Str):=V.str.inj (Bi z);refine⟨t,a,o,aB,W.sts,b.2.2,k,_,p.1,rfl,hk,d.seqT b1,⟨a5,d.seq b2,b3.same d⟩,ao,?_⟩;rw[<-eG]
   cases eg:En (DX W b.2.2) p.1 with
   |none =>
     refine⟨rfl,Am (λh=>absurd h (by simp[Ef])) (λζ=>?_)⟩;exact⟨_,_,_,rfl,d,skip λh=>by rw[eg] at h;cases h.2⟩
   |some af =>
     refine⟨rfl,Am (λζ=>?_) (λh=>absurd (by simp[Ef]) h)⟩;have ax:FY W b.2.2 p=p.2.2::FF W.gs W.as p.2.2:=Al ⟨z,by rw[eg];rfl⟩;have aL:=ok.by_ (Ep an) mp λaj=>by rw[z] at aj;exact absurd aj (by decide +kernel)
     obtain⟨m,C⟩:=DL aL.1;have Q:m<W.as.length:=(by lia);have ay:=J2 (gs:=W.gs) (AC Q);rw[ax,El] at ae;have R:Ac H (upd E D (.lst (((bs.take i).flatMap (Bw W)++((BY W b.2.1).take j).flatMap (FY W b.2.2)).map V.int++[.int p.2.2]))):=λai o e=>by rw[AE (AK e M)];exact d _ _ e
     have ag:(upd E D (.lst (((bs.take i).flatMap (Bw W)++((BY W b.2.1).take j).flatMap (FY W b.2.2)).map V.int++[.int p.2.2]))) D=some (.lst (((bs.take i).flatMap (Bw W)++((BY W b.2.1).take j).flatMap (FY W b.2.2)).map V.int++[.int p.2.2])):=Aa;refine⟨Or.inl ⟨rfl,_,Ae.of I⟩,_,I,by rw[An,AY];exact Mu (by lia),?_⟩;generalize upd E D (.lst (((bs.take i).flatMap (Bw W)++((BY W b.2.1).take j).flatMap (FY W b.2.2)).map V.int++[.int p.2.2]))=H4 at R ag ⊢;obtain⟨az,av,aM,aN,hc⟩:=(L.same R).ans.get Q;have aQ:Bv az p.2.2=some av:=by rw[C];exact BX aN
     refine⟨Or.inl ⟨rfl,_,Ae.of ag⟩,Or.inl ⟨az,av,aM,aQ,J,A,t,W,av,W.as[m],rfl,L.same R,?_,λpp e G=>ok.net.t pp (by rw[<-e];exact Ep Q) G,λD2 H5 aY s5 aO=>?_⟩⟩;rw[AC Q] at hc;rcases hc with⟨e1,G⟩|⟨pp,ta,e1,G,e3⟩;exact .inl ⟨AO e1,G⟩;exact .inr ⟨pp,ta,AO e1,G,e3⟩;refine⟨D,D2,_,_,rfl,rfl,s5 _ _ ag,aO,?_,?_⟩;have:=Mv W.gs W.as[m];rw[C,ay] at ae;rw[AY,An,An,AY,DJ];exact Dm (Mu (by lia));refine⟨_,_,_,rfl,λai o e=>?_,?_⟩;rw[AE (AK e M)];exact s5 _ _ (R _ _ e);rw[Aa,ab,ax,C,ay]
     simp
inductive C7 (K:Ah) (vs:List V) (H:Hp) (Q:VK):Prop where
 |mk (nt A t:Addr) (W:Wd) (v:V) (F:Addr->Prop) (ws:List (List Aq)) (h0:vs=[.ref nt,v]) (h1:Bq K H nt A t W) (h2:Bd F H v (.lst (ws.map CG.D))) (h3:(∀w∈ws,Du W.ss w)) (h4:(ws.flatMap (E9 W.ss)).length<=4000) (h5:∀(D:Addr)(H':Hp),H D=none->Ac H H'->H' D=some (.lst ((ws.flatMap (E9 W.ss)).map V.int))->Q (.ref D) H'):C7 K vs H Q
def jF (K:Ah):Sp:=λvs H Q ζ=>C7 K vs H Q
variable (P w K mg base) in
abbrev UK:Prop:=BG P w K mg base "of_tellings" 2 ["net", "found"] (jF K)
def jG(B:BH mg)(ab:O9 P w K mg base)(F:Bu K "of_tellings" "of_tellings" RE f fd)(hm:mg "of_tellings" = some (.ref f)):UK P w K mg base:=by
 refine BZ F hm MF (λvs H Q E h=>?_) (λai A ak s H vs Q E hr h=>?_);obtain⟨g,A,t,W,v,F,j,rfl,_⟩:=h;rfl
 . obtain⟨g,A,t,W,v,F,j,rfl,hC,hv,he,hl,q⟩:=h
   obtain⟨S,T,R,us,Gs,Es,ts,qt,qs,eN,N3⟩:=hC.net;obtain⟨P,wv,rfl,J,L⟩:=TQ hv
   refine⟨_,(Ao (AX (i:=2) MF.nd (CC Af))
    (Ao (CP CB rfl (Dk (pv 1)) (AA (i:=3) MF.nd) (Ao (Eb (A9 ab (Ab (pv 0) (Ab (Ay Az (pv 3) (Pz PB Ai)) Af))) (Cq (n:=4) rfl (AI (AA (i:=4) MF.nd) (AI (AA (i:=5) MF.nd) (AI (AA (i:=6) MF.nd) (AI (AA (i:=7) MF.nd) Cp))))))
     (At (Bj (Bt CF (pv 6) B6 (Bp _)) (At (Db (DN Dp EE EF EH (pv 2) (Ab (pv 7) Af)))) Bm))))
    (At (AW (pv 2))))),?_⟩
   (try dsimp only[AG,Cx.nox,Cx.wish]);refine⟨by decide,λD k=>?_⟩;obtain⟨ah,ae,M,af⟩:=new_at (o:=.lst []) k;rw[<-ae]
   refine⟨⟨_,Ae.of (M _ _ J)⟩,EZ (xs:=wv) (λi σ p=>∃r u y z C,σ=[some (.ref g),some (.ref P),some (.ref D),r,u,y,z,C]/\Ac H p/\p D=some (.lst (((j.take i).flatMap (E9 W.ss)).map V.int)))
    ⟨none,none,none,none,none,rfl,M,by rw[af,Er];rfl⟩ (λi σ p ζ ag=>by obtain⟨_,_,_,_,_,_,s,_⟩:=ag;exact Ae.of (s _ _ J)) ?_ ?_⟩
   rotate_left;refine λσ H2 I=>AM λN a=>?_;obtain⟨r,u,y,z,C,rfl,c,d⟩:=I;refine a ?_;clear a;rw[L.length,An,Ej] at d;exact q D _ k c d;refine λi x σ H2 hx I=>AM λN a=>?_;obtain⟨r,u,y,z,C,rfl,c,d⟩:=I;refine a ?_;clear a;obtain⟨w,O,U⟩:=J4 (L.same c) hx;have ew:=he w (Bl O);obtain⟨vv,m,X,mo,aa⟩:=ew;rw[X] at U;refine AM λN a=>?_;obtain⟨l,ms,mk,rfl,l1,l2,l3⟩:=J3 U;refine a ?_;clear a;have et:KZ W.ss m=Cs W.ss w:=(by rw[X,Qh]);have aj:=OS (f:=E9 W.ss) (l:=j) i;have Y:=OR (f:=E9 W.ss) O;refine Or.inl ⟨_,.ref mk,Ae.of l1,l2,g,S,T,R,mk,us,Gs,Es,W.ss,m,rfl,Ap.of (c _ _ eN),N3.sc.same c,Ap.of l3,mo,aa,λtp Z=>?_⟩;rw[et] at Z;refine⟨_,Ap.of Z,rfl,?_⟩;refine⟨rfl,rfl,Am (λh=>?_) (λh=>?_)⟩;have G:(Cs W.ss w).2.2.1=("by" : Str):=V.str.inj (Bi h);refine⟨Or.inl ⟨rfl,_,Ae.of d⟩,_,d,by rw[An];exact Mu (by lia),?_⟩;refine⟨_,_,_,_,_,rfl,λb o e=>?_,?_⟩;rw[AE (AK e k)];exact c _ _ e;rw[Aa,Y,Br];unfold E9;rw[Al G];rfl;have G:(Cs W.ss w).2.2.1≠("by" : Str):=λe=>h (A7 (by rw[e]));refine⟨_,_,_,_,_,rfl,c,?_⟩;rw[d,Y];have:E9 W.ss w=[]:=Ak G;rw[this,FH]
inductive CO (K:Ah) (vs:List V) (H:Hp) (Q:VK):Prop where
 |mk (nt A t L T:Addr) (F:Addr->Prop) (W:Wd) (lv:List V) (ls:List Lk) (ts:List Int) (h0:vs=[.ref nt,.ref A,.ref t,.ref L,.ref T]) (h1:Bq K H nt A t W) (h2:B2 W) (h3:H L=some (.lst lv)) (h4:Ax F H lv (ls.map No)) (h5:(∀l∈ls,Ii W l)) (h6:H T=some (.lst (ts.map V.int))) (h7:(∀n∈ts,0<=n/\n<W.gs.length)) (h8:(CJ W ls ts).length<=4000) (h9:(∀q∈CJ W ls ts,0<=q/\q<((40:Nat):Int))) (h10:∀(D:Addr)(us:List Int)(H':Hp),H D=none->Ac H H'->H' D=some (.lst (us.map V.int))->(∀q,q∈us↔q∈CJ W ls ts)->us.length<=40->Q (.ref D) H'):CO K vs H Q
def jH (K:Ah):Sp:=λvs H Q ζ=>CO K vs H Q
variable (P w K mg base) in
abbrev UL:Prop:=BG P w K mg base "questions_of" 4 ["net", "answers", "table", "looks", "things"] (jH K)
theorem jI(B:BH mg)(ar:UJ P w K mg base)(au:UK P w K mg base)(av:QZ P w K mg base)(F:Bu K "questions_of" "questions_of" RF f fd)(E:mg "questions_of" = some (.ref f)):UL P w K mg base:=by
 refine BZ F E NC (λvs H ak al h=>?_) (λa6 A aA s H vs ak al hr h=>?_);obtain⟨k,A,t,L,T,F,W,lv,ls,m,rfl,_⟩:=h;rfl;obtain⟨k,A,t,L,T,F,W,lv,ls,m,rfl,Q,ok,eL,U,aw,eT,ax,O,ae,an⟩:=h;have a7:(ls.flatMap (FM W)).length<=4000:=by unfold CJ at O;rw[AY] at O;lia
 refine⟨_,(Ao (AX (i:=5) NC.nd (CC Af))
  (Ao (CP CB rfl (Dk (pv 3)) (Cq (n:=3) rfl (AI (AA (i:=6) NC.nd) (AI (AA (i:=7) NC.nd) (AI (AA (i:=8) NC.nd) Cp)))) (Ao (Db (DN Dp PySem.F.slot_list_extend PySem.F.type_list_extend Oo (pv 5) (Ab (A9 ar (Ab (pv 0) (Ab (pv 1) (Ab (pv 2) (Ab (pv 6) Af))))) Af)))
   (At (Db (DN Dp PySem.F.slot_list_extend PySem.F.type_list_extend Oo (pv 5) (Ab (A9 au (Ab (pv 0) (Ab (pv 7) Af))) Af))))))
  (Ao (CP CB rfl (Dk (pv 4)) (AA (i:=9) NC.nd) (At (Db (DN Dp PySem.F.slot_list_extend PySem.F.type_list_extend Oo (pv 5) (Ab (A9 av (Ab (pv 0) (Ab (pv 9) Af))) Af)))))
  (At (AW (BE (d8 rfl) B.b_sorted (Ab (GA (d7 rfl) B.b_set (Ab (pv 5) Af)) Af))))))),?_⟩
 (try dsimp only[AG,Cx.nox,Cx.wish]);refine⟨by decide,λD hD=>?_⟩;obtain⟨a5,ay,s1,az⟩:=new_at (o:=.lst []) hD;rw[<-ay];have R:∀{c:Hp}{zs:List V},Ac H c->Ac H (upd c D (.lst zs)):=λs b o ab=>by rw[AE (AK ab hD)];exact s _ _ ab
 refine⟨⟨_,Ae.of (s1 _ _ eL)⟩,EZ (xs:=lv) (λi σ c=>∃G I J p,σ=[some (.ref k),some (.ref A),some (.ref t),some (.ref L),some (.ref T),some (.ref D),G,I,J,p]/\Ac H c/\c D=some (.lst (((ls.take i).flatMap (FM W)).map V.int)))
  ⟨none,none,none,none,rfl,s1,by rw[az,Er];rfl⟩ (λi σ c ζ X=>by obtain⟨_,_,_,_,_,s,_⟩:=X;exact Ae.of (s _ _ eL)) ?_ ?_⟩
 refine λi x σ H2 M Y=>AM λNz e=>?_;obtain⟨G,I,J,p,rfl,q,u⟩:=Y;refine e ?_;clear e;obtain⟨l,Z,a0⟩:=J4 (U.same q) M;have af:=aw l (Bl Z);refine AM λNz e=>?_;obtain⟨ao,x1,x2,x3,rfl,er,h1,h2,_⟩:=Qv a0;refine e ?_;clear e;have z:=OR (f:=FM W) Z;have aa:=OS (f:=FM W) (l:=ls) (i+1);rw[z,AY] at aa;have hq:(FM W l).length=(l.1.flatMap (Bw W)).length+(l.2.1.flatMap (E9 W.ss)).length:=by unfold FM;rw[AY]
 refine⟨_,Ap.of er,rfl,?_⟩;refine⟨Or.inl ⟨rfl,_,Ae.of u⟩,k,A,t,W,x1,F,l.1,rfl,Q.same q,ok,h1,af.bo,by lia,λv r N d j=>?_⟩;refine⟨D,v,_,_,rfl,rfl,d _ _ u,j,by rw[An,An];exact Dm (Mu (by lia)),?_⟩;have g:=R (zs:=((ls.take i).flatMap (FM W)).map V.int++(l.1.flatMap (Bw W)).map V.int) (q.trans d);have C:(upd r D (.lst (((ls.take i).flatMap (FM W)).map V.int++(l.1.flatMap (Bw W)).map V.int))) D=some (.lst (((ls.take i).flatMap (FM W)).map V.int++(l.1.flatMap (Bw W)).map V.int)):=Aa
 have ag:Bd F (upd r D (.lst (((ls.take i).flatMap (FM W)).map V.int++(l.1.flatMap (Bw W)).map V.int))) x2 (.lst (l.2.1.map CG.D)):=by
  obtain⟨r',y1,y2,y3,e',ah,_,a1,_⟩:=Qv ((J4 (U.same g) M).elim λl' h=>by
   have:l'=l:=AO (h.1.symm.trans Z)
   rw[this] at h;exact h.2)
  have:ao=r':=V.ref.inj e';subst this;have a2:=(Keeps.one (H:=r) (o:=.lst (((ls.take i).flatMap (FM W)).map V.int++(l.1.flatMap (Bw W)).map V.int)) (d _ _ u)).tup (d _ _ er);rw[a2] at ah;have e2:=HO.tup.inj (AO ah);cases e2;exact a1
 generalize upd r D (.lst (((ls.take i).flatMap (FM W)).map V.int++(l.1.flatMap (Bw W)).map V.int))=H4 at g C ag ⊢;refine⟨Or.inl ⟨rfl,_,Ae.of C⟩,k,A,t,W,x2,F,l.2.1,rfl,Q.same g,ag,af.en,by lia,λD3 H5 a8 s5 a3=>?_⟩;refine⟨D,D3,_,_,rfl,rfl,s5 _ _ C,a3,by rw[AY,An,An,An];exact Dm (Mu (by lia)),?_⟩;refine⟨_,_,_,_,rfl,R (g.trans s5),?_⟩;rw[Aa,z];unfold FM;rw[Br,Br,F5];refine λσ H2 Y=>AM λNz e=>?_;obtain⟨G,I,J,p,rfl,q,u⟩:=Y;refine e ?_;clear e;rw[U.length,An,Ej] at u
 refine⟨⟨_,Ae.of (q _ _ eT)⟩,EZ (xs:=m.map V.int) (λi σ c=>∃p,σ=[some (.ref k),some (.ref A),some (.ref t),some (.ref L),some (.ref T),some (.ref D),G,I,J,p]/\Ac H c/\c D=some (.lst ((ls.flatMap (FM W)++(m.take i).flatMap (E8 W.gs)).map V.int)))
  ⟨_,rfl,q,by rw[u,Er];simp⟩ (λi σ c ζ X=>by obtain⟨_,_,s,_⟩:=X;exact Ae.of (s _ _ eT)) ?_ ?_⟩
 rintro i x σ r M ⟨p,rfl,d,j⟩;obtain⟨n,ai,rfl⟩:=getm M;have z:=OR (f:=E8 W.gs) ai;have aa:=OS (f:=E8 W.gs) (l:=m) (i+1);rw[z,AY] at aa;have aj:=O;unfold CJ at aj;rw[AY] at aj;refine⟨Or.inl ⟨rfl,_,Ae.of j⟩,k,A,t,W,n,rfl,Q.same d,ax n (Bl ai),λv H4 N g C=>?_⟩;refine⟨D,v,_,_,rfl,rfl,g _ _ j,C,by rw[An,An,AY];exact Dm (Mu (by lia)),?_⟩;refine⟨_,rfl,R (d.trans g),?_⟩;rw[Aa,z]
 simp
 rintro σ r ⟨a9,rfl,d,j⟩;rw[An,Ej] at j;refine⟨D,CJ W ls m,rfl,Ae.of j,O,λaq hz=>?_⟩;refine⟨aq,CJ W ls m,rfl,Aa,λds hd hs=>?_,λv ms a4 E N=>?_⟩;have:=TU hd λy S=>ae y (hs y S);lia;exact an v ms _ (d.free ((Bf hz).free N)) ((d.trans (Bf hz)).trans (Bf N)) Aa E (TU (a4.imp λ{a b}h=>by lia) λy S=>ae y ((E y).mp S))
inductive Cw (K:Ah) (vs:List V) (H:Hp) (Q:VK):Prop where
 |mk (nt A t P U:Addr) (F:Addr->Prop) (W:Wd) (qs:List Qu) (inn:Int) (ord:A') (as:List AH) (due:List Int) (kvs:List (AN×V)) (H0:Hp) (h0:vs=[.ref nt,.ref A,.ref t,.ref P,.ref U]) (h1:Ac H0 H) (h2:H0 U=none) (h3:LN K F H0 nt t W qs inn ord) (h4:J6 W qs inn ord) (h5:G0 W qs as) (h6:ER H A as) (h7:H U=some (.dK kvs)) (h8:IP kvs qs.length) (h9:H P=some (.lst (due.map V.int))) (h10:(∀k∈due,0<=k/\k<qs.length)) (h11:due.length<=40) (h12:∀(R:Addr)(rv:List V)(fs:List (Int×(Str×Int)))(kvs':List (AN×V))(H':Hp),H R=none->(∀x o,H x=some o->x≠U->H' x=some o)->H' U=some (.dK kvs')->H' R=some (.lst rv)->Ax He H' rv (fs.map fD)->fs.length<=40->FT W qs inn ord as H H' kvs kvs' due fs->Q (.ref R) H'):Cw K vs H Q
def jJ (K:Ah):Sp:=λvs H Q ζ=>Cw K vs H Q
variable (P w K mg base) in
abbrev UM:Prop:=BG P w K mg base "found_in_turn" 8 ["net", "answers", "table", "due", "uses"] (jJ K)
def jK(B:BH mg)(aG:Pb P w K mg base)(aH:UL P w K mg base)(F:Bu K "found_in_turn" "found_in_turn" RG f fd)(hm:mg "found_in_turn" = some (.ref f)):UM P w K mg base:=by
 refine BZ F hm MG (λJ a7 a8 a9 h=>?_) (λbc A bj s a7 J a8 a9 hr h=>?_);obtain⟨nt,A,t,P,U,F,W,L,ah,ai,j,E,aj,H0,rfl,_⟩:=h;rfl
 . obtain⟨nt,A,t,P,U,F,W,L,ah,ai,j,E,aj,H0,rfl,s0,aI,hN,aa,hA,an,eU,hK,M,aY,bi,aA⟩:=h
   obtain⟨aZ,ba,R0,bd,Gs,Es,be,N,eN,N3⟩:=hN.net;have ok:=aa.all j hA;have aJ:A≠U:=λz=>by obtain⟨_,e,_⟩:=an;rw[z,eU] at e;cases e
   have aK:P≠U:=λz=>by rw[z,eU] at M;cases M
   refine⟨_,(Ao (AX (i:=5) MG.nd (CC Af))
    (Ao (CP CB rfl (Dk (pv 3)) (AA (i:=6) MG.nd) (Ao (Eb (A9 aG (Ab (pv 0) (Ab (pv 1) (Ab (pv 2) (Ab (Ay Az (Ay Az (pv 0) Ai) (pv 6)) Af))))) (Cq (n:=4) rfl (AI (AA (i:=7) MG.nd) (AI (AA (i:=8) MG.nd) (AI (AA (i:=9) MG.nd) (AI (AA (i:=10) MG.nd) Cp))))))
     (At (Bj (F8 (Gy (pv 7))) (At (Eb (A9 aH (Ab (pv 0) (Ab (pv 1) (Ab (pv 2) (Ab (pv 9) (Ab (pv 10) Af)))))) (Pw (pv 4) (pv 6) (YZ (LO hr))))) (At (Db (DN Dp EE EF EH (pv 5) (Ab (Bx (Ab (pv 6) (Ab (pv 7) Af))) Af))))))))
    (At (AW (pv 5))))),?_⟩
   (try dsimp only[AG,Cx.nox,Cx.wish]);refine⟨by decide,λR u=>?_⟩;obtain⟨ag,aL,p,ab⟩:=new_at (o:=.lst []) u;rw[<-aL];have aw:=p _ _ eU;have ax:R≠U:=λz=>by rw[z,aw] at ab;cases ab
   have aM:H0 R=none:=s0.free u
   refine⟨⟨_,Ae.of (p _ _ M)⟩,EZ (xs:=E.map V.int) (λi σ v=>∃u6 u7 u8 u9 ak d fs r,σ=[some (.ref nt),some (.ref A),some (.ref t),some (.ref P),some (.ref U),some (.ref R),u6,u7,u8,u9,ak]/\(∀x o,ag x=some o->x≠U->x≠R->v x=some o)/\v U=some (.dK r)/\v R=some (.lst d)/\Ax He v d (fs.map fD)/\fs.length<=i/\FT W L ah ai j ag v aj r (E.take i) fs)
    ⟨none,none,none,none,none,[],[],aj,rfl,λx o e ζ ζ=>e,aw,ab,.nil,AD _,⟨λf hf=>by simp at hf,λk O=>by simp at O,λk ζ=>rfl,hK⟩⟩ (λi σ v ζ aN=>by obtain⟨_,_,_,_,_,_,_,_,_,b,_⟩:=aN;exact Ae.of (b _ _ (p _ _ M) aK (AK M u))) ?_ ?_⟩
   rotate_left;refine λσ C al=>AM λNz T=>?_;obtain⟨u6,u7,u8,u9,ak,d,fs,r,rfl,q,G,H,X,ay,g⟩:=al;refine T ?_;clear T;rw[An,Ej] at g;refine aA R d fs r C u (λx o e n=>q _ _ (p _ _ e) n (AK e u)) G H X (by rw[An] at ay;lia) ⟨g.fd,λk O=>?_,g.kp,g.ko⟩;rcases g.al k O with h|⟨l,us,a,b⟩;exact .inl h;exact .inr ⟨l,us,p.free a,b⟩;refine λi x σ C hx al=>AM λNz T=>?_;obtain⟨u6,u7,u8,u9,ak,d,fs,r,rfl,q,G,H,X,ay,g⟩:=al;refine T ?_;clear T;refine GJ ?_;intro Nx Cy;obtain⟨n,ao,rfl⟩:=getm hx;have bf:i<E.length:=(A8.mp ao).1;have hn:=aY n (Bl ao);obtain⟨k,O⟩:=DL hn.1;subst O;have az:k<L.length:=(by lia);have aO:k<N.length:=by rw[N3.tq.len];exact az
   have a0:=AC aO;have ae:=AC az;obtain⟨aB,eq,eu⟩:=N3.tq.at_ k _ _ a0 ae;have aP:Bv (N.map V.ref) (k:Int)=some (.ref N[k]):=BX (by rw[Bh,a0];rfl);have aQ:=ok.q _ (Bl ae);obtain⟨ar,au,aE,g4⟩:=aQ;generalize L[k]=qk at *
   have a1:E.take (i+1)=E.take i++[(k:Int)]:=by rw[DV,ao];rfl
   have Y:Ac H0 C:=λy o e=>q _ _ (p _ _ (s0 _ _ e)) (λz=>by rw[z,aI] at e;cases e) (λz=>by rw[z,aM] at e;cases e)
   have aR:ER C A j:=by
    refine an.go (λa J e=>q _ _ (p _ _ e) (λz=>by rw[z,eU] at e;cases e) (AK e u)) λJ e=>q _ _ (p _ _ e) aJ (AK e u)
   have aq:=(hN.same Y).lc (K:=K) aR.ans;refine Or.inr (Or.inl ⟨_,.ref R0,Ap.of (Y _ _ eN),rfl,Or.inl ⟨_,.ref N[k],Ae.of (Y _ _ N3.er),aP,nt,A,t,N[k],aB,F,W.late j,ah,ai,qk,rfl,aq.caseH,aq.tab,ok.ok,ok.sm,ok.ol,ok.irr,ok.inn,Y _ _ eq,Y _ _ eu,ar,au,aE,g4,λbb aC T2 av wv lv a w ls ts H3 Q er hL eL eT ha hw aS af=>?_⟩⟩);refine⟨_,Ap.of er,rfl,?_⟩;have Z:=eY ok.ok ok.sm ok.inn af ar au;have bg:=Mg af
   cases a with
   |none =>
     obtain rfl:=ha.ansN;refine⟨rfl,Am (λζ=>?_) (λh=>absurd (A7 rfl) h)⟩;have aT:=aq.same Q;refine⟨nt,A,t,aC,T2,_,W.late j,lv,ls,ts,rfl,aT.caseH,ok.ok,eL,aS,Z.1,eT,Z.2.1,e8 (W:=W.late j) aa.s3 Z.1 (by lia) (by lia),λy S=>?_,λD us H4 hD s4 eD a2 bh=>?_⟩;have h1:=Xo ok.ok ok.sm Z.1 S;have h2:(W.late j).as.length=L.length:=hA.len;have:=aa.lq;lia;have c:=Q.trans s4;have a3:=c _ _ G;refine⟨U,_,rfl,HB.k (k:=.inl (k:Int)) a3 (Mu (by have:=g.ko.len;have:=aa.lq;lia)),?_⟩;have I:C D=none:=Q.free hD;have a4:D≠U:=λz=>by rw[z,G] at I;cases I
     have tk:Tk C (upd H4 U (.dK (A0 r (.inl (k:Int)) (.ref D)))):=c.tk.trans (J5 a3);refine⟨_,_,_,_,_,d,fs,A0 r (.inl (k:Int)) (.ref D),rfl,λy o e n1 n2=>?_,Aa,?_,X.tk tk,by lia,?_⟩;rw[AE n1];exact c _ _ (q _ _ e n1 n2);rw[AE ax];exact c _ _ H;rw[a1];refine g.wait (λl J hl e=>?_) ae af (l:=D) (us:=us) ?_ ?_ (by lia) (λy S=>(Xo ok.ok ok.sm Z.1 ((a2 y).mp S)).1) λy S=>(a2 y).mpr S;rw[AE λz=>by rw[z,G] at e;cases e];exact c _ _ e;refine Classical.byContradiction λz=>?_
     cases e:ag D with
     |none=>exact z e
     |some o =>
       by_cases a5:D=R;rw[a5,H] at I;cases I;rw[q _ _ e a4 a5] at I;cases I
     rw[AE a4];exact eD
   |some aD =>
     obtain⟨pa,rfl,aU⟩:=ha.ansS;refine⟨rfl,Am (λh=>absurd (Bi h) (by simp)) (λζ=>?_)⟩;have aV:=Q _ _ H;refine⟨Or.inl ⟨rfl,_,Ae.of aV⟩,Ca,λm hm=>?_⟩;obtain⟨H4,aW,s4,aF⟩:=new_at (o:=.tup [.int k,.ref pa]) hm;rw[<-aW];have c:=Q.trans s4;have a6:=c _ _ H;have aX:d.length<=1000:=by have:=X.length;rw[An] at this;lia
     refine⟨_,a6,BK aX,?_⟩;have tk:Tk H4 (upd H4 R (.lst (d++[.ref m]))):=Nt a6;refine⟨_,_,_,_,_,d++[.ref m],fs++[((k:Int),aD)],r,rfl,λy o e n1 n2=>?_,?_,Aa,?_,by rw[AY,DJ];lia,?_⟩;rw[AE n2];exact c _ _ (q _ _ e n1 n2);rw[AE (Ne.symm ax)];exact c _ _ G;rw[Br];exact(X.tk (c.tk.trans tk)).snoc (.tup (tk _ _ aF) (.cons (.int _) (.cons (.tup (tk _ _ (s4 _ _ aU)) (.cons (.str _) (.cons (.int _) .nil))) .nil)));rw[a1];refine g.hit (λl J hl e=>?_) ae ⟨w,ls,ts,af⟩;rw[AE λz=>by rw[z,ab] at hl;cases hl];exact c _ _ e
inductive ED (K:Ah) (vs:List V) (H:Hp) (Q:VK):Prop where
 |mk (l N:Addr) (us:List Int) (kvs:List (AN×V)) (h0:vs=[.ref l,.ref N]) (h1:H l=some (.lst (us.map V.int))) (h2:us.length<=1000) (h3:H N=some (.dK kvs)) (h4:∀H',Ac H H'->Q (.bl (us.any λu=>(AL kvs (.inl u)).isSome)) H'):ED K vs H Q
def XX (K:Ah):Sp:=λvs H Q ζ=>ED K vs H Q
variable (P w K mg base) in
abbrev UN:Prop:=BG P w K mg base "uses_one" 1 ["questions", "new"] (XX K)
theorem jL(B:BH mg)(F:Bu K "uses_one" "uses_one" Pr f fd)(e:mg "uses_one" = some (.ref f)):UN P w K mg base:=by
 refine BZ F e fI (λg H Q E h=>?_) (λC A D s H g Q E m h=>?_);obtain⟨l,N,us,b,rfl,_⟩:=h;rfl;obtain⟨l,N,us,b,rfl,c,n,o,q⟩:=h;refine⟨_,(At (AW (BE (Wh rfl) B.b_any (Ab (G9 rfl Dv (Dk (pv 0)) (λζ ζ ζ ζ ζ=>(AA (i:=0) Dv.nd)) (λζ ζ ζ ζ ζ=>IK) (λζ ζ ζ ζ ζ=>(Jc (VA (LO m)) (pv 0) (pv 1) (by with_unfolding_all rfl)))) Af)))),?_⟩;(try dsimp only[AG,Cx.nox,Cx.wish])
 refine⟨⟨_,Ae.of c⟩,Sw (xs:=us.map V.int) (λv=>match v with|.int u=>V.bl (AL b (.inl u)).isSome|_=>V.bl false) (by rw[An];exact Dm (BK n)) (Ae.of c) (λj y p d R2 r a z t=>?_) (λp d a z x=>?_)⟩
 obtain⟨u,_,rfl⟩:=getm r;refine⟨N,_,rfl,Dq.k (k:=.inl u) (a _ _ o),?_⟩;have:=t _ (Ac.refl _);simpa using this;refine⟨d,us.map λu=>(AL b (.inl u)).isSome,rfl,Ae.of (by rw[x,DK,DK];rfl),?_⟩;have:=q _ a;rw[List.any_map];exact this
inductive Ci (K:Ah) (vs:List V) (H:Hp) (Q:VK):Prop where
 |mk (nt A t P:Addr) (F:Addr->Prop) (W:Wd) (qs:List Qu) (inn:Int) (ord:A') (ks:List Int) (h0:vs=[.ref nt,.ref A,.ref t,.ref P]) (h1:LC K F H nt A t W qs inn ord) (h2:Qk W qs inn ord) (h3:H P=some (.lst (ks.map V.int))) (h4:(∀k∈ks,0<=k/\k<qs.length)) (h5:∀H',Ac H H'->Q .non H'):Ci K vs H Q
def jM (K:Ah):Sp:=λvs H Q ζ=>Ci K vs H Q
variable (P w K mg base) in
abbrev UO:Prop:=BG P w K mg base "refuse_tangled" 8 ["net", "answers", "table", "answered"] (jM K)
def jN(B:BH mg)(aa:Pb P w K mg base)(F:Bu K "refuse_tangled" "refuse_tangled" RH f fd)(G:mg "refuse_tangled" = some (.ref f)):UO P w K mg base:=by
 refine BZ F G Xy (λI H Q E h=>?_) (λal A an s H I Q E hr h=>?_);obtain⟨d,A,t,P,F,W,e,r,v,l,rfl,_⟩:=h;rfl
 . obtain⟨d,A,t,P,F,W,e,r,v,l,rfl,m,ok,o,ab,q⟩:=h
   obtain⟨ai,T,R,us,Gs,Es,J,c,L,g⟩:=m.net;refine⟨_,(At (CP CB rfl (Dk (pv 3)) (AA (i:=4) Xy.nd) (At (Db (A9 aa (Ab (pv 0) (Ab (pv 1) (Ab (pv 2) (Ab (Ay Az (Ay Az (pv 0) Ai) (pv 4)) Af))))))))),?_⟩;try dsimp only[AG,Cx.nox,Cx.wish]
   refine⟨⟨_,Ae.of o⟩,EZ (xs:=l.map V.int) (λi σ p=>∃j,σ=[some (.ref d),some (.ref A),some (.ref t),some (.ref P),j]/\Ac H p)
    ⟨none,rfl,Ac.refl _⟩ (λi σ p ζ ae=>by obtain⟨_,_,s⟩:=ae;exact Ae.of (s _ _ o)) ?_ ?_⟩
   rotate_left;rintro σ M ⟨j,rfl,b⟩;exact q _ b;rintro i x σ M N ⟨j,rfl,b⟩;obtain⟨n,af,rfl⟩:=getm N;have O:=ab n (Bl af);obtain⟨k,S⟩:=DL O.1;have y:k<e.length:=(by lia);have ag:k<c.length:=by rw[g.tq.len];exact y
   have z:=AC ag;have C:=AC y;obtain⟨u,eq,U⟩:=g.tq.at_ k _ _ z C;have ah:Bv (c.map V.ref) n=some (.ref c[k]):=by rw[S];exact BX (by rw[Bh,z];rfl)
   obtain⟨X,Y,Z,g4⟩:=ok.q _ (Bl C);have D:=m.same b;refine Or.inr (Or.inl ⟨_,.ref R,Ap.of (b _ _ L),rfl,Or.inl ⟨_,.ref c[k],Ae.of (b _ _ g.er),ah,d,A,t,c[k],u,F,W,r,v,e[k],rfl,D.caseH,D.tab,ok.ok,ok.sm,ok.ol,ok.irr,ok.inn,b _ _ eq,b _ _ U,X,Y,Z,g4,λaj ak T av wv lv a w ls J H3 s3 ζ ζ ζ ζ ζ ζ ζ ζ=>?_⟩⟩);exact⟨_,rfl,b.trans s3⟩
def Pc(m:Nat):((List.range m).map λj:Nat=>V.int j)=((List.range m).map λj:Nat=>(j:Int)).map V.int:=by rw[DK];rfl
def FQ(h:i<m):((List.range m).map λj:Nat=>V.int j)[i]?=some (.int i):=by rw[Bh,List.getElem?_range h];rfl
variable {H:Hp}{v:V}{d:Dt}
def MW{F:Addr->Prop}{e:Dt}(h:Bd F H v (.tup [d,e])):∃m x y,v=.ref m/\H m=some (.tup [x,y])/\Bd F H x d/\Bd F H y e:=by
 cases h with
 | tup h t =>
   cases t with
   |cons a t =>
     cases t with
     |cons b t =>
       cases t with
       |nil=>exact⟨_,_,_,rfl,h,a,b⟩
inductive Fg (K:Ah) (vs:List V) (H:Hp) (Q:VK):Prop where
 |mk (nt t Kn Th:Addr) (F:Addr->Prop) (W:Wd) (qs:List Qu) (inn:Int) (ord:A') (h0:vs=[.ref nt,.ref t,.ref Kn,.ref Th]) (h1:LN K F H nt t W qs inn ord) (h2:J6 W qs inn ord) (h3:H Kn=some (.lst (List.replicate qs.length .non))) (h4:H Th=some (.lst ((List.range qs.length).map λj:Nat=>V.int j))) (h5:∀(r A Tn:Addr)(n:Nat)(as:List AH)(ts:List Int)(H':Hp),Ac H H'->H A=none->H Tn=none->A≠Tn->H' r=some (.tup [.ref A,.ref Tn])->ER H' A as->H' Tn=some (.lst (ts.map V.int))->Run W qs inn ord n as ts->FZ W qs inn ord as as->Q (.ref r) H'):Fg K vs H Q
def jO (K:Ah):Sp:=λvs H Q ζ=>Fg K vs H Q
variable (P w K mg base) in
abbrev UP:Prop:=BG P w K mg base "settled" 9 ["net", "table", "known", "those"] (jO K)
theorem jP(B:BH mg)(bn:UM P w K mg base)(bo:UN P w K mg base)(bp:UO P w K mg base)(F:Bu K "settled" "settled" M7 f fd)(hm:mg "settled" = some (.ref f)):UP P w K mg base:=by
 refine BZ F hm Hh (λq H bh bi h=>?_) (λbN A bR s H q bh bi hr h=>?_);obtain⟨nt,t,Kn,Th,F,W,qs,inn,ord,rfl,_⟩:=h;rfl;obtain⟨nt,t,Kn,Th,F,W,qs,inn,ord,rfl,hN,aa,a8,ab,bj⟩:=h
 have lq:=aa.lq;generalize hm:qs.length=m at *
 refine⟨_,(Ao (AX (i:=4) Hh.nd (G9 (g:=NT K 2 (Hk (Kz 0) (Hk (Kz 1) NS))) (te:=UW (tB (GV (Si K false) (B5 0) (B5 2))) (tC .non) (B5 1)) rfl CK (P0 rfl B.b_enumerate (Ab (pv 2) Af)) (λζ ζ ζ ζ ζ=>(Cq (n:=2) rfl (AI (AA (i:=0) CK.nd) (AI (AA (i:=1) CK.nd) Cp)))) (λζ ζ ζ ζ ζ=>IK) (λζ ζ ζ ζ ζ=>(X8 (Bt Yv (pv 0) (pv 2) (by with_unfolding_all rfl)) GR (pv 1)))))
  (Ao (AX (i:=5) Hh.nd (AF Xl (CC (Ab Ai Af)) (BE DM B.b_len (Ab (pv 4) Af))))
  (Ao (AX (i:=6) Hh.nd YG)
  (Ao (AX (i:=7) Hh.nd (pv 3))
  (Ao (AX (i:=8) Hh.nd Ai)
  (Ao (UX CB (Jo (pv 7)) (Ao (VP (i:=8) Hh.nd rfl (Or.inl rfl) Ai U0)
   (Ao (AX (i:=9) Hh.nd (A9 bn (Ab (pv 0) (Ab (pv 4) (Ab (pv 1) (Ab (pv 7) (Ab (pv 6) Af)))))))
   (Ao (CP CB rfl (Dk (pv 9)) (Cq (n:=2) rfl (AI (AA (i:=10) Hh.nd) (AI (AA (i:=11) Hh.nd) Cp))) (Ao (Eb (pv 11) (Pw (pv 4) (pv 10) Sg))
    (At (Eb (pv 8) (Pw (pv 5) (pv 10) Sg)))))
   (Ao (AX (i:=12) Hh.nd (GA (eQ rfl) B.b_dict (Ab (pv 9) Af)))
   (At (Vz (i:=7) Hh.nd rfl (Or.inl rfl) (tc:=NN (tB (NL (GV (KE K) (B5 2) (B5 0)))) (tB (Ht (XX K) [] E0 (Lx (KI (B5 3) (B5 0)) (Lx (B5 1) Hr))))) rfl DZ (Dk (pv 3)) (λζ ζ ζ ζ ζ=>(AA (i:=0) DZ.nd)) (λζ ζ ζ ζ ζ=>(PQ (PW.pt (GU (F8 (Gy (Ay Az (pv 2) (pv 0)))) (GS (Fn (A9 bo (Ab (Vm (LO hr) (pv 3) (pv 0) (λζ ζ=>rfl)) (Ab (pv 1) Af))))))))) (λζ ζ ζ ζ ζ=>(pv 0)))))))))
  (Ao (Db (A9 bp (Ab (pv 0) (Ab (pv 4) (Ab (pv 1) (Ab (G9 (tc:=tB (Kx (GV (KE K) (B5 1) (B5 0)))) rfl D0 (Dk (pv 3)) (λζ ζ ζ ζ ζ=>(AA (i:=0) D0.nd)) (λζ ζ ζ ζ ζ=>(PQ (F8 (NM (Ay Az (pv 1) (pv 0)))))) (λζ ζ ζ ζ ζ=>(pv 0))) Af))))))
  (At (AW (Bx (Ab (pv 4) (Ab (pv 5) Af)))))))))))),?_⟩
 (try dsimp only[AG,Cx.nox,Cx.wish]);refine⟨Kn,rfl,⟨_,a8⟩,fA (xs:=List.replicate m .non) (λD i C r=>Ac H r/\r D=some (.lst C)/\C=List.replicate i .non) (λD G=>⟨Bf G,Aa,rfl⟩) (λD i C H2 p=>Ae.of (p.1 _ _ a8)) (λD i x bL C H2 ah G u hT p k=>?_) (λA C bM aJ p=>?_)⟩;obtain⟨s2,bq,rfl⟩:=p;rw[List.getElem?_replicate] at u;have hi:i<m:=Classical.byContradiction λz=>by rw[Ak z] at u;cases u
 have N:=Bf (o:=.tup [.int i,x]) hT;refine⟨_,Ap.of Aa,rfl,?_⟩;refine⟨Th,_,rfl,Or.inl (Ae.of ((s2.trans N) _ _ ab)),rfl,fE m,rfl,Am (λζ=>?_) (λh=>absurd (Mx hi) h)⟩;refine k _ _ (N _ _ bq) (by rw[List.length_replicate];exact BK (by lia)) ⟨λb o e=>?_,Aa,?_⟩;rw[AE (AK e G)];exact N _ _ (s2 _ _ e);rw[List.replicate_succ'];obtain⟨s1,a9,rfl⟩:=p;rw[List.length_replicate] at a9;refine⟨HH,λbk hZ=>?_⟩;obtain⟨H2,br,s2,eZ⟩:=new_at (o:=.lst [.int 0]) hZ;rw[<-br];have ao:=s2 _ _ a9;refine⟨_,Or.inl ⟨_,Ae.of ao,rfl⟩,bk,_,_,rfl,rfl,eZ,?_,?_,λy aA=>?_⟩;rw[List.length_replicate];lia;rw[List.length_replicate,Bo];show 1*m<=1000;lia;have N:=Bf (o:=.lst (List.replicate (((List.replicate m V.non).length:Nat):Int).toNat [V.int 0]).flatten) aA
 have a5:(upd H2 y (.lst (List.replicate (((List.replicate m V.non).length:Nat):Int).toNat [V.int 0]).flatten)) y=some (.lst ((List.replicate m (0:Int)).map V.int)):=by
  rw[Aa,List.length_replicate,Bo,Xr,List.map_replicate]
 generalize upd H2 y (.lst (List.replicate (((List.replicate m V.non).length:Nat):Int).toNat [V.int 0]).flatten)=H3 at N a5 ⊢;intro U hU;obtain⟨H4,bs,s4,bt⟩:=new_at (o:=.dK []) hU;rw[<-bs];have aK:=s4 _ _ (N _ _ ao);have bc:=s4 _ _ a5;have aL:=((s1.trans s2).trans N).trans s4;have bd:H y=none:=s1.free (s2.free aA);have aM:H U=none:=s1.free (s2.free (N.free hU));have ay:A≠y:=AK ao aA;have aB:A≠U:=AK (N _ _ ao) hU;have aN:y≠U:=AK a5 hU;have a7:=Ik.start (W:=W) (qs:=qs) (inn:=inn) (ord:=ord) (X:=λl=>l=A\/l=y) (H:=H4);rw[hm] at a7
 have bu:ER H4 A (List.replicate m none):=⟨_,aK,by
  rw[List.map_replicate];clear aK ao a9 a7 hm bc a5 a8 ab hN lq
  induction m with
  |zero=>exact .nil
  |succ m ih=>exact .cons .non (ih)⟩
 refine⟨λmm σ r=>∃(n:Nat)(as:List AH)(O:List Int)(T:List Int)(P:Addr)(az:List (AN×V))(u9 ai aj aC:Option V),σ=[some (.ref nt),some (.ref t),some (.ref Kn),some (.ref Th),some (.ref A),some (.ref y),some (.ref U),some (.ref P),some (.int n),u9,ai,aj,aC]/\Ac H r/\r P=some (.lst (T.map V.int))/\ER r A as/\r y=some (.lst (O.map V.int))/\r U=some (.dK az)/\Ik W qs inn ord (λl=>l=A\/l=y) r az n as O T/\T.length<=40/\mm=nn as+(if T=[] then 0 else 1),⟨_,0,_,_,_,Th,[],none,none,none,none,rfl,aL,by rw[<-Pc];exact aL _ _ ab,bu,bc,bt,a7,by rw[An,List.length_range];exact lq,rfl⟩,?_⟩;refine λmm σ H5 L=>AM λY c=>?_;obtain⟨n,as,O,T,P,az,u9,ai,aj,aC,rfl,s5,aD,ae,av,a0,Z,bl,bv⟩:=L;refine c ?_;clear c;have hA:=(Z.run.aok aa.toSOk).1;have be:as.length=m:=hA.len.trans hm;refine⟨P,_,rfl,Ae.of aD,?_⟩
 by_cases hd:T=[];subst hd;refine Bb ?_;have nx:=Z.end_ aa.toSOk;refine⟨⟨_,Ae.of (s5 _ _ ab)⟩,PZ (xs:=(List.range m).map λj:Nat=>V.int j) (λD i C r=>∃d:List Int,C=d.map V.int/\Ac H5 r/\r D=some (.lst C)/\d.length<=i/\∀k∈d,0<=k/\k<(m:Int)) (λD G=>⟨[],rfl,Bf G,Aa,AD _,λk I=>by cases I⟩) (λD i C r p=>?_) (λD i x C Q ah R0 G u p k k0=>?_) (λD C Q G p=>?_)⟩;obtain⟨d,_,s,_⟩:=p;exact Ae.of (s _ _ (s5 _ _ ab));refine AM λY c=>?_;obtain⟨d,rfl,R,a1,lz,M⟩:=p;refine c ?_;clear c;have hi:i<m:=by have:=(A8.mp u).1;rw[An,List.length_range] at this;exact this
 rw[FQ hi] at u;cases u;have ak:ER Q A as:=ae.go R.tk λζ e=>R _ _ e;obtain⟨q,v,e1,e2,_⟩:=ak.get (k:=i) (by lia);refine Or.inl ⟨q,v,Ae.of e1,e2,rfl,Am (λζ=>?_) (λζ=>?_)⟩;refine k _ _ a1 (by rw[An];exact BK (by lia)) ⟨d++[(i:Int)],by rw[Br];rfl,λb o e=>?_,Aa,by rw[AY,DJ];lia,λa6 J=>?_⟩;rw[AE (AK e G)];exact R _ _ e;rcases BI.mp J with J|J;exact M a6 J;rw[AZ.mp J];lia;exact k0 _ ⟨d,rfl,R,a1,by lia,M⟩;refine AM λY c=>?_;obtain⟨d,rfl,R,a1,_,M⟩:=p;refine c ?_;clear c;have ak:ER Q A as:=ae.go R.tk λζ e=>R _ _ e;refine⟨nt,A,t,D,F,W.late as,qs,inn,ord,d,rfl,(hN.same (s5.trans R)).lc ak.ans,aa.all as hA,a1,λk I=>by rw[hm];exact M k I,λH7 s7=>?_⟩;refine⟨Ca,λaw bw=>?_⟩;have s8:=Bf (o:=.tup [.ref A,.ref y]) bw;have a2:=(R.trans s7).trans s8;exact bj aw A y n as O _ (s5.trans a2) aJ bd ay Aa (ae.go a2.tk λζ e=>a2 _ _ e) (a2 _ _ av) Z.run nx;refine Am (λζ=>?_) (λh=>absurd (by cases T with|nil=>exact absurd rfl hd|cons a aw=>rfl) h);refine⟨_,λζ ζ h=>h,?_⟩;refine⟨_,rfl,?_⟩;cbv
 have bH:∀k∈T,0<=k/\k<qs.length:=λk I=>by
  obtain⟨j,rfl,h1,_⟩:=Z.du k I;lia
 refine⟨nt,A,t,P,U,F,W,qs,inn,ord,as,T,az,H,rfl,s5,aM,hN,aa,hA,ae,a0,Z.ko,aD,bH,bl,λah rv fs bf Q hR b6 bx aE aF bO ft=>?_⟩;have aq:∃q,H5 A=some (.lst q):=by obtain⟨q,e,_⟩:=ae;exact⟨q,e⟩
 obtain⟨bQ,aq⟩:=aq;have aO:ah≠A:=λz=>by rw[z,aq] at hR;cases hR
 have aP:ah≠y:=λz=>by rw[z,av] at hR;cases hR
 have bz:Ac H Q:=λx o e=>b6 _ _ (s5 _ _ e) (λz=>by rw[z,aM] at e;cases e);have ak:ER Q A as:=ae.go (λa q e=>b6 _ _ e (λz=>by rw[z,a0] at e;cases e)) λq e=>b6 _ _ e aB;have aQ:=b6 _ _ aq aB;have aI:=b6 _ _ av aN
 have af:=Z.aft aa.toSOk hd ft (λl hl u=>by
  rcases u with rfl|rfl;rw[aq] at hl;cases hl
  rw[av] at hl;cases hl) (λl q u e=>b6 _ _ e (λz=>by rw[z,a0] at e;cases e))
 have opn:∀f∈fs,∃k:Nat,f.1=(k:Int)/\k<m/\as[k]?=some none:=λf hf=>by
  refine AM λY c=>?_;obtain⟨k,_,e1,e2,_,_⟩:=ft.fd f hf;refine c ?_;clear c;obtain⟨j,e5,e6,e7⟩:=Z.du _ e2;have:k=j:=(by lia);subst this;exact⟨k,e1,by lia,e7⟩
 have b0:O.length=m:=(Z.run.aok aa.toSOk).2.trans hm;clear ae av a0 aD
 refine⟨⟨_,Ae.of aE⟩,EZ (xs:=rv) (λi σ r=>∃ai aj,σ=[some (.ref nt),some (.ref t),some (.ref Kn),some (.ref Th),some (.ref A),some (.ref y),some (.ref U),some (.ref P),some (.int ((n:Int)+1)),some (.ref ah),ai,aj,aC]/\(∀x o,Q x=some o->x≠A->x≠y->r x=some o)/\ER r A (BR as (fs.take i))/\r y=some (.lst ((Di O ((n:Int)+1) (fs.take i)).map V.int)))
  ⟨_,_,rfl,λζ ζ e ζ ζ=>e,by rw[Er];exact ak,by rw[Er];exact aI⟩ (λi σ r ζ b1=>by obtain⟨_,_,_,b,_⟩:=b1;exact Ae.of (b _ _ aE aO aP)) ?_ ?_⟩
 refine λi x σ H7 u L=>AM λY c=>?_;obtain⟨ai,aj,rfl,S,ar,an⟩:=L;refine c ?_;clear c;refine GJ ?_;intro Nx Cy;have a3:Tk Q H7:=λa q e=>S _ _ e (λz=>by rw[z,aQ] at e;cases e) (λz=>by rw[z,aI] at e;cases e);obtain⟨f,aG,b2⟩:=J4 (aF.tk a3) u;refine AM λY c=>?_;obtain⟨fm,x1,y1,rfl,bm,b3,b4⟩:=MW b2;refine c ?_;clear c;obtain rfl:=Nq b3;obtain⟨k,ek,I,_⟩:=opn f (Bl aG);have aR:f.1.toNat=k:=(by rw[ek,Bo]);obtain⟨q,aS,aT⟩:=ar;have b5:q.length=m:=by rw[aT.length,An,Qy];exact be
 have b7:((Di O ((n:Int)+1) (fs.take i)).map V.int).length=m:=by rw[An,TV];exact b0
 refine⟨_,Ap.of bm,rfl,?_⟩;refine⟨A,q,f.1,k,rfl,rfl,aS,?_,?_⟩;rw[ek,b5,Sy (by lia) (by lia),Bo];refine⟨y,_,f.1,k,rfl,rfl,(AE (Ne.symm ay)).trans an,?_,?_⟩;rw[ek,b7,Sy (by lia) (by lia),Bo];have b8:Tk H7 (upd (upd H7 A (.lst (q.set k y1))) y (.lst (((Di O ((n:Int)+1) (fs.take i)).map V.int).set k (.int ((n:Int)+1))))):=(Nt aS).trans (Nt ((AE (Ne.symm ay)).trans an));refine⟨_,_,rfl,λx o e n1 n2=>?_,⟨q.set k y1,?_,?_⟩,?_⟩;rw[AE n2,AE n1];exact S _ _ e n1 n2;rw[AE ay,Aa];rw[fB aG,aR,List.map_set];exact(aT.set b4 k).tk b8;rw[Aa,fC aG,aR,List.map_set];refine λσ H7 L=>AM λY c=>?_;obtain⟨ai,aj,rfl,S,ar,an⟩:=L;refine c ?_;clear c;have aU:rv.length=fs.length:=(by rw[aF.length,An]);rw[aU,Ej] at ar an;have a3:Tk Q H7:=λa q e=>S _ _ e (λz=>by rw[z,aQ] at e;cases e) (λz=>by rw[z,aI] at e;cases e);have b9:Ac H H7:=λx o e=>S _ _ (bz _ _ e) (λz=>by rw[z,aJ] at e;cases e) (λz=>by rw[z,bd] at e;cases e);have aV:=S _ _ bx (Ne.symm aB) (Ne.symm aN);have aW:=af.keep (H'':=H7) λl q u e=>S _ _ e (λz=>u (.inl z)) (λz=>u (.inr z));obtain⟨ps,bA,bg⟩:=Im (aF.tk a3);refine⟨ah,rv,ps,rfl,S _ _ aE aO aP,by rw[aU];exact BK (by lia),bA,λNw bB=>?_⟩;obtain⟨H8,bC,s8,bD⟩:=new_at (o:=.dK (KJ [] ps)) bB;rw[<-bC];have aH:=b9.trans s8;have aX:=aW.keep (H'':=H8) λl q ζ e=>s8 _ _ e;have aY:ER H8 A (BR as fs):=ar.go s8.tk λζ e=>s8 _ _ e;have aZ:=s8 _ _ aV;have bI:=s8 _ _ an;have lA:(BR as fs).length=m:=by rw[Qy];exact be
 clear af aW ar ak a3 aV an S
 refine⟨⟨_,Ae.of (aH _ _ ab)⟩,PZ (xs:=(List.range m).map λj:Nat=>V.int j) (λD i C r=>∃d:List Int,C=d.map V.int/\Ac H8 r/\r D=some (.lst C)/\d.length<=i/\(∀k∈d,∃j:Nat,k=(j:Int)/\j<qs.length/\(BR as fs)[j]?=some none)/\(fs=[]->d=[])/\∀k:Nat,k<i->(BR as fs)[k]?=some none->(k:Int)∈d\/∃(l:Addr)(us:List Int),AL bf (.inl (k:Int))=some (.ref l)/\H8 l=some (.lst (us.map V.int))/\∀ax∈us,∀f∈fs,f.1≠ax)
  (λD G=>⟨[],rfl,Bf G,Aa,AD _,(λk I=>by cases I),λζ=>rfl,λk I=>absurd I (Nat.not_lt_zero _)⟩) (λD i C r p=>?_) (λD i x C H9 RR R0 G u p k k0=>?_) (λD C H9 G p=>?_)⟩
 obtain⟨d,_,s,_⟩:=p;exact Ae.of (s _ _ (aH _ _ ab));refine AM λY c=>?_;obtain⟨d,rfl,E,au,lz,M,L,al⟩:=p;refine c ?_;clear c;have hi:i<m:=by have:=(A8.mp u).1;rw[An,List.length_range] at this;exact this
 rw[FQ hi] at u;cases u;have bE:ER H9 A (BR as fs):=aY.go E.tk λζ e=>E _ _ e;obtain⟨q,v,e1,e2,hc⟩:=bE.get (k:=i) (by lia);refine Or.inl ⟨q,v,Ae.of e1,e2,rfl,?_⟩;rcases hc with⟨ho,rfl⟩|⟨p,tt,ho,rfl,_⟩;refine Am (λζ=>?_) (λh=>absurd (A7 rfl) h);obtain⟨B,l,us,u,hB,hu,ag⟩:=aX.us i (by lia) ho;refine⟨U,.ref l,rfl,by rw[<-hu.1];exact Dq.k (k:=.inl (i:Int)) (E _ _ aZ),l,Nw,us,KJ [] ps,rfl,E _ _ hu.2.1,hu.2.2.1,E _ _ bD,λbP a4=>⟨rfl,Am (λhb=>?_) (λhb=>?_)⟩⟩;obtain⟨ax,_,ba⟩:=Gh.mp hb;rw[Xq bg] at ba;obtain⟨f,hf,_⟩:=Gh.mp ba;have bJ:=E.trans a4;refine k _ _ (a4 _ _ au) (by rw[An];exact BK (by lia)) ⟨d++[(i:Int)],by rw[Br];rfl,λb o e=>?_,Aa,by rw[AY,DJ];lia,λa6 J=>?_,λe=>(by rw[e] at hf;cases hf),λj hj e=>?_⟩;rw[AE (AK e G)];exact bJ _ _ e;rcases BI.mp J with J|J;exact M a6 J;exact⟨i,AZ.mp J,by lia,ho⟩;by_cases ej:j=i;subst ej;exact .inl (by simp);rcases al j (by lia) e with h|h;exact .inl (Ek _ h);exact .inr h;refine k0 _ ⟨d,rfl,E.trans a4,a4 _ _ au,by lia,M,L,λj hj e=>?_⟩;by_cases ej:j=i;subst ej;refine .inr ⟨l,us,hu.1,hu.2.1,λax bF f hf z=>hb (Gh.mpr ⟨ax,bF,?_⟩)⟩;rw[Xq bg];exact Gh.mpr ⟨f,hf,A7 z⟩;exact al j (by lia) e;refine Am (λh=>absurd (Bi h) (by simp)) (λζ=>Bb (k0 _ ⟨d,rfl,E,au,by lia,M,L,λj hj e=>?_⟩));by_cases ej:j=i;subst ej;rw[ho] at e;cases e;exact al j (by lia) e;refine AM λY c=>?_;obtain⟨d,rfl,E,au,lz,M,L,al⟩:=p;refine c ?_;clear c;rw[An,List.length_range] at lz al;have bK:((n+1:Nat):Int)=(n:Int)+1:=by push_cast;rfl
 have bG:=aX.keep (H'':=H9) λl q ζ e=>E _ _ e;refine⟨nn (BR as fs)+(if d=[] then 0 else 1),?_,n+1,BR as fs,Di O ((n:Int)+1) fs,d,D,bf,_,_,_,_,by rw[bK];rfl,aH.trans E,au,aY.go E.tk λζ e=>E _ _ e,E _ _ bI,E _ _ aZ,bG.trn M L λk I e=>?_,by lia,rfl⟩
 rw[bv,Ak hd]
 cases bb:fs with
 |nil =>
   rw[Al (L bb)];exact Nat.lt_succ_of_le (TY [] as)
 |cons f aw =>
   obtain⟨k,e1,e2,e3⟩:=opn f (by rw[bb];exact BB);have:=OT (f:=f) (fs:=aw) (as:=as) (by rw[e1,Bo];exact e3);by_cases z0:d=[];rw[Al z0];lia;rw[Ak z0];lia
 rcases al k (by lia) e with h|⟨l,us,h1,h2,h3⟩;exact .inl h;exact .inr ⟨l,us,h1,E _ _ h2,h3⟩
inductive GP (K:Ah) (vs:List V) (H:Hp) (Q:VK):Prop where
 |mk (nt t:Addr) (F:Addr->Prop) (W:Wd) (qs:List Qu) (inn:Int) (ord:A') (h0:vs=[.ref nt,.ref t]) (h1:LN K F H nt t W qs inn ord) (h2:J6 W qs inn ord) (h3:∀(r A Tn:Addr)(n:Nat)(as:List AH)(ts:List Int)(H':Hp),Ac H H'->H A=none->H Tn=none->A≠Tn->H' r=some (.tup [.ref A,.ref Tn])->ER H' A as->H' Tn=some (.lst (ts.map V.int))->Run W qs inn ord n as ts->FZ W qs inn ord as as->Q (.ref r) H'):GP K vs H Q
def jQ (K:Ah):Sp:=λvs H Q ζ=>GP K vs H Q
variable (P w K mg base) in
abbrev Q0:Prop:=BG P w K mg base "still" 10 ["net", "table"] (jQ K)
theorem jR(B:BH mg)(aa:UP P w K mg base)(F:Bu K "still" "still" RI f fd)(v:mg "still" = some (.ref f)):Q0 P w K mg base:=by
 refine BZ F v Xz (λx H Q E h=>?_) (λal A ao s H x Q E hr h=>?_);obtain⟨d,t,F,W,a,l,m,rfl,_⟩:=h;rfl;obtain⟨d,t,F,W,a,l,m,rfl,e,G,q⟩:=h;obtain⟨aj,ak,R,us,Gs,Es,an,y,z,g⟩:=e.net;have lq:=G.lq;have ai:(((y.map V.ref).length:Nat):Int)=((a.length:Nat):Int):=(by rw[An,g.tq.len])
 refine⟨_,(Ao (AX (i:=2) Xz.nd (BE DM B.b_len (Ab (Ay Az (pv 0) Ai) Af)))
  (At (AW (A9 aa (Ab (pv 0) (Ab (pv 1) (Ab (AF Xl (CC (Ab GR Af)) (pv 2)) (Ab (GA (eJ rfl) B.b_list (Ab (GA eI B.b_range (Ab (pv 2) Af)) Af)) Af)))))))),?_⟩
 (try dsimp only[AG,Cx.nox,Cx.wish]);refine Or.inr (Or.inl ⟨_,.ref R,Ap.of z,rfl,_,Or.inl ⟨_,Ae.of g.er,rfl⟩,?_⟩);rw[ai];refine⟨HH,λZ C=>?_⟩;have D:=Bf (o:=.lst [.non]) C;refine⟨Z,_,_,rfl,rfl,Aa,by lia,?_,λb ab=>?_⟩;show 1*_<=1000;rw[Bo];lia;have u:(upd (upd H Z (.lst [.non])) b (.lst (List.replicate ((a.length:Nat):Int).toNat [V.non]).flatten)) b=some (.lst (List.replicate a.length .non)):=(by rw[Aa,Bo,Xr]);have j:=D.trans (Bf (o:=.lst (List.replicate ((a.length:Nat):Int).toNat [V.non]).flatten) ab);generalize upd (upd H Z (.lst [.non])) b (.lst (List.replicate ((a.length:Nat):Int).toNat [V.non]).flatten)=H2 at u j ⊢;refine⟨_,rfl,λp I=>⟨p,a.length,rfl,Aa,by lia,λJ ae=>?_⟩⟩;have L:=Bf (o:=.rng 0 ((a.length:Nat):Int)) I;have k:=L.trans (Bf (o:=.lst ((List.range a.length).map λi:Nat=>V.int i)) ae);have c:=j.trans k;exact⟨d,t,b,J,F,W,a,l,m,rfl,e.same c,G,k _ _ u,Aa,λr A M n N O S T U af ag X Y ah ru nx=>q r A M n N O S (c.trans T) (c.free U) (c.free af) ag X Y ah ru nx⟩
inductive C8 (K:Ah) (vs:List V) (H:Hp) (Q:VK):Prop where
 |mk (nt S T R r A Tn:Addr) (qv av:List V) (ts:List Int) (h0:vs=[.ref nt,.ref r]) (h1:H nt=some (.tup [.ref S,.ref T,.ref R])) (h2:H R=some (.lst qv)) (h3:H r=some (.tup [.ref A,.ref Tn])) (h4:H A=some (.lst av)) (h5:H Tn=some (.lst (ts.map V.int))) (h6:av.length=qv.length) (h7:ts.length=qv.length) (h8:(∀(k:Nat)(v:V)(t:Int),av[k]?=some v->ts[k]?=some t->0<=t/\(v=.non↔t=0))) (h9:∀H',Ac H H'->Q (.bl true) H'):C8 K vs H Q
def jS (K:Ah):Sp:=λvs H Q ζ=>C8 K vs H Q
variable (P w K mg base) in
abbrev Q1:Prop:=BG P w K mg base "_law_shaped" 1 ["_law_net", "_law_told"] (jS K)
theorem jT(B:BH mg)(F:Bu K "_law_shaped" "_law_shaped" RJ f fd)(I:mg "_law_shaped" = some (.ref f)):Q1 P w K mg base:=by
 refine BZ F I Ub (λJ H Q E h=>?_) (λag A ah s H J Q E hr h=>?_);obtain⟨p,S,T,R,r,A,b,t,u,j,rfl,_⟩:=h;rfl;obtain⟨p,S,T,R,r,A,b,t,u,j,rfl,v,y,a,d,g,L,lt,X,q⟩:=h;have Z:(j.map V.int).length=t.length:=by rw[An];exact lt
 refine⟨_,(Ao (Bj (PW.pt (I0 (IE (Fn (BE GB B.b_isinstance (Ab (pv 1) (Ab (GC "tuple" rfl B.b_tuple (by decide +kernel)) Af))))) (Lh (Bt KA (BE DM B.b_len (Ab (pv 1) Af)) Ai (Bp _))))) (At (AW F7)) Bm)
  (Ao (Bj (PW.pt (I0 (IE (Fn (BE GB B.b_isinstance (Ab (Ay Az (pv 1) Ai) (Ab (GC "list" rfl B.b_list (by decide +kernel)) Af))))) (Lh (IE (Fn (BE GB B.b_isinstance (Ab (Ay Az (pv 1) Ai) (Ab (GC "list" rfl B.b_list (by decide +kernel)) Af)))))))) (At (AW F7)) Bm)
  (Ao (Bj (PW.pt (I0 (Bt KA (BE DM B.b_len (Ab (Ay Az (pv 1) Ai) Af)) (BE DM B.b_len (Ab (Ay Az (pv 0) Ai) Af)) (Bp _)) (Lh (Bt KA (BE DM B.b_len (Ab (Ay Az (pv 1) Ai) Af)) (BE DM B.b_len (Ab (Ay Az (pv 0) Ai) Af)) (Bp _))))) (At (AW F7)) Bm)
  (Ao (CP CB rfl (Wv rfl B.b_zip (Ab (Ay Az (pv 1) Ai) (Ab (Ay Az (pv 1) Ai) Af))) (Cq (n:=2) rfl (AI (AA (i:=2) Ub.nd) (AI (AA (i:=3) Ub.nd) Cp))) (Ao (Bj (PW.pt (I0 (IE (Fn (BE GB B.b_isinstance (Ab (pv 3) (Ab (GC "int" rfl B.b_int (by decide +kernel)) Af))))) (I0 (Fn (BE GB B.b_isinstance (Ab (pv 3) (Ab (GC "bool" rfl B.b_bool (by decide +kernel)) Af)))) (Lh (Bt F9 (pv 3) Ai (Bp _)))))) (At (AW F7)) Bm)
   (At (Bj (Bt KA (RO (Gy (pv 2))) (Jc CF (pv 3) Ai (Bp _)) (Bp _)) (At (AW F7)) Bm))))
  (At (AW F7)))))),?_⟩
 (try dsimp only[AG,Cx.nox,Cx.wish]);refine⟨_,.tup,.tup,rfl,.tup (Ap.of a),rfl,Bb ⟨_,Or.inr ⟨_,Ap.of a,rfl⟩,rfl,rfl,Am (λh=>absurd h (by simp)) (λζ=>?_)⟩⟩;refine Or.inr (Or.inl ⟨_,.ref A,Ap.of a,rfl,_,.lst,.lst,rfl,.lst (Ae.of d),rfl,Bb (Or.inr (Or.inl ⟨_,.ref b,Ap.of a,rfl,_,.lst,.lst,rfl,.lst (Ae.of g),rfl,Bb ?_⟩))⟩);refine Or.inr (Or.inl ⟨_,.ref A,Ap.of a,rfl,_,Or.inl ⟨_,Ae.of d,rfl⟩,Or.inr (Or.inl ⟨_,.ref R,Ap.of v,rfl,_,Or.inl ⟨_,Ae.of y,rfl⟩,rfl,rfl,Am (λh=>absurd h (by simp[L])) (λζ=>?_)⟩)⟩);refine Or.inr (Or.inl ⟨_,.ref b,Ap.of a,rfl,_,Or.inl ⟨_,Ae.of g,rfl⟩,Or.inr (Or.inl ⟨_,.ref R,Ap.of v,rfl,_,Or.inl ⟨_,Ae.of y,rfl⟩,rfl,rfl,Am (λh=>absurd h (by rw[Z];simp)) (λζ=>?_)⟩)⟩);refine Or.inr (Or.inl ⟨_,.ref A,Ap.of a,rfl,Or.inr (Or.inl ⟨_,.ref b,Ap.of a,rfl,A,b,rfl,Or.inl ⟨⟨_,Ae.of d⟩,⟨_,Ae.of g⟩,Vr (xs:=u) (ys:=j.map V.int) (λi σ C=>∃k l,σ=[some (.ref p),some (.ref r),k,l]/\Ac H C) ⟨none,none,rfl,Ac.refl _⟩ (λi σ C aa=>by obtain⟨_,_,_,s⟩:=aa;exact⟨Ae.of (s _ _ d),Ae.of (s _ _ g)⟩) ?_ ?_⟩⟩)⟩);rintro i x af M σ Y N U W ⟨k,l,rfl,m⟩;obtain⟨O,ab,rfl⟩:=getm U;obtain⟨z1,D⟩:=X i x O N ab;have G:=Bf (o:=.tup [x,.int O]) W;refine⟨_,Ap.of Aa,rfl,?_⟩;generalize upd Y M (.tup [x,.int O])=H2 at G ⊢;have ae:=m.trans G;refine⟨_,.int,.int,rfl,.int O,rfl,Bb ⟨_,.bool,.int,rfl,.int O,rfl,Bb ⟨rfl,Am (λh=>absurd (Bi h) (by show ¬O<0;lia)) (λζ=>?_)⟩⟩⟩;refine⟨rfl,rfl,rfl,Am (λh=>?_) (λζ=>⟨_,_,rfl,ae⟩)⟩
 have e:decide (x=V.non)=decide (V.int O=V.int 0):=by
  by_cases c:O=0;rw[A7 (D.mpr c),A7 (by rw[c])];rw[Do λz=>c (D.mp z),Do λz=>c (V.int.inj z)]
 rw[show V.bl (decide (x=V.non))=V.bl (decide (V.int O=V.int 0)) from by rw[e]] at h;simp at h
 rintro σ Y ⟨k,l,rfl,m⟩;exact q _ m
def XY{b:List Dt}(h:Ar K H v (.lst b)):∃a vs,v=.ref a/\Ae K H a vs/\Aj K H vs b:=by cases h with|lst h t=>exact⟨_,_,rfl,h,t⟩
def XZ{b:List Dt}(h:Ar K H v (.tup b)):∃a vs,v=.ref a/\Ap K H a vs/\Aj K H vs b:=by cases h with|tup h t=>exact⟨_,_,rfl,h,t⟩
def Pd:Dt->Ty
 |.non=>.non
 |.bl _=>.bool
 |.int _=>.int
 |.str _=>.str
 |.tup _=>.tup
 |.lst _=>.lst
def Q2(h:Ar K H v d):Jm K H v (Pd d):=by
 cases h with
 |non=>exact .non
 |bl b=>exact .bl b
 |int i=>exact .int i
 |str x=>exact .str x
 |tup h t=>exact .tup h
 |lst h t=>exact .lst h
def Kp(h:Ar K H v d):v=.non↔d=.non:=by
 cases h<;>simp
def Q3 (K:Ah) (n:Nat):Sp:=λvs H Q ζ=>∃(x y:V)(d e:Dt),vs=[x,y]/\Ar K H x d/\Ar K H y e/\Dn n d/\Dn n e/\∀(b:Bool)(H':Hp),Ac H H'->(b=true↔d=e)->Q (.bl b) H'
abbrev jU (K:Ah):Sp:=Q3 K 8
theorem jV(B:BH mg)(n:Nat)(ai:BG P w K mg base "_law_same" (0+n) ["_law_found", "_law_due"] (Q3 K n))(F:Bu K "_law_same" "_law_same" NJ f fd):Et P w K mg base IJ (0+n+1) f fd ["_law_found", "_law_due"] (Q3 K (n+1)):=by
 refine F.ok Uc (λvs H ag ah h=>?_) (λak aj al s H vs ag ah hr h=>?_);obtain⟨x,y,d,af,rfl,_⟩:=h;rfl;obtain⟨x,y,d,af,rfl,g,G,hd,U,q⟩:=h
 refine⟨_,(Ao (Bj (F8 (Gy (pv 1))) (At (AW (RO (Gy (pv 0))))) Bm)
  (Ao (Bj (Fn (BE GB B.b_isinstance (Ab (pv 1) (Ab (GC "str" rfl B.b_str (by decide +kernel)) Af)))) (At (AW (Pu (BE GB B.b_isinstance (Ab (pv 0) (Ab (GC "str" rfl B.b_str (by decide +kernel)) Af))) (RQ (Jc CF (pv 0) (pv 1) (Bp _)))))) Bm)
  (Ao (Bj (Fn (BE GB B.b_isinstance (Ab (pv 1) (Ab (GC "int" rfl B.b_int (by decide +kernel)) Af)))) (At (AW (Pu (BE GB B.b_isinstance (Ab (pv 0) (Ab (GC "int" rfl B.b_int (by decide +kernel)) Af))) (Pu (Li (BE GB B.b_isinstance (Ab (pv 0) (Ab (GC "bool" rfl B.b_bool (by decide +kernel)) Af)))) (RQ (Jc CF (pv 0) (pv 1) (Bp _))))))) Bm)
  (Ao (Bj (PW.pt (GU (Fn (BE GB B.b_isinstance (Ab (pv 1) (Ab (GC "list" rfl B.b_list (by decide +kernel)) Af)))) (GS (IE (Fn (BE GB B.b_isinstance (Ab (pv 0) (Ab (GC "list" rfl B.b_list (by decide +kernel)) Af)))))))) (At (AW F7)) Bm)
  (Ao (Bj (PW.pt (GU (Fn (BE GB B.b_isinstance (Ab (pv 1) (Ab (GC "tuple" rfl B.b_tuple (by decide +kernel)) Af)))) (GS (IE (Fn (BE GB B.b_isinstance (Ab (pv 0) (Ab (GC "tuple" rfl B.b_tuple (by decide +kernel)) Af)))))))) (At (AW F7)) Bm)
  (Ao (Bj (Bt KA (BE DM B.b_len (Ab (pv 0) Af)) (BE DM B.b_len (Ab (pv 1) Af)) (Bp _)) (At (AW F7)) Bm)
  (Ao (CP CB rfl (Wv rfl B.b_zip (Ab (pv 0) (Ab (pv 1) Af))) (Cq (n:=2) rfl (AI (AA (i:=2) Uc.nd) (AI (AA (i:=3) Uc.nd) Cp))) (At (Bj (IE (Fn (A9 ai (Ab (pv 2) (Ab (pv 3) Af)) (hr.mono (by lia))))) (At (AW F7)) Bm)))
  (At (AW F7))))))))),?_⟩
 try dsimp only[AG,Cx.nox,Cx.wish]
 cases af with
 |non =>
   cases G;refine⟨rfl,Am (λζ=>?_) (λh=>absurd (A7 rfl) h)⟩;exact q _ _ (Ac.refl _) ((decide_eq_true_iff).trans (Kp g))
 |bl b=>exact False.elim U
 |int s =>
   cases G;refine⟨rfl,Am (λh=>absurd (Bi h) (by simp)) (λζ=>?_)⟩;refine⟨_,.str,.int,rfl,.int s,rfl,Bb ?_⟩;refine⟨_,.int,.int,rfl,.int s,rfl,CV ?_⟩;refine⟨_,.int,Pd d,rfl,Q2 g,_,rfl,?_⟩
   cases d with
   |bl _=>exact False.elim hd
   |int Z =>
     cases g;refine CV ⟨_,.bool,.int,rfl,.int _,_,rfl,_,rfl,CV ⟨rfl,?_⟩⟩;refine q _ _ (Ac.refl _) ⟨λz=>?_,λz=>?_⟩;rw[V.int.inj (Bi z)];cases z;exact A7 rfl
   |_=>exact Bb (q false _ (Ac.refl _) ⟨λz=>(by cases z),λz=>(by cases z)⟩)
 |str s =>
   cases G;refine⟨rfl,Am (λh=>absurd (Bi h) (by simp)) (λζ=>?_)⟩;refine⟨_,.str,.str,rfl,.str s,rfl,CV ?_⟩;refine⟨_,.str,Pd d,rfl,Q2 g,_,rfl,?_⟩
   cases d with
   |bl _=>exact False.elim hd
   |str Z =>
     cases g;refine CV ⟨rfl,?_⟩;refine q _ _ (Ac.refl _) ⟨λz=>?_,λz=>?_⟩;rw[V.str.inj (Bi z)];cases z;exact A7 rfl
   |_=>exact Bb (q false _ (Ac.refl _) ⟨λz=>(by cases z),λz=>(by cases z)⟩)
 | lst k =>
   obtain⟨b,W,rfl,e,I⟩:=XY G;have p:=I.length;refine⟨rfl,Am (λh=>absurd (Bi h) (by simp)) (λζ=>?_)⟩;refine⟨_,.str,.lst,rfl,.lst e,rfl,Bb ?_⟩;refine⟨_,.int,.lst,rfl,.lst e,rfl,Bb ?_⟩;refine⟨_,.lst,.lst,rfl,.lst e,rfl,CV ⟨_,.lst,Pd d,rfl,Q2 g,rfl,?_⟩⟩
   cases d with
   |lst r =>
     obtain⟨a,us,rfl,t,J⟩:=XY g;have u:=J.length;refine Bb ⟨_,.tup,.lst,rfl,.lst e,rfl,Bb (Bb ?_)⟩;refine⟨_,Or.inl ⟨_,t,rfl⟩,_,Or.inl ⟨_,e,rfl⟩,rfl,rfl,Am (λh=>?_) (λh=>?_)⟩;refine q false _ (Ac.refl _) ⟨λz=>(by cases z),λz=>?_⟩;cases z;rw[u,p] at h;simp at h
     have X:r.length=k.length:=by
      rw[u,p] at h;simp at h;lia
     refine⟨a,b,rfl,Or.inl ⟨⟨_,t⟩,⟨_,e⟩,Vr (xs:=us) (ys:=W) (λi σ L=>∃v A,σ=[some (.ref a),some (.ref b),v,A]/\Ac H L/\∀j:Nat,j<i->r[j]?=k[j]?) ⟨none,none,rfl,Ac.refl _,λj M=>absurd M (Nat.not_lt_zero _)⟩ (λi σ L aa=>by obtain⟨_,_,_,s,_⟩:=aa;exact⟨s.seq t,s.seq e⟩) ?_ ?_⟩⟩;rintro i x y T σ Y ab ae hT ⟨v,A,rfl,C,D⟩;obtain⟨N,l,t1⟩:=J.get ab;obtain⟨O,E,t2⟩:=I.get ae;have Q:=Bf (o:=.tup [x,y]) hT;refine⟨_,Ap.of Aa,rfl,?_⟩;generalize upd Y T (.tup [x,y])=H2 at Q ⊢;have m:=C.trans Q;refine⟨x,y,N,O,rfl,t1.same m,t2.same m,hd N (Bl l),U O (Bl E),λbb H3 R S=>⟨rfl,?_⟩⟩
     cases bb with
     |false =>
       refine CV (q false _ (m.trans R) ⟨λz=>(by cases z),λz=>?_⟩);have e1:r=k:=by cases z;rfl
       rw[e1,E] at l;have:=S.mpr (AO l).symm;cases this
     |true =>
       refine Bb ⟨_,_,rfl,m.trans R,λj M=>?_⟩;by_cases c:j=i;rw[c,l,E,S.mp rfl];exact D j (by lia)
     rintro σ Y ⟨v,A,rfl,C,D⟩;refine q true _ C ⟨λζ=>?_,λζ=>rfl⟩;congr 1;refine List.ext_getElem? λj=>?_;by_cases c:j<k.length
     exact D j (by simp only[p,u,X,Nat.min_self] at *;lia)
     rw[Fh (by lia),Fh (by lia)]
   |bl _=>exact False.elim hd
   |_=>exact CV (q false _ (Ac.refl _) ⟨λz=>(by cases z),λz=>(by cases z)⟩)
 | tup k =>
   obtain⟨b,W,rfl,e,I⟩:=XZ G;have p:=I.length;refine⟨rfl,Am (λh=>absurd (Bi h) (by simp)) (λζ=>?_)⟩;refine⟨_,.str,.tup,rfl,.tup e,rfl,Bb ?_⟩;refine⟨_,.int,.tup,rfl,.tup e,rfl,Bb ?_⟩;refine⟨_,.lst,.tup,rfl,.tup e,rfl,Bb (Bb ?_)⟩;refine⟨_,.tup,.tup,rfl,.tup e,rfl,CV ⟨_,.tup,Pd d,rfl,Q2 g,rfl,?_⟩⟩
   cases d with
   |tup r =>
     obtain⟨a,us,rfl,t,J⟩:=XZ g;have u:=J.length;refine Bb ?_;refine⟨_,Or.inr ⟨_,t,rfl⟩,_,Or.inr ⟨_,e,rfl⟩,rfl,rfl,Am (λh=>?_) (λh=>?_)⟩;refine q false _ (Ac.refl _) ⟨λz=>(by cases z),λz=>?_⟩;cases z;rw[u,p] at h;simp at h
     have X:r.length=k.length:=by
      rw[u,p] at h;simp at h;lia
     refine⟨a,b,rfl,Or.inr ⟨⟨_,t⟩,⟨_,e⟩,cB (xs:=us) (ys:=W) (λi σ L=>∃v A,σ=[some (.ref a),some (.ref b),v,A]/\Ac H L/\∀j:Nat,j<i->r[j]?=k[j]?) ⟨none,none,rfl,Ac.refl _,λj M=>absurd M (Nat.not_lt_zero _)⟩ (λi σ L aa=>by obtain⟨_,_,_,s,_⟩:=aa;exact⟨s.seqT t,s.seqT e⟩) ?_ ?_⟩⟩;rintro i x y T σ Y ab ae hT ⟨v,A,rfl,C,D⟩;obtain⟨N,l,t1⟩:=J.get ab;obtain⟨O,E,t2⟩:=I.get ae;have Q:=Bf (o:=.tup [x,y]) hT;refine⟨_,Ap.of Aa,rfl,?_⟩;generalize upd Y T (.tup [x,y])=H2 at Q ⊢;have m:=C.trans Q;refine⟨x,y,N,O,rfl,t1.same m,t2.same m,hd N (Bl l),U O (Bl E),λbb H3 R S=>⟨rfl,?_⟩⟩
     cases bb with
     |false =>
       refine CV (q false _ (m.trans R) ⟨λz=>(by cases z),λz=>?_⟩);have e1:r=k:=by cases z;rfl
       rw[e1,E] at l;have:=S.mpr (AO l).symm;cases this
     |true =>
       refine Bb ⟨_,_,rfl,m.trans R,λj M=>?_⟩;by_cases c:j=i;rw[c,l,E,S.mp rfl];exact D j (by lia)
     rintro σ Y ⟨v,A,rfl,C,D⟩;refine q true _ C ⟨λζ=>?_,λζ=>rfl⟩;congr 1;refine List.ext_getElem? λj=>?_;by_cases c:j<k.length
     exact D j (by simp only[p,u,X,Nat.min_self] at *;lia)
     rw[Fh (by lia),Fh (by lia)]
   |bl _=>exact False.elim hd
   |_=>exact CV (q false _ (Ac.refl _) ⟨λz=>(by cases z),λz=>(by cases z)⟩)
def jW(B:BH mg)(F:Bu K "_law_same" "_law_same" NJ f fd)(a:mg "_law_same" = some (.ref f))(n:Nat):BG P w K mg base "_law_same" (0+n) ["_law_found", "_law_due"] (Q3 K n):=by
 have b:Binds K fd ["_law_found", "_law_due"] []:=F.binds λζ ζ ζ ζ ζ ζ us c=>(by obtain⟨g,i,rfl⟩:=Ip c;rfl)
 induction n with
 |zero=>exact⟨f,fd,⟨λd H Q E h=>(by obtain⟨_,_,_,_,_,_,_,h,_⟩:=h;exact False.elim h),λA k s H j us d Q E ζ ζ ζ ζ h=>(by obtain⟨_,_,_,_,_,_,_,h,_⟩:=h;exact False.elim h)⟩,a,F.kp,b⟩
 |succ n e=>exact⟨f,fd,jV B n e F,a,F.kp,b⟩
variable (P w K mg base) in
abbrev Q4:Prop:=BG P w K mg base "_law_same" 8 ["_law_found", "_law_due"] (jU K)
def jX(B:BH mg)(F:Bu K "_law_same" "_law_same" NJ f fd)(a:mg "_law_same" = some (.ref f)):Q4 P w K mg base:=
 jW B F a 8
inductive Iz (K:Ah) (vs:List V) (H:Hp) (Q:VK):Prop where
 |mk (nt A t:Addr) (F:Addr->Prop) (W:Wd) (qs:List Qu) (inn:Int) (ord:A') (n:Int) (k:Nat) (q:Qu) (h0:vs=[.ref nt,.ref A,.ref t,.int n]) (h1:n=k) (h2:qs[k]?=some q) (h3:LC K F H nt A t W qs inn ord) (h4:Qk W qs inn ord) (h5:∀(v:V)(a:C')(w:Option Wt)(ls:List Lk)(ts:List Int)(H':Hp),Ac H H'->Bd (λx=>H x=none) H' v (.tup [CW a,HZ w])->LU W inn ord q.1 q.2.1 q.2.2 0 a w ls ts->Q v H'):Iz K vs H Q
def Kq (K:Ah):Sp:=λvs H Q ζ=>Iz K vs H Q
variable (P w K mg base) in
abbrev Q5:Prop:=BG P w K mg base "find" 8 ["net", "answers", "table", "question"] (Kq K)
def jY(B:BH mg)(Z:Pb P w K mg base)(F:Bu K "find" "find" RK f fd)(x:mg "find" = some (.ref f)):Q5 P w K mg base:=by
 refine BZ F x OX (λy H Q E h=>?_) (λal A ao s H y Q E hr h=>?_);obtain⟨j,A,t,F,W,l,p,r,n,k,q,rfl,_⟩:=h;rfl;obtain⟨j,A,t,F,W,l,p,r,n,k,q,rfl,rfl,c,d,ok,z⟩:=h;obtain⟨ag,T,R,us,Gs,Es,m,b,C,e⟩:=d.net;have aa:k<l.length:=(A8.mp c).1;have ab:k<b.length:=by rw[e.tq.len];exact aa
 have v:=AC ab;obtain⟨u,eq,D⟩:=e.tq.at_ k _ q v c;have ae:Bv (b.map V.ref) (k:Int)=some (.ref b[k]):=BX (by rw[Bh,v];rfl);obtain⟨G,I,J,L⟩:=ok.q q (Bl c)
 refine⟨_,(Ao (Eb (A9 Z (Ab (pv 0) (Ab (pv 1) (Ab (pv 2) (Ab (Ay Az (Ay Az (pv 0) Ai) (pv 3)) Af))))) (Cq (n:=4) rfl (AI (AA (i:=4) OX.nd) (AI (AA (i:=5) OX.nd) (AI (AA (i:=6) OX.nd) (AI (AA (i:=7) OX.nd) Cp))))))
  (At (AW (Bx (Ab (pv 4) (Ab (pv 5) Af)))))),?_⟩
 (try dsimp only[AG,Cx.nox,Cx.wish]);refine Or.inr (Or.inl ⟨_,.ref R,Ap.of C,rfl,Or.inl ⟨_,.ref b[k],Ae.of e.er,ae,j,A,t,b[k],u,F,W,p,r,q,rfl,d.caseH,d.tab,ok.ok,ok.sm,ok.ol,ok.irr,ok.inn,eq,D,G,I,J,L,λah ai T M N lv a w ls m aj O S hL eL eT U X an af=>?_⟩⟩);refine⟨_,Ap.of S,rfl,?_⟩;refine⟨Ca,λak Y=>?_⟩;have g:=Bf (o:=.tup [M,N]) Y;exact z _ a w ls m _ (O.trans g) (.tup Aa (.cons (U.same g) (.cons (X.same g) .nil))) af
inductive C9 (K:Ah) (vs:List V) (H:Hp) (Q:VK):Prop where
 |mk (LA LT:Addr) (av:List V) (as:List AH) (ts:List Int) (m:Int) (h0:vs=[.ref LA,.ref LT,.int m]) (h1:H LA=some (.lst av)) (h2:Ax He H av (as.map CW)) (h3:H LT=some (.lst (ts.map V.int))) (h4:ts.length=as.length) (h5:as.length<=40) (h6:∀(D:Addr)(ms:List AH)(H':Hp),Ac H H'->ER H' D ms->Hf as ts m ms->Q (.ref D) H'):C9 K vs H Q
def jZ (K:Ah):Sp:=λvs H Q ζ=>C9 K vs H Q
variable (P w K mg base) in
abbrev Q6:Prop:=BG P w K mg base "_law_masked" 1 ["_law_answers", "_law_turns", "_law_turn"] (jZ K)
theorem j0(B:BH mg)(F:Bu K "_law_masked" "_law_masked" Ps f fd)(hm:mg "_law_masked" = some (.ref f)):Q6 P w K mg base:=by
 refine BZ F hm fJ (λvs H Q ae h=>?_) (λaq ao au s H vs Q ae hr h=>?_);obtain⟨LA,LT,p,I,q,m,rfl,_⟩:=h;rfl;obtain⟨LA,LT,p,I,q,m,rfl,X,aa,eT,lt,la,af⟩:=h;have ar:p.length=I.length:=(by rw[aa.length,An])
 refine⟨_,(At (AW (G9 (te:=GV (KE K) (N2 (Lx (tC .non) (Lx (GV (KE K) (B5 1) (B5 0)) Hr))) (PD (λxs H Q=>(∃i,xs=[V.int i]/\Q (.int i) H)\/∃k,xs=[V.bl k]/\Q (.int (if k then 1 else 0)) H) (Lx (R7 (Hm λi j=>.bl (decide (i<j))) (Hm λi j=>.bl (decide (i<j))) (tC (.int ((0:Nat):Int))) (GV (KE K) (B5 3) (B5 0)) (B5 2)) Hr))) rfl Cu (Jb rfl B.b_range (Ab (BE DM B.b_len (Ab (pv 0) Af)) Af)) (λζ ζ ζ ζ ζ=>(AA (i:=0) Cu.nd)) (λζ ζ ζ ζ ζ=>IK) (λζ ζ ζ ζ ζ=>(Ay Az (CC (Ab GR (Ab (Ay Az (pv 1) (pv 0)) Af))) (GA R9 B.b_int (Ab (Yk F9 F9 Ai (Ay Az (pv 3) (pv 0)) (pv 2)) Af))))))),?_⟩;try dsimp only[AG,Cx.nox,Cx.wish]
 refine⟨_,Or.inl ⟨_,Ae.of X,rfl⟩,(by lia),(by lia),SO (lo:=0) (n:=p.length) (λD i d J=>Ac H J/\J D=some (.lst d)/\∃g:List AH,Ax He J d (g.map CW)/\g.length=i/\∀(k:Nat)(o:AH)(t:Int),k<i->I[k]?=some o->q[k]?=some t->g[k]?=some (if 0<t/\t<m then o else none))
  (λD x=>⟨Bf x,Aa,[],.nil,rfl,λk o t hk=>absurd hk (Nat.not_lt_zero _)⟩) (λD i d Y RR x hi L k=>?_) (λD d Y x L=>?_)⟩
 refine AM λNz v=>?_;obtain⟨l,M,g,E,G,W⟩:=L;refine v ?_;clear v;have R:=AC hi;generalize p[i]=w at R;obtain⟨o,ho,ag⟩:=J4 (aa.same l) R;have S:=AC (show i<q.length by lia);generalize q[i]=O at S;have al:Bv p (0+(i:Int))=some w:=by rw[Int.zero_add];exact BX R
 have an:Bv (q.map V.int) (0+(i:Int))=some (.int O):=by rw[Int.zero_add];exact BX (by rw[Bh,S];rfl)
 refine Or.inl ⟨_,w,Ae.of (l _ _ X),al,Ca,λTL ah=>?_⟩;obtain⟨A,ai,r,T⟩:=new_at (o:=.lst [.non,w]) ah;rw[<-ai];have ab:=r _ _ M;have aj:d.length=i:=(by rw[E.length,An,G])
 have U:∀(y:V)(C:AH),Bd He A y (CW C)->C=(if 0<O/\O<m then o else none)->RR y A:=λy C hy he=>by
  have Z:Tk A (upd A D (.lst (d++[y]))):=Nt ab;refine k _ _ ab (by rw[aj];exact BK (by lia)) ⟨λb o e=>?_,Aa,g++[C],?_,by rw[AY,G];rfl,λj oj tj hj a u=>?_⟩;rw[AE (AK e x)];exact r _ _ (l _ _ e);rw[Br];exact((E.same r).tk Z).snoc (hy.tk Z);by_cases c:j=i;subst c;rw[ho] at a;rw[S] at u;rw[<-AO a,<-AO u,<-he,EW (by lia),G,Nat.sub_self];rfl;rw[EJ (by lia)];exact W j oj tj (by lia) a u
 have ak:=Ae.of (K:=K) ((l.trans r) _ _ eT);refine Or.inl ⟨_,.int O,ak,an,_,rfl,Am (λa=>?_) (λa=>?_)⟩;have N:(0:Int)<O:=Bi a;refine Or.inr ⟨_,rfl,?_⟩;by_cases c:O<m
 rw[show decide (O<m)=true from A7 c]
 exact Or.inl ⟨_,w,Ae.of T,BX (j:=1) rfl,U w o (ag.same r) (by rw[Al ⟨N,c⟩])⟩
 rw[show decide (O<m)=false from Do c]
 exact Or.inl ⟨_,.non,Ae.of T,BX (j:=0) rfl,U .non none .non (by rw[Ak λz=>c z.2])⟩;have N:¬(0:Int)<O:=λz=>a (A7 z);exact Or.inr ⟨_,rfl,Or.inl ⟨_,.non,Ae.of T,BX (j:=0) rfl,U .non none .non (by rw[Ak λz=>N z.1])⟩⟩;refine AM λNz v=>?_;obtain⟨l,M,g,E,G,W⟩:=L;refine v ?_;clear v;exact af D g Y l ⟨d,M,E⟩ ⟨by lia,λj o t a u=>W j o t (by have:=(A8.mp a).1;lia) a u⟩
def MX{gs:List (Str×Int)}{qs:List Qu}{c:List Cr}{inn:Int}{ord:A'}(h:NF ns ss gs qs c inn ord):J6 ⟨ss,gs,[],c⟩ qs inn ord:=by
 have d:=O5 ns;have e:=O6 ns;have f:=QP ns (Cg ns).length;have eq:qs.length=BL ns:=(by rw[h.qs,Uu]);have a:=QO (ls:=MR ns) (ns:=Ei ns) d.1 f.1 e.1 (Cg ns) (Cg ns).length;rw[<-h.ss] at a;refine {all:=λi b=>O7 h b.len b.rng,tr:=h.tb.ord.tr (XD (by decide)),s3:=λs g=>?_,lq:=by lia};have:=a.st s g;have:ET (BA ns)<=3:=by unfold ET;split<;>lia
 lia
theorem Pe(n:Nat):∀a:C',Dn (n+2) (CW a)
 |none=>True.intro
 |some p=>λd hd=>by
   rcases Cj.mp hd with rfl|hd;exact True.intro;rw[AZ.mp hd];exact True.intro
def MY{F:Addr->Prop}{e:Dt}(h:Bd F H v (.tup [d,e])):∃p x y,v=.ref p/\H p=some (.tup [x,y])/\Bd F H x d/\Bd F H y e:=by
 cases v with
 |ref m =>
   obtain⟨x,y,a,b,c⟩:=h.two;exact⟨m,x,y,rfl,a,b,c⟩
 |_=>cases h
theorem UQ{K:Ah}{H:Hp}:∀l:List Int,Aj K H (l.map V.int) (l.map Dt.int)
 |[]=>.nil
 |x::l=>.cons (.int x) (UQ l)
abbrev pairD (as:List AH) (ts:List Int):Dt:=.tup [.lst (as.map CW),.lst (ts.map Dt.int)]
def X0(as:List AH)(ts:List Int):Dn 8 (pairD as ts):=λd hd=>by
 rcases Cj.mp hd with rfl|hd;intro e b;obtain⟨a,_,rfl⟩:=A3.mp b;exact Pe 4 a;rw[AZ.mp hd];intro e b;obtain⟨a,_,rfl⟩:=A3.mp b;exact True.intro
def Kr{x:Int}{l:List Int}(h:x∈l):KG (.int x) (l.map V.int)=true:=by
 unfold KG;exact Gh.mpr ⟨.int x,A3.mpr ⟨x,h,rfl⟩,by simp[II]⟩
def j1(l:List Int):(l.map V.int).all IH=true:=by
 rw[List.all_map];exact List.all_eq_true.mpr λζ ζ=>rfl
inductive Lb (K:Ah) (vs:List V) (H:Hp) (Q:VK):Prop where
 |mk (a:Addr) (ns:List Int) (h0:vs=[.ref a]) (h1:Ae K H a (ns.map V.int)) (h2:ns.length<=63) (h3:∀H',Q (.bl true) H'):Lb K vs H Q
def Pf (K:Ah):Sp:=λvs H Q ζ=>Lb K vs H Q
theorem IA(B:BH mg)(aV:QR P w K mg base)(aW:Q0 P w K mg base)(bp:Q1 P w K mg base)(a8:Q4 P w K mg base)(aL:Q5 P w K mg base)(bj:Q6 P w K mg base)(F:Bu K "law" "law" Kv f fd):Et P w K mg base IJ 11 f fd ["_law_script"] (Pf K):=by
 refine F.ok J9 (λvs H bn bo h=>?_) (λbX A cs s H vs bn bo hr h=>?_);obtain⟨a,ns,rfl,_⟩:=h;rfl
 . obtain⟨a,ns,rfl,hS,bk,kq⟩:=h
   refine⟨_,(Ao (Eb (A9 aV (Ab (pv 0) Af)) (Cq (n:=2) rfl (AI (AA (i:=1) J9.nd) (AI (AA (i:=2) J9.nd) Cp))))
    (Ao (AX (i:=3) J9.nd (A9 aV (Ab (pv 0) Af)))
    (Ao (AX (i:=4) J9.nd (A9 aW (Ab (Ay Az (pv 3) Ai) (Ab (Ay Az (pv 3) Ai) Af))))
    (Ao (Bj (IE (Fn (A9 bp (Ab (pv 1) (Ab (pv 4) Af))))) (At (AW F7)) Bm)
    (Ao (AX (i:=5) J9.nd (GA Oc B.b_list (Ab (Ay Az (pv 4) Ai) Af)))
    (Ao (AX (i:=6) J9.nd (GA Oc B.b_list (Ab (Ay Az (pv 4) Ai) Af)))
    (Ao (CP CB rfl (Jb rfl B.b_range (Ab (BE DM B.b_len (Ab (pv 5) Af)) Af)) (AA (i:=7) J9.nd) (Ao (Bj (IE (Fn (A9 a8 (Ab (Ay Az (A9 aL (Ab (pv 1) (Ab (GA Oc B.b_list (Ab (pv 5) Af)) (Ab (pv 2) (Ab (pv 7) Af))))) Ai) (Ab (Ay Az (pv 5) (pv 7)) Af))))) (At (AW F7)) Bm)
     (Ao (Bj (Bt N1 (Ay Az (pv 6) (pv 7)) Ai (Bp _)) (At (Bj (IE (Fn (A9 a8 (Ab (Ay Az (A9 aL (Ab (pv 1) (Ab (A9 bj (Ab (pv 5) (Ab (pv 6) (Ab (Ay Az (pv 6) (pv 7)) Af)))) (Ab (pv 2) (Ab (pv 7) Af))))) Ai) (Ab (Ay Az (pv 5) (pv 7)) Af))))) (At (AW F7)) Bm)) Bm)
     (At (Bj (Bt N1 (Ay Az (pv 6) (pv 7)) Ai (Bp _)) (Ao (AX (i:=8) J9.nd (A9 aL (Ab (pv 1) (Ab (A9 bj (Ab (pv 5) (Ab (pv 6) (Ab (AF R6 (Ay Az (pv 6) (pv 7)) Ai) Af)))) (Ab (pv 2) (Ab (pv 7) Af))))))
      (At (Bj (PW.pt (I0 (F8 (NM (Ay Az (pv 8) Ai))) (Lh (Bt Yw (AF R6 (Ay Az (pv 6) (pv 7)) Ai) (pv 6) (by with_unfolding_all rfl))))) (At (AW F7)) Bm))) Bm)))))
    (Ao (Db (Hx Dp PySem.F.slot_list_reverse PySem.F.type_list_reverse YW (Ay Az (pv 4) Ai)))
    (Ao (Db (Hx Dp PySem.F.slot_list_clear PySem.F.type_list_clear YX (Ay Az (pv 4) Ai)))
    (At (AW (Pu (A9 a8 (Ab (A9 aW (Ab (Ay Az (pv 3) Ai) (Ab (Ay Az (pv 3) Ai) Af))) (Ab (Bx (Ab (pv 5) (Ab (pv 6) Af))) Af))) (RQ (Jc (LQ hr.units) (pv 3) (Bx (Ab (pv 1) (Ab (pv 2) Af))) (Bp _))))))))))))))),?_⟩
   (try dsimp only[AG,Cx.nox,Cx.wish]);refine⟨a,ns,rfl,hS,bk,λbU y t aR aS aT us Gs Es ts qt ss D g E I J bV s1 er eN N3 TB md=>?_⟩;refine⟨_,Ap.of er,rfl,?_⟩;refine⟨a,ns,rfl,s1.seq hS,bk,λr2 aj t2 S2 T2 R2 bq br bs bt bu bY bZ ca cl cm cn H2 Z ak aX aY aZ bv=>?_⟩;refine AM λNz u=>?_;obtain⟨e1,e2,e3,e4,e5,e6⟩:=md.uniq bv;refine u ?_;clear u;subst e1 e2 e3 e4 e5 e6;refine AU ?_;cbv;have G:=MX md;have a9:LN K (λζ=>True) H2 y t ⟨ss,D,[],E⟩ g I J:=⟨⟨aR,aS,aT,us,Gs,Es,ts,qt,Z _ _ eN,N3.same Z⟩,TB.same Z⟩;have ba:LN K (λζ=>True) H2 aj t2 ⟨ss,D,[],E⟩ g I J:=⟨⟨S2,T2,R2,bq,br,bs,bt,bu,aX,aY⟩,aZ⟩;have cb:g.length=BL ns:=(by rw[md.qs,Uu]);have zA:=O6 ns;refine Or.inr (Or.inl ⟨_,.ref aj,Ap.of ak,rfl,Or.inr (Or.inl ⟨_,.ref t2,Ap.of ak,rfl,aj,t2,λζ=>True,⟨ss,D,[],E⟩,g,I,J,rfl,ba,G,λr3 A q n C c H3 s3 hA bw bx aA bz aM R nx=>?_⟩)⟩);refine AU ?_;cbv;obtain⟨U,bb⟩:=R.aok G.toSOk;have ay:c.length=C.length:=(by rw[bb,U.len]);obtain⟨l,aB,aC⟩:=bz;have cc:l.length=g.length:=by rw[aC.length,An];exact U.len
   have cd:(qt.map V.ref).length=g.length:=(by rw[An,N3.tq.len]);have tn:=R.turns G.toSOk;refine⟨y,aR,aS,aT,r3,A,q,qt.map V.ref,l,c,rfl,(Z.trans s3) _ _ eN,(Z.trans s3) _ _ N3.er,aA,aB,aM,by lia,by lia,λk v O hv ht=>?_,λH4 s4=>⟨rfl,Bb ?_⟩⟩;obtain⟨o,N,bc⟩:=J4 aC hv;have hk:k<g.length:=by rw[<-bb];exact(A8.mp ht).1
   rcases R.at_ G.toSOk k hk with⟨p,d⟩|⟨ah,j,p,d,h3,h4⟩;rw[N] at p;rw[ht] at d;obtain rfl:=AO p;have e:=AO d;exact⟨by lia,λζ=>e,λζ=>bc.ansN⟩;rw[N] at p;rw[ht] at d;obtain rfl:=AO p;have e:=AO d;obtain⟨tt,rfl,_⟩:=bc.ansS;exact⟨by lia,(λz=>by cases z),λz=>by lia⟩;have aD:=s4 _ _ aB;have bd:=s4 _ _ aA;have aN:=s4 _ _ aM;refine Or.inr (Or.inl ⟨_,.ref A,Ap.of bd,rfl,A,l,rfl,Or.inl (Ae.of aD),λQ al=>?_⟩);obtain⟨H5,b0,s5,bG⟩:=new_at (o:=.lst l) al;rw[<-b0];refine AU ?_;cbv;refine Or.inr (Or.inl ⟨_,.ref q,Ap.of (s5 _ _ bd),rfl,q,c.map V.int,rfl,Or.inl (Ae.of (s5 _ _ aN)),λLT an=>?_⟩);obtain⟨H6,b1,s6,M⟩:=new_at (o:=.lst (c.map V.int)) an;rw[<-b1];refine AU ?_;cbv;have ao:=(s4.trans s5).trans s6;have az:=s3.trans ao;have X:=s6 _ _ bG;have av:=aC.same ao;have b2:=ao _ _ aA;have b3:=ao _ _ aB;have bH:=ao _ _ aM;refine⟨_,Or.inl ⟨_,Ae.of X,rfl⟩,(by lia),(by lia),Lq (lo:=0) (n:=l.length) (λi σ H'=>∃(u7 u8:Option V),σ=[some (.ref a),some (.ref y),some (.ref t),some (.ref r2),some (.ref r3),some (.ref Q),some (.ref LT),u7,u8]/\Ac H6 H') ⟨none,none,rfl,Ac.refl _⟩ ?_ ?_⟩
   . rintro i σ H7 hi ⟨u7,u8,rfl,r⟩
     refine AU ?_;cbv;have a0:i<g.length:=(by lia);have W:=AC a0;generalize g[i]=ai at W;have aE:=AC hi;generalize l[i]=w at aE;have bl:Bv l (0+(i:Int))=some w:=by rw[Int.zero_add];exact BX aE
     have L:=AC (show i<c.length by lia);generalize c[i]=O at L;have aw:Bv (c.map V.int) (0+(i:Int))=some (.int O):=by rw[Int.zero_add];exact BX (by rw[Bh,L];rfl)
     obtain⟨o,N,be⟩:=J4 av aE;refine⟨Q,l,rfl,Or.inl (Ae.of (r _ _ X)),λaU hC=>?_⟩;obtain⟨S,b4,s8,eC⟩:=new_at (o:=.lst l) hC;rw[<-b4];have a1:=r.trans s8;have bf:ER S aU C:=⟨l,eC,av.same a1⟩;refine⟨y,aU,t,λζ=>True,⟨ss,D,C,E⟩,g,I,J,_,i,ai,rfl,Int.zero_add _,W,(a9.same (az.trans a1)).lc bf.ans,G.all C U,λev ea ew ls aq H9 s9 aa ab=>?_⟩;refine AM λNz u=>?_;obtain⟨ep,ex,ey,rfl,ae,af,aF⟩:=MY aa;refine u ?_;clear u;have aG:=R.still G.toSOk nx W ⟨ew,ls,aq,ab⟩;rw[N] at aG;have e0:=AO aG;subst e0;have aH:=a1.trans s9;refine Or.inr (Or.inl ⟨_,ex,Ap.of ae,rfl,Or.inl ⟨_,w,Ae.of (aH _ _ X),bl,_,_,_,_,rfl,af.dt,(be.same aH).dt,Pe 6 _,Pe 6 _,λb b5 a2 hb=>⟨rfl,?_⟩⟩⟩);rw[hb.mpr rfl];refine Bb ?_;unfold Ky;dsimp only;have Y:=aH.trans a2;clear hb a2 af aF ae aa ab aG s9 s8 r eC bf a1;refine HF (λσ' H'=>σ'=[some (.ref a),some (.ref y),some (.ref t),some (.ref r2),some (.ref r3),some (.ref Q),some (.ref LT),some (.int (0+(i:Int))),u8]/\Ac H6 H') ?_ (λbW hN=>?_);rotate_left;refine Or.inl ⟨_,.int O,Ae.of (Y _ _ M),aw,rfl,Am (λh=>?_) (λζ=>hN _ _ ⟨rfl,Y⟩)⟩;have p1:(0:Int)<O:=Bi h;refine Or.inl ⟨_,.int O,Ae.of (Y _ _ M),aw,Q,LT,l,C,c,O,rfl,Y _ _ X,av.same Y,Y _ _ M,ay,by have:=U.len;lia,λa6 T bg m aI mk=>?_⟩;have bm:=Y.trans m;have hM:=mk.aok ay U;refine⟨y,a6,t,λζ=>True,⟨ss,D,T,E⟩,g,I,J,_,i,ai,rfl,Int.zero_add _,W,(a9.same (az.trans bm)).lc aI.ans,G.all T hM,λev ea ew ls aq a3 ar aa ab=>?_⟩;refine AM λNz u=>?_;obtain⟨ep,ex,ey,rfl,ae,af,aF⟩:=MY aa;refine u ?_;clear u;have ag:=bm.trans ar;rcases R.at_ G.toSOk i a0 with⟨p,d⟩|⟨ah,j,p,d,h3,h4⟩;rw[L] at d;have:=AO d;lia;rw[L] at d;have ej:=AO d;subst ej;rw[N] at p;obtain rfl:=AO p;have hf:=Qt ⟨ew,ls,aq,ab⟩ (tn.fd i j ai ah T W L h3 N mk);subst hf;refine Or.inr (Or.inl ⟨_,ex,Ap.of ae,rfl,Or.inl ⟨_,w,Ae.of (ag _ _ X),bl,_,_,_,_,rfl,af.dt,(be.same ag).dt,Pe 6 _,Pe 6 _,λb b6 au hb=>⟨rfl,?_⟩⟩⟩);rw[hb.mpr rfl];exact Bb (hN _ _ ⟨rfl,ag.trans au⟩);rintro σ' bg ⟨rfl,m⟩;refine Or.inl ⟨_,.int O,Ae.of (m _ _ M),aw,rfl,Am (λh=>?_) (λζ=>⟨_,_,rfl,m⟩)⟩;have p1:(1:Int)<O:=Bi h;refine Or.inl ⟨_,.int O,Ae.of (m _ _ M),aw,Q,LT,l,C,c,O-1,rfl,m _ _ X,av.same m,m _ _ M,ay,by have:=U.len;lia,λa6 T a3 ar aI mk=>?_⟩;have ag:=m.trans ar;have hM:=mk.aok ay U;refine⟨y,a6,t,λζ=>True,⟨ss,D,T,E⟩,g,I,J,_,i,ai,rfl,Int.zero_add _,W,(a9.same (az.trans ag)).lc aI.ans,G.all T hM,λev ea ew ls aq b6 au aa ab=>?_⟩;refine AM λNz u=>?_;obtain⟨ep,ex,ey,rfl,ae,af,aF⟩:=MY aa;refine u ?_;clear u;have aO:=ag.trans au;refine AU ?_;cbv;rcases R.at_ G.toSOk i a0 with⟨p,d⟩|⟨ah,j,p,d,h3,h4⟩;rw[L] at d;have:=AO d;lia;rw[L] at d;have ej:=AO d;subst ej;rw[N] at p;obtain rfl:=AO p;have hf:=Qt ⟨ew,ls,aq,ab⟩ (tn.bf i j ai ah T W L (by lia) N mk);subst hf;obtain rfl:=af.ansN;obtain⟨j2,b7⟩:=tn.pv i j a0 L (by lia);refine Or.inr (Or.inl ⟨_,.non,Ap.of ae,rfl,rfl,Am (λh=>absurd h (by simp)) (λζ=>?_)⟩);refine Or.inl ⟨_,.int j,Ae.of (aO _ _ M),aw,LT,_,rfl,Or.inl (Ae.of (aO _ _ M)),rfl,j1 c,rfl,Am (λh=>?_) (λζ=>⟨_,_,rfl,aO⟩)⟩;have:=Kr (Bl b7)
     rw[show(if true=true then !KG (V.int ((j:Int)-1)) (c.map V.int) else KG (V.int ((j:Int)-1)) (c.map V.int))=false from by rw[Al rfl,this];rfl] at h;cases h
   rintro σ H7 ⟨u7,u8,rfl,r⟩;have aJ:=r _ _ b3;have bI:=r _ _ bH;have bh:=r _ _ b2;refine Or.inr (Or.inl ⟨_,.ref A,Ap.of bh,rfl,Or.inl ⟨rfl,_,Ae.of aJ⟩,A,_,rfl,rfl,aJ,?_⟩);have b8:∀x o,H7 x=some o->x≠A->(upd H7 A (.lst l.reverse)) x=some o:=λx o e n=>by rw[AE n];exact e
   have aK:Tk H7 (upd H7 A (.lst l.reverse)):=Nt aJ;generalize upd H7 A (.lst l.reverse)=S at b8 aK ⊢;have aP:=b8 _ _ bI (Ne.symm bx);have bA:=aK _ _ bh;refine Or.inr (Or.inl ⟨_,.ref q,Ap.of bA,rfl,Or.inl ⟨rfl,_,Ae.of aP⟩,q,_,rfl,rfl,aP,?_⟩);have b9:∀x o,S x=some o->x≠q->(upd S q (.lst [])) x=some o:=λx o e n=>by rw[AE n];exact e
   have bi:Tk S (upd S q (.lst [])):=Nt aP;generalize upd S q (.lst [])=H9 at b9 bi ⊢;have a4:Ac H2 H9:=λx o e=>b9 _ _ (b8 _ _ (r _ _ (az _ _ e)) (λz=>by rw[z,hA] at e;cases e)) (λz=>by rw[z,bw] at e;cases e);have bB:Q≠A:=λz=>by rw[z,aD] at al;cases al
   have bJ:Q≠q:=λz=>by rw[z,aN] at al;cases al
   have bC:LT≠A:=λz=>by rw[z,s5 _ _ aD] at an;cases an
   have bK:LT≠q:=λz=>by rw[z,s5 _ _ aN] at an;cases an
   have bL:=b9 _ _ (b8 _ _ (r _ _ X) bB) bJ;have bM:=b9 _ _ (b8 _ _ (r _ _ M) bC) bK;have bN:=(av.same r).tk (aK.trans bi);refine Or.inr (Or.inl ⟨_,.ref aj,Ap.of (a4 _ _ ak),rfl,Or.inr (Or.inl ⟨_,.ref t2,Ap.of (a4 _ _ ak),rfl,aj,t2,λζ=>True,⟨ss,D,[],E⟩,g,I,J,rfl,ba.same a4,G,λr4 A4 cf n4 cg ch b5 a2 cj cp cq bO bP bS bD bE=>?_⟩)⟩);obtain⟨rfl,rfl⟩:=R.same G.toSOk nx bD bE;obtain⟨ck,bQ,bT⟩:=bP;refine⟨Ca,λah hp=>?_⟩;obtain⟨bg,bR,m,ep⟩:=new_at (o:=.tup [.ref Q,.ref LT]) hp;rw[<-bR];have a5:=a2.trans m;refine⟨_,_,pairD C c,pairD C c,rfl,.tup (Ap.of (m _ _ bO)) (.cons (.lst (Ae.of (m _ _ bQ)) (bT.same m).dts) (.cons (.lst (Ae.of (m _ _ bS)) (UQ c)) .nil)),.tup (Ap.of ep) (.cons (.lst (Ae.of (a5 _ _ bL)) (bN.same a5).dts) (.cons (.lst (Ae.of (a5 _ _ bM)) (UQ c)) .nil)),X0 C c,X0 C c,λb a3 ar hb=>?_⟩;rw[hb.mpr rfl];refine⟨_,rfl,CV ⟨Ca,λa7 bF=>?_⟩⟩;have au:=Bf (o:=.tup [.ref y,.ref t]) bF;have ax:=(a4.trans a5).trans (ar.trans au);have aQ:=Z.trans ax;have d1:Ar K (upd a3 a7 (.tup [.ref y,.ref t])) (.ref a7) (.tup [HL ss D g,OA E I J]):=.tup (Ap.of Aa) (.cons ((N3.same aQ).dt (aQ _ _ eN)) (.cons (TB.same aQ).dt .nil));have d2:Ar K (upd a3 a7 (.tup [.ref y,.ref t])) (.ref r2) (.tup [HL ss D g,OA E I J]):=.tup (Ap.of (ax _ _ ak)) (.cons ((aY.same ax).dt (ax _ _ aX)) (.cons (aZ.same ax).dt .nil));refine⟨7,_,_,.tup (.cons (Jx _ _ _ _ _ _) (.cons (Zv _ _ _ _ _ _) (.nil _))),by decide,d2,d1,?_⟩;rw[Fs rfl];exact kq _
variable (P w K mg base) in
abbrev Pg:Prop:=BG P w K mg base "law" 11 ["_law_script"] (Pf K)
def Ph(B:BH mg)(c:QR P w K mg base)(d:Q0 P w K mg base)(e:Q1 P w K mg base)(g:Q4 P w K mg base)(h:Q5 P w K mg base)(i:Q6 P w K mg base)(F:Bu K "law" "law" Kv f fd)(a:mg "law" = some (.ref f)):Pg P w K mg base:=
 ⟨f,fd,IA B c d e g h i F,a,F.kp,F.binds λζ ζ ζ ζ ζ ζ us b=>(by obtain⟨j,rfl⟩:=Io b;rfl)⟩
end
abbrev Fin (K:Ah) (mg:Str->Option Value) (x:Str) (st:Stmt):Prop:=∃f fd,Bu K x x st f fd/\mg x=some (.ref f)
def BW{K:Ah}{h:Heap}{b:Str->Option Value}(X:K.In h)(G:h.Ns mainGlobals b){x:Str}{st:Stmt}(q:Fx K x st):Fin K b x st:=by
 obtain⟨f,d,e,g,m,kV,n,i,o,j,a,l,c,k⟩:=q;exact⟨f,_,HD l c k,PySem.W.mg_of X G a⟩
def all_mk{l:PySem.W.OpenLaw}{w:World}{K:Ah}{h:Heap}{a:Str->Option Value}{f:Addr}(X:K.In h)(G:h.Ns mainGlobals a)(T:a "law" = some (.ref f))(q:Kw K)
 : ∃g:FuncData,(∀(s:Shared)(v:Value),BindsTo s g ⟨[v],[]⟩ [("_law_script",v)])/\∀b:Heap,K.In b->b.Ns mainGlobals a->Et l.prog w K a b IJ 11 f g ["_law_script"] (Pf K):=by
 obtain⟨ca,cb,cc,bs,cd,bt,bu,bv,bw,bx,U,V,W,Y⟩:=q.q47;have e:=T.symm.trans (PySem.W.mg_of X G U);cases e;have B:BH a:=⟨F6 X G q.z_all,F6 X G q.z_any,F6 X G q.z_bool,F6 X G q.z_dict,F6 X G q.z_enumerate,F6 X G q.z_int,F6 X G q.z_isinstance,F6 X G q.z_len,F6 X G q.z_list,F6 X G q.z_min,F6 X G q.z_range,F6 X G q.z_set,F6 X G q.z_sorted,F6 X G q.z_str,F6 X G q.z_tuple,F6 X G q.z_zip,q.y_MOST_BEGINNINGS.imp λζ y=>PySem.W.mg_of X G y⟩;obtain⟨_,_,t,u⟩:=BW X G q.q0;obtain⟨_,_,x,z⟩:=BW X G q.q1;obtain⟨_,_,A,C⟩:=BW X G q.q2;obtain⟨_,_,D,E⟩:=BW X G q.q3;obtain⟨_,_,F,H⟩:=BW X G q.q4;obtain⟨_,_,I,J⟩:=BW X G q.q5;obtain⟨_,_,L,M⟩:=BW X G q.q6;obtain⟨_,_,N,O⟩:=BW X G q.q7;obtain⟨_,_,P,Q⟩:=BW X G q.q8;obtain⟨_,_,R,S⟩:=BW X G q.q9;obtain⟨_,_,Z,aa⟩:=BW X G q.q10;obtain⟨_,_,ab,ae⟩:=BW X G q.q11;obtain⟨_,_,af,ag⟩:=BW X G q.q12;obtain⟨_,_,ah,ai⟩:=BW X G q.q13;obtain⟨_,_,aj,ak⟩:=BW X G q.q14;obtain⟨_,_,al,an⟩:=BW X G q.q15;obtain⟨_,_,ao,aq⟩:=BW X G q.q16;obtain⟨_,_,ar,au⟩:=BW X G q.q17;obtain⟨_,_,av,aw⟩:=BW X G q.q18;obtain⟨_,_,ax,ay⟩:=BW X G q.q19;obtain⟨_,_,az,a0⟩:=BW X G q.q20;obtain⟨_,_,a1,a2⟩:=BW X G q.q21;obtain⟨_,_,a3,a4⟩:=BW X G q.q22;obtain⟨_,_,a5,a6⟩:=BW X G q.q23;obtain⟨_,_,a7,a8⟩:=BW X G q.q24;obtain⟨_,_,a9,aA⟩:=BW X G q.q25;obtain⟨_,_,aB,aC⟩:=BW X G q.q26;obtain⟨_,_,aD,aE⟩:=BW X G q.q27;obtain⟨_,_,aF,aG⟩:=BW X G q.q28;obtain⟨_,_,aH,aI⟩:=BW X G q.q29;obtain⟨_,_,aJ,aK⟩:=BW X G q.q30;obtain⟨_,_,aL,aM⟩:=BW X G q.q31;obtain⟨_,_,aN,aO⟩:=BW X G q.q32;obtain⟨_,_,aP,aQ⟩:=BW X G q.q33;obtain⟨_,_,aR,aS⟩:=BW X G q.q34;obtain⟨_,_,aT,aU⟩:=BW X G q.q35;obtain⟨_,_,aV,aW⟩:=BW X G q.q36;obtain⟨_,_,aX,aY⟩:=BW X G q.q37;obtain⟨_,_,aZ,ba⟩:=BW X G q.q38;obtain⟨_,_,bb,bc⟩:=BW X G q.q39;obtain⟨_,_,bd,be⟩:=BW X G q.q40;obtain⟨_,_,bf,bg⟩:=BW X G q.q41;obtain⟨_,_,bh,bi⟩:=BW X G q.q42;obtain⟨_,_,bj,bk⟩:=BW X G q.q43;obtain⟨_,_,bl,bm⟩:=BW X G q.q44;obtain⟨_,_,bn,bo⟩:=BW X G q.q45;obtain⟨_,_,bp,bq⟩:=BW X G q.q46;have br:=HD (st:=Kv) V W Y;refine⟨PySem.W.fnOf "law" "law" (Ku Kv) (IC Kv) (A6 Kv) .none bt bu bv bs bw bx,λs v=>.of_eq rfl,λb ζ ζ=>?_⟩;have bz:Ue l.prog w K a b:=fO B t u;have b0:Uf l.prog w K a b:=fS B x z;have i:QH l.prog w K a b:=fV B A C;have b1:Ui l.prog w K a b:=fY B i D E;have b2:Ul l.prog w K a b:=f7 B i b1 F H;have b3:Uo l.prog w K a b:=f9 B I J;have b4:Up l.prog w K a b:=gB B L M;have b5:Uq l.prog w K a b:=gE B N O;have b6:Ur l.prog w K a b:=gH B P Q;have b7:Us l.prog w K a b:=gL B b5 b6 R S;have b8:QR l.prog w K a b:=gO B bz b0 b2 b3 b4 b7 Z aa;have j:QS l.prog w K a b:=gQ B ab ae;have b9:Uv l.prog w K a b:=gS B af ag;have k:QU l.prog w K a b:=gU B b9 ah ai;have bA:Uw l.prog w K a b:=gW B k aj ak;have m:QV l.prog w K a b:=g9 B j bA al an;have bB:Ux l.prog w K a b:=hV B m ao aq;have bC:Uy l.prog w K a b:=iA B bB ar au;have bD:Uz l.prog w K a b:=iC B av aw;have bE:UA l.prog w K a b:=iF B bD ax ay;have n:QW l.prog w K a b:=iH B az a0;have o:QX l.prog w K a b:=iJ B a1 a2;have bF:UB l.prog w K a b:=iL B a3 a4;have p:QY l.prog w K a b:=iN B bF a5 a6;have bG:UC l.prog w K a b:=iP B n o p a7 a8;have bH:UD l.prog w K a b:=iR B bE bG a9 aA;have bI:UE l.prog w K a b:=iT B n o p aB aC;have c:O9 l.prog w K a b:=iV B aD aE;have bJ:UF l.prog w K a b:=iX B c aF aG;have bK:UG l.prog w K a b:=iZ B c aH aI;have bL:Iy l.prog w K a b:=i0 B bI bJ bK aJ aK;have bM:UH l.prog w K a b:=i4 B m aL aM;have d:Pb l.prog w K a b:=i7 B bC bH bL bM k aN aO;have r:QZ l.prog w K a b:=i9 B aP aQ;have bN:UI l.prog w K a b:=jB B r aR aS;have bO:UJ l.prog w K a b:=jE B j bN aT aU;have bP:UK l.prog w K a b:=jG B c aV aW;have bQ:UL l.prog w K a b:=jI B bO bP r aX aY;have bR:UM l.prog w K a b:=jK B d bQ aZ ba;have bS:UN l.prog w K a b:=jL B bb bc;have bT:UO l.prog w K a b:=jN B d bd be;have bU:UP l.prog w K a b:=jP B bR bS bT bf bg;have bV:Q0 l.prog w K a b:=jR B bU bh bi;have bW:Q1 l.prog w K a b:=jT B bj bk;have bX:Q4 l.prog w K a b:=jX B bl bm;have bY:Q5 l.prog w K a b:=jY B d bn bo;have bZ:Q6 l.prog w K a b:=j0 B bp bq;exact IA B b8 bV bW bX bY bZ br
def walk{l:PySem.W.OpenLaw}{q:Program}{loose:List Str}{XP:(Str->Option Value)->Heap->Prop}{YP:World->Heap->Prop}{d:DefRec}{K:Params->Ah}(i:l.most=some 63)(r:d.params.defaults=[])
 (j:∀(w:World)(h:Heap),YP w h->(K w.params).In h)
 (F:∀(w:World)(b:Str->Option Value)(e:Addr)(h:Heap),(K w.params).In h->h.Ns mainGlobals b->b d.name=some (.ref e) ->
  ∃g:FuncData,(∀(s:Shared)(u:Value),BindsTo s g ⟨[u],[]⟩ [("_law_script",u)])/\∀c:Heap,(K w.params).In c->c.Ns mainGlobals b->Et l.prog w (K w.params) b c IJ 11 e g ["_law_script"] (Pf (K w.params))) :
 PySem.W.WalkO q loose XP YP l.row.toRowW d [] (λf vs=>PySem.call f vs):=
 L2.Jl (n:=63) (k:=11) (x:= "_law_script") (CX:=λζ=>IJ) (sp:=λw=>Pf (K w.params)) i (by decide) r ⟨rfl,by decide,by decide⟩ j F (λζ ζ a m o ζ p=>⟨a,m,rfl,p,o,λζ=>rfl⟩) λζ ζ ζ ζ ζ z=>z
end K42
open PySem PySem.W PyProof.Rows in
theorem PySem.Challenge.cw_namepaths_k42_found_in_their_turns_holds : PySem.Challenge.rw_namepaths_k42_found_in_their_turns.Holds :=
 K42.hd λK q YP d h1 h2 hY=>K42.walk (l:=PySem.Challenge.rw_namepaths_k42_found_in_their_turns) rfl h1 hY λw mg fa h X G hm=>K42.all_mk X G (h2▸hm) (q w)
