import PyProof.Rows.All
import Wide.All
import OpenK.AllK
import Wide.FinOn
import Lean
import PyProof.EqAt
import PyProof.EqKinds
import PyProof.TupleCall
import PySem.Challenge.RW_namepaths_k76_table_texts_refused
set_option Elab.async false
set_option linter.all false
set_option maxRecDepth 100000
set_option maxHeartbeats 1000000
abbrev XFg := PySem.W.Frag
def Xaa := @List.length_map
def Xab := @List.getElem?_eq_getElem
def Xac := @List.length_append
def Xad := @List.map_append
def Xae := @List.getElem?_eq_some_iff
def Xaf := @List.mem_append
def Xag := @List.getElem?_map
def Xah := @List.mem_of_getElem?
def Xai := @List.mem_map
def Xaj := @List.mem_singleton
def Xak := @List.size_toArray
def Xal := @List.mem_cons_self
def Xam := @List.mem_cons
def Xan := @List.mem_append_right
def Xao := @List.map_cons
def Xap := @List.mem_cons_of_mem
def Xaq := @List.getD_eq_getElem?_getD
def Xar := @List.take_succ
def Xas := @List.take_length
def Xat := @List.getElem?_append_left
def Xau := @List.length_singleton
def Xav := @List.getElem_mem
def Xaw := @List.length_take
def Xax := @List.map_map
def Xay := @List.getElem?_append_right
def Xaz := @List.take_zero
def XaA := @List.mem_append_left
def XaB := @List.length_cons
def XaC := @List.nodup_cons
def XaD := @List.length_set
def XaE := @List.append_assoc
def XaF := @List.length_drop
def XaG := @List.mem_iff_getElem
def XaH := @List.append_nil
def XaI := @List.lookup_cons
def XaJ := @List.getElem?_eq_none
def XaK := @List.mem_filter
def XaL := @List.length_nil
def XaM := @List.map_nil
def XaN := @List.map_take
def XaO := @List.any_eq_true
def XaP := @List.find?_cons
def XaQ := @List.foldl_append
def XaR := @Option.map_eq_some_iff
def XaS := @Nat.le_refl
def XaT := @Nat.lt_irrefl
def XaU := @Nat.le_of_lt
def XaV := @Nat.ne_of_lt
def XaW := @Nat.zero_le
def XaX := @Int.emod_lt_of_pos
def XaY := @Int.emod_nonneg
def XaZ := @Int.eq_ofNat_of_zero_le
def Xa0 := @Int.toNat_natCast
def Xa1 := @decide_eq_true
def Xa2 := @decide_eq_false
def Xa3 := @of_decide_eq_true
def Xa4 := @PySem.F.plainAttrs_list
def Xa5 := @PySem.F.slot_list_append
def Xa6 := @PySem.F.type_list_append
def Xa7 := @Bool.false_ne_true
def Xa8 := @Option.some.inj
def Xa9 := @if_neg
def Xba := @if_pos
def Xbb := @Nat.lt_of_lt_of_le
def Xbc := @Nat.le_trans
def Xbd := @Bool.false_eq_true
def Xbe := @List.filterMap_cons
def Xbf := @congrArg
open PySem PySem.Spec PyProof.Rows in
def Xbg := @wpAny_bind
open PySem PySem.Spec PyProof.Rows in
def Xbh := @wpAny_pure
open PySem PySem.Spec PyProof.Rows in
def Xbi := @wpAny_holding
open PySem PySem.Spec PyProof.Rows in
def Xbj := @wpAny_truthy_bool
open PySem PySem.Spec PyProof.Rows in
def Xbk := @Heap.get?_push_of_some
open PySem PySem.Spec PyProof.Rows in
def Xbl := @Heap.lt_size
open PySem PySem.Spec PyProof.Rows in
def Xbm := @Heap.get?_push_size
open PySem PySem.Spec PyProof.Rows in
def Xbn := @PassesOwn.never
open PySem PySem.Spec PyProof.Rows in
def Xbo := @PySem.W.mg_none_of
open PySem PySem.Spec PyProof.Rows in
def Xbp := @PySem.mem_of_lookup
open PySem PySem.Spec PyProof.Rows in
def Xbq := @wpAny_mono
noncomputable section
noncomputable def PySem.W.Fast.tw9697390740580598575:PySem.Program:=PySem.Challenge.pw_namepaths_k76_table_texts_refused
theorem PySem.W.Fast.te9697390740580598575:PySem.Challenge.pw_namepaths_k76_table_texts_refused=PySem.W.Fast.tw9697390740580598575:=rfl
namespace L2
open PySem PySem.Spec PyProof.Rows
noncomputable def Zaw (s:Stmt):Arguments:=match s with
 | .FunctionDef _ a _ _ _ _ _ _ _ _=>a
 | _=>{ posonlyargs:=[],args:=[],vararg:=none,kwonlyargs:=[],kw_defaults:=[],kwarg:=none,defaults:=[] }
noncomputable def Zav (s:Stmt):List Stmt:=match s with
 | .FunctionDef _ _ b _ _ _ _ _ _ _=>b
 | _=>[]
noncomputable def Zae (s:Stmt):Scope:=match s with
 | .FunctionDef _ _ _ _ _ _ sc _ _ _=>sc
 | _=>{ kind:=.function,names:=[],isGenerator:=false,isCoroutine:=false }
section
open PySem.W PySem.W.Fast
noncomputable def runF (p:Program) (w:World) (N:Nat):Option Shared:=((tw10274390034422433532 tw14364793385576792824 (opening p) w N (PySem.start (opening p)).1 (PySem.start (opening p)).2).bind (tw14289696077712309145 p)).bind fun s₀ =>
 match s₀.heap.isNs mainGlobals && s₀.gens.size == 0 with
 | true=>(tw14082659384304107361 tw14364793385576792824 p w s₀.heap.objs.size (s₀.heap.nsMap mainGlobals "__annotations__") N s₀ (topStub p)).bind fun s₁=>match staticsOk (tw5923862056798008813 p.main.body) s₀.heap s₁.heap && namesBound p s₁.heap && gensDone s₁ && laidKept s₀.heap s₁.heap with
   | true=>some s₁
   | false=>none
 | false=>none
theorem left_of {p q:Program}{loose:List Str}{Xt:Shared→Bool}{α:Type}{Yf:Shared→α}{Ya:World→α}{N:Nat}
 (A:∀ w:World,Option.map (fun s=>tw4187177175401517315 q loose (tw5923862056798008813 p.main.body) Xt true s) (runF p w N)=some (openGood q loose))
 (B:∀ w:World,Option.map Yf (runF p w N)=some (Ya w)):LeftO p q loose Xt Yf Ya N:=by
 intro w;have a:=A w;have b:=B w
 have h:Option.map (fun s=>(tw4187177175401517315 q loose (tw5923862056798008813 p.main.body) Xt true s,Yf s)) (runF p w N)=some (openGood q loose,Ya w):=by
  cases e:runF p w N with
  | none=>rw [e] at a;cases a
  | some s =>
    rw [e] at a b;simp only [Option.map_some] at a b ⊢;rw [Xa8 a,Xa8 b]
 unfold runF at h;rw [←te14082659384304107361,←te10274390034422433532,←te14364793385576792824,←te4187177175401517315,←te5923862056798008813,←te14289696077712309145] at h;exact h
end
end L2
namespace PySem.W
open PySem
noncomputable abbrev VEm:List Value:=[.type "ValueError",.type "Exception",.type "BaseException",.type "object"]
noncomputable def mroV:List Value→Bool
 | .ref _ :: r=>mroV r
 | l=>l == VEm
noncomputable def xIn (K:Frag) (C:Addr) (f:Addr):Bool:=match K.lookup C with
 | some ⟨.type "type",_,.cls cd,sl⟩=>(match cd.mro,sl.toList with
   | .ref C' :: bm,[_,_,_,_,some (.builtin n),_]=>C' == C && n == "ValueError.__new__" && !cd.hasDel && tailIn K VEm bm && nsOkIn K cd.ns && nsIn K cd.ns "__init__" == some (some (.ref f)) && cd.hasDict && mroV cd.mro
   | _,_=>false)
 | _=>false
end PySem.W
namespace K76
open PySem PySem.Spec PyProof.Rows PySem.W L2
noncomputable def top (i:Nat):Stmt:=PySem.Challenge.pw_namepaths_k76_table_texts_refused.main.body.getD i (.Pass ⟨0,0,0,0⟩)
noncomputable def inCls:Stmt→Nat→Stmt
 | .ClassDef _ _ _ body _ _ _ _ _ _ _,j=>body.getD j (.Pass ⟨0,0,0,0⟩)
 | s,_=>s
abbrev Za5:Stmt:=top 50
abbrev Zbf:Stmt:=top 49
abbrev Zby:Stmt:=top 51
abbrev Zbz:Stmt:=top 52
abbrev ZbR:Stmt:=top 53
abbrev Zbg:Stmt:=top 54
abbrev ZaY:Stmt:=top 55
abbrev ZbA:Stmt:=top 56
abbrev Zbh:Stmt:=top 57
abbrev Zbq:Stmt:=top 58
abbrev ZcS:Stmt:=top 41
abbrev ZbB:Stmt:=top 46
abbrev ZbC:Stmt:=top 47
abbrev Za6:Stmt:=top 40
abbrev Za7:Stmt:=top 45
abbrev ZaJ:Stmt:=top 30
abbrev ZbD:Stmt:=top 33
abbrev Zbr:Stmt:=top 32
abbrev Zci:Stmt:=top 16
abbrev ZaP:Stmt:=top 31
abbrev Zb2:Stmt:=top 15
abbrev Zb3:Stmt:=top 17
abbrev ZaK:Stmt:=top 34
abbrev Zbi:Stmt:=top 36
abbrev Zbj:Stmt:=top 35
abbrev ZaQ:Stmt:=top 22
abbrev Zcs:Stmt:=top 23
abbrev ZaL:Stmt:=top 21
abbrev Zbk:Stmt:=top 1
abbrev Zbl:Stmt:=inCls (top 11) 0
abbrev Zdv:Stmt:=top 20
abbrev Zb4:Stmt:=top 19
abbrev ZaW:Stmt:=top 37
abbrev ZbS:Stmt:=top 29
abbrev Za8:Stmt:=top 44
abbrev Zbm:Stmt:=top 59
abbrev ZbE:Stmt:=top 60
abbrev Zem:Stmt:=top 61
noncomputable def own:Stmt→Bool
 | .Assign [.Name x _] _ _=>x != "__name__"
 | _=>true
noncomputable def view:Program:={ PySem.Challenge.pw_namepaths_k76_table_texts_refused with main:={ PySem.Challenge.pw_namepaths_k76_table_texts_refused.main with body:=PySem.Challenge.pw_namepaths_k76_table_texts_refused.main.body.filter own } }
inductive Facts (K:XFg):Prop where
 | mk
   {f0:Addr} {od0 an0:Option Addr} {sl0:Array (Option Value)} {oc0 kV0 dc0 pm0 cd0 ct0:Value}
   {f1:Addr} {od1 an1:Option Addr} {sl1:Array (Option Value)} {oc1 kV1 dc1 pm1 cd1 ct1:Value}
   {f2:Addr} {od2 an2:Option Addr} {sl2:Array (Option Value)} {oc2 kV2 dc2 pm2 cd2 ct2:Value}
   {f3:Addr} {od3 an3:Option Addr} {sl3:Array (Option Value)} {oc3 kV3 dc3 pm3 cd3 ct3:Value}
   {f4:Addr} {od4 an4:Option Addr} {sl4:Array (Option Value)} {oc4 kV4 dc4 pm4 cd4 ct4:Value}
   {f5:Addr} {od5 an5:Option Addr} {sl5:Array (Option Value)} {oc5 kV5 dc5 pm5 cd5 ct5:Value}
   {f6:Addr} {od6 an6:Option Addr} {sl6:Array (Option Value)} {oc6 kV6 dc6 pm6 cd6 ct6:Value}
   {f7:Addr} {od7 an7:Option Addr} {sl7:Array (Option Value)} {oc7 kV7 dc7 pm7 cd7 ct7:Value}
   {f8:Addr} {od8 an8:Option Addr} {sl8:Array (Option Value)} {oc8 kV8 dc8 pm8 cd8 ct8:Value}
   {f9:Addr} {od9 an9:Option Addr} {sl9:Array (Option Value)} {oc9 kV9 dc9 pm9 cd9 ct9:Value}
   {f10:Addr} {od10 an10:Option Addr} {sl10:Array (Option Value)} {oc10 kV10 dc10 pm10 cd10 ct10:Value}
   {f11:Addr} {od11 an11:Option Addr} {sl11:Array (Option Value)} {oc11 kV11 dc11 pm11 cd11 ct11:Value}
   {f12:Addr} {od12 an12:Option Addr} {sl12:Array (Option Value)} {oc12 kV12 dc12 pm12 cd12 ct12:Value}
   {f13:Addr} {od13 an13:Option Addr} {sl13:Array (Option Value)} {oc13 kV13 dc13 pm13 cd13 ct13:Value}
   {f14:Addr} {od14 an14:Option Addr} {sl14:Array (Option Value)} {oc14 kV14 dc14 pm14 cd14 ct14:Value}
   {f15:Addr} {od15 an15:Option Addr} {sl15:Array (Option Value)} {oc15 kV15 dc15 pm15 cd15 ct15:Value}
   {f16:Addr} {od16 an16:Option Addr} {sl16:Array (Option Value)} {oc16 kV16 dc16 pm16 cd16 ct16:Value}
   {f17:Addr} {od17 an17:Option Addr} {sl17:Array (Option Value)} {oc17 kV17 dc17 pm17 cd17 ct17:Value}
   {f18:Addr} {od18 an18:Option Addr} {sl18:Array (Option Value)} {oc18 kV18 dc18 pm18 cd18 ct18:Value}
   {f19:Addr} {od19 an19:Option Addr} {sl19:Array (Option Value)} {oc19 kV19 dc19 pm19 cd19 ct19:Value}
   {f20:Addr} {od20 an20:Option Addr} {sl20:Array (Option Value)} {oc20 kV20 dc20 pm20 cd20 ct20:Value}
   {f21:Addr} {od21 an21:Option Addr} {sl21:Array (Option Value)} {oc21 kV21 dc21 pm21 cd21 ct21:Value}
   {f22:Addr} {od22 an22:Option Addr} {sl22:Array (Option Value)} {oc22 kV22 dc22 pm22 cd22 ct22:Value}
   {f23:Addr} {od23 an23:Option Addr} {sl23:Array (Option Value)} {oc23 kV23 dc23 pm23 cd23 ct23:Value}
   {f24:Addr} {od24 an24:Option Addr} {sl24:Array (Option Value)} {oc24 kV24 dc24 pm24 cd24 ct24:Value}
   {f25:Addr} {od25 an25:Option Addr} {sl25:Array (Option Value)} {oc25 kV25 dc25 pm25 cd25 ct25:Value}
   {f26:Addr} {od26 an26:Option Addr} {sl26:Array (Option Value)} {oc26 kV26 dc26 pm26 cd26 ct26:Value}
   {f27:Addr} {od27 an27:Option Addr} {sl27:Array (Option Value)} {oc27 kV27 dc27 pm27 cd27 ct27:Value}
   {f28:Addr} {od28 an28:Option Addr} {sl28:Array (Option Value)} {oc28 kV28 dc28 pm28 cd28 ct28:Value}
   {f29:Addr} {od29 an29:Option Addr} {sl29:Array (Option Value)} {oc29 kV29 dc29 pm29 cd29 ct29:Value}
   {f30:Addr} {od30 an30:Option Addr} {sl30:Array (Option Value)} {oc30 kV30 dc30 pm30 cd30 ct30:Value}
   {f31:Addr} {od31 an31:Option Addr} {sl31:Array (Option Value)} {oc31 kV31 dc31 pm31 cd31 ct31:Value}
   {f32:Addr} {od32 an32:Option Addr} {sl32:Array (Option Value)} {oc32 kV32 dc32 pm32 cd32 ct32:Value}
   {f33:Addr} {od33 an33:Option Addr} {sl33:Array (Option Value)} {oc33 kV33 dc33 pm33 cd33 ct33:Value}
   {f34:Addr} {od34 an34:Option Addr} {sl34:Array (Option Value)} {oc34 kV34 dc34 pm34 cd34 ct34:Value}
   {f35:Addr} {od35 an35:Option Addr} {sl35:Array (Option Value)} {oc35 kV35 dc35 pm35 cd35 ct35:Value}
   {f36:Addr} {od36 an36:Option Addr} {sl36:Array (Option Value)} {oc36 kV36 dc36 pm36 cd36 ct36:Value}
   {f37:Addr} {od37 an37:Option Addr} {sl37:Array (Option Value)} {oc37 kV37 dc37 pm37 cd37 ct37:Value}
   {tc_LONGEST_NAME:Tok}
   {tc_MOST_ENDS:Tok}
   {tc_MOST_FIGURES:Tok}
   {tc_MOST_GOES:Tok}
   {tc_MOST_PAIRS:Tok}
   {tc_MOST_STATES:Tok}
   {C_Caught C_NoName C_NoPlace C_NoRow C_NoText C_PathError C_Ring C_Tangled C_TooGreat C_Twice:Addr}
   (a0:PySem.W.nsIn K mainGlobals "_law_names" = some (some (.ref f0))) (l0:K.lookup f0=some ⟨oc0,od0,.func (PySem.W.fnOf "_law_names" "_law_names" (Zaw Za5) (Zav Za5) (Zae Za5) .none kV0 dc0 pm0 an0 cd0 ct0),sl0⟩) (c0:PySem.W.codeIn K cd0 "_law_names" = true) (k0:PySem.W.keepIn K (.ref f0)=true)
   (a1:PySem.W.nsIn K mainGlobals "_law_cell_at" = some (some (.ref f1))) (l1:K.lookup f1=some ⟨oc1,od1,.func (PySem.W.fnOf "_law_cell_at" "_law_cell_at" (Zaw Zbf) (Zav Zbf) (Zae Zbf) .none kV1 dc1 pm1 an1 cd1 ct1),sl1⟩) (c1:PySem.W.codeIn K cd1 "_law_cell_at" = true) (k1:PySem.W.keepIn K (.ref f1)=true)
   (a2:PySem.W.nsIn K mainGlobals "_law_state" = some (some (.ref f2))) (l2:K.lookup f2=some ⟨oc2,od2,.func (PySem.W.fnOf "_law_state" "_law_state" (Zaw Zby) (Zav Zby) (Zae Zby) .none kV2 dc2 pm2 an2 cd2 ct2),sl2⟩) (c2:PySem.W.codeIn K cd2 "_law_state" = true) (k2:PySem.W.keepIn K (.ref f2)=true)
   (a3:PySem.W.nsIn K mainGlobals "_law_comma" = some (some (.ref f3))) (l3:K.lookup f3=some ⟨oc3,od3,.func (PySem.W.fnOf "_law_comma" "_law_comma" (Zaw Zbz) (Zav Zbz) (Zae Zbz) .none kV3 dc3 pm3 an3 cd3 ct3),sl3⟩) (c3:PySem.W.codeIn K cd3 "_law_comma" = true) (k3:PySem.W.keepIn K (.ref f3)=true)
   (a4:PySem.W.nsIn K mainGlobals "_law_text" = some (some (.ref f4))) (l4:K.lookup f4=some ⟨oc4,od4,.func (PySem.W.fnOf "_law_text" "_law_text" (Zaw ZbR) (Zav ZbR) (Zae ZbR) .none kV4 dc4 pm4 an4 cd4 ct4),sl4⟩) (c4:PySem.W.codeIn K cd4 "_law_text" = true) (k4:PySem.W.keepIn K (.ref f4)=true)
   (a5:PySem.W.nsIn K mainGlobals "_law_figures" = some (some (.ref f5))) (l5:K.lookup f5=some ⟨oc5,od5,.func (PySem.W.fnOf "_law_figures" "_law_figures" (Zaw Zbg) (Zav Zbg) (Zae Zbg) .none kV5 dc5 pm5 an5 cd5 ct5),sl5⟩) (c5:PySem.W.codeIn K cd5 "_law_figures" = true) (k5:PySem.W.keepIn K (.ref f5)=true)
   (a6:PySem.W.nsIn K mainGlobals "_law_numbered" = some (some (.ref f6))) (l6:K.lookup f6=some ⟨oc6,od6,.func (PySem.W.fnOf "_law_numbered" "_law_numbered" (Zaw ZaY) (Zav ZaY) (Zae ZaY) .none kV6 dc6 pm6 an6 cd6 ct6),sl6⟩) (c6:PySem.W.codeIn K cd6 "_law_numbered" = true) (k6:PySem.W.keepIn K (.ref f6)=true)
   (a7:PySem.W.nsIn K mainGlobals "_law_named" = some (some (.ref f7))) (l7:K.lookup f7=some ⟨oc7,od7,.func (PySem.W.fnOf "_law_named" "_law_named" (Zaw ZbA) (Zav ZbA) (Zae ZbA) .none kV7 dc7 pm7 an7 cd7 ct7),sl7⟩) (c7:PySem.W.codeIn K cd7 "_law_named" = true) (k7:PySem.W.keepIn K (.ref f7)=true)
   (a8:PySem.W.nsIn K mainGlobals "_law_more" = some (some (.ref f8))) (l8:K.lookup f8=some ⟨oc8,od8,.func (PySem.W.fnOf "_law_more" "_law_more" (Zaw Zbh) (Zav Zbh) (Zae Zbh) .none kV8 dc8 pm8 an8 cd8 ct8),sl8⟩) (c8:PySem.W.codeIn K cd8 "_law_more" = true) (k8:PySem.W.keepIn K (.ref f8)=true)
   (a9:PySem.W.nsIn K mainGlobals "_law_broken" = some (some (.ref f9))) (l9:K.lookup f9=some ⟨oc9,od9,.func (PySem.W.fnOf "_law_broken" "_law_broken" (Zaw Zbq) (Zav Zbq) (Zae Zbq) .none kV9 dc9 pm9 an9 cd9 ct9),sl9⟩) (c9:PySem.W.codeIn K cd9 "_law_broken" = true) (k9:PySem.W.keepIn K (.ref f9)=true)
   (a10:PySem.W.nsIn K mainGlobals "parted" = some (some (.ref f10))) (l10:K.lookup f10=some ⟨oc10,od10,.func (PySem.W.fnOf "parted" "parted" (Zaw ZcS) (Zav ZcS) (Zae ZcS) .none kV10 dc10 pm10 an10 cd10 ct10),sl10⟩) (c10:PySem.W.codeIn K cd10 "parted" = true) (k10:PySem.W.keepIn K (.ref f10)=true)
   (a11:PySem.W.nsIn K mainGlobals "read_twos" = some (some (.ref f11))) (l11:K.lookup f11=some ⟨oc11,od11,.func (PySem.W.fnOf "read_twos" "read_twos" (Zaw ZbB) (Zav ZbB) (Zae ZbB) .none kV11 dc11 pm11 an11 cd11 ct11),sl11⟩) (c11:PySem.W.codeIn K cd11 "read_twos" = true) (k11:PySem.W.keepIn K (.ref f11)=true)
   (a12:PySem.W.nsIn K mainGlobals "read_label" = some (some (.ref f12))) (l12:K.lookup f12=some ⟨oc12,od12,.func (PySem.W.fnOf "read_label" "read_label" (Zaw ZbC) (Zav ZbC) (Zae ZbC) .none kV12 dc12 pm12 an12 cd12 ct12),sl12⟩) (c12:PySem.W.codeIn K cd12 "read_label" = true) (k12:PySem.W.keepIn K (.ref f12)=true)
   (a13:PySem.W.nsIn K mainGlobals "read_number" = some (some (.ref f13))) (l13:K.lookup f13=some ⟨oc13,od13,.func (PySem.W.fnOf "read_number" "read_number" (Zaw Za6) (Zav Za6) (Zae Za6) .none kV13 dc13 pm13 an13 cd13 ct13),sl13⟩) (c13:PySem.W.codeIn K cd13 "read_number" = true) (k13:PySem.W.keepIn K (.ref f13)=true)
   (a14:PySem.W.nsIn K mainGlobals "read_state" = some (some (.ref f14))) (l14:K.lookup f14=some ⟨oc14,od14,.func (PySem.W.fnOf "read_state" "read_state" (Zaw Za7) (Zav Za7) (Zae Za7) .none kV14 dc14 pm14 an14 cd14 ct14),sl14⟩) (c14:PySem.W.codeIn K cd14 "read_state" = true) (k14:PySem.W.keepIn K (.ref f14)=true)
   (a15:PySem.W.nsIn K mainGlobals "refuse_too_great" = some (some (.ref f15))) (l15:K.lookup f15=some ⟨oc15,od15,.func (PySem.W.fnOf "refuse_too_great" "refuse_too_great" (Zaw ZaJ) (Zav ZaJ) (Zae ZaJ) .none kV15 dc15 pm15 an15 cd15 ct15),sl15⟩) (c15:PySem.W.codeIn K cd15 "refuse_too_great" = true) (k15:PySem.W.keepIn K (.ref f15)=true)
   (a16:PySem.W.nsIn K mainGlobals "labels_of" = some (some (.ref f16))) (l16:K.lookup f16=some ⟨oc16,od16,.func (PySem.W.fnOf "labels_of" "labels_of" (Zaw ZbD) (Zav ZbD) (Zae ZbD) .none kV16 dc16 pm16 an16 cd16 ct16),sl16⟩) (c16:PySem.W.codeIn K cd16 "labels_of" = true) (k16:PySem.W.keepIn K (.ref f16)=true)
   (a17:PySem.W.nsIn K mainGlobals "labels_told" = some (some (.ref f17))) (l17:K.lookup f17=some ⟨oc17,od17,.func (PySem.W.fnOf "labels_told" "labels_told" (Zaw Zbr) (Zav Zbr) (Zae Zbr) .none kV17 dc17 pm17 an17 cd17 ct17),sl17⟩) (c17:PySem.W.codeIn K cd17 "labels_told" = true) (k17:PySem.W.keepIn K (.ref f17)=true)
   (a18:PySem.W.nsIn K mainGlobals "is_name" = some (some (.ref f18))) (l18:K.lookup f18=some ⟨oc18,od18,.func (PySem.W.fnOf "is_name" "is_name" (Zaw Zci) (Zav Zci) (Zae Zci) .none kV18 dc18 pm18 an18 cd18 ct18),sl18⟩) (c18:PySem.W.codeIn K cd18 "is_name" = true) (k18:PySem.W.keepIn K (.ref f18)=true)
   (a19:PySem.W.nsIn K mainGlobals "refuse_no_names" = some (some (.ref f19))) (l19:K.lookup f19=some ⟨oc19,od19,.func (PySem.W.fnOf "refuse_no_names" "refuse_no_names" (Zaw ZaP) (Zav ZaP) (Zae ZaP) .none kV19 dc19 pm19 an19 cd19 ct19),sl19⟩) (c19:PySem.W.codeIn K cd19 "refuse_no_names" = true) (k19:PySem.W.keepIn K (.ref f19)=true)
   (a20:PySem.W.nsIn K mainGlobals "is_whole" = some (some (.ref f20))) (l20:K.lookup f20=some ⟨oc20,od20,.func (PySem.W.fnOf "is_whole" "is_whole" (Zaw Zb2) (Zav Zb2) (Zae Zb2) .none kV20 dc20 pm20 an20 cd20 ct20),sl20⟩) (c20:PySem.W.codeIn K cd20 "is_whole" = true) (k20:PySem.W.keepIn K (.ref f20)=true)
   (a21:PySem.W.nsIn K mainGlobals "is_place" = some (some (.ref f21))) (l21:K.lookup f21=some ⟨oc21,od21,.func (PySem.W.fnOf "is_place" "is_place" (Zaw Zb3) (Zav Zb3) (Zae Zb3) .none kV21 dc21 pm21 an21 cd21 ct21),sl21⟩) (c21:PySem.W.codeIn K cd21 "is_place" = true) (k21:PySem.W.keepIn K (.ref f21)=true)
   (a22:PySem.W.nsIn K mainGlobals "refuse_no_places" = some (some (.ref f22))) (l22:K.lookup f22=some ⟨oc22,od22,.func (PySem.W.fnOf "refuse_no_places" "refuse_no_places" (Zaw ZaK) (Zav ZaK) (Zae ZaK) .none kV22 dc22 pm22 an22 cd22 ct22),sl22⟩) (c22:PySem.W.codeIn K cd22 "refuse_no_places" = true) (k22:PySem.W.keepIn K (.ref f22)=true)
   (a23:PySem.W.nsIn K mainGlobals "is_one_twice" = some (some (.ref f23))) (l23:K.lookup f23=some ⟨oc23,od23,.func (PySem.W.fnOf "is_one_twice" "is_one_twice" (Zaw Zbi) (Zav Zbi) (Zae Zbi) .none kV23 dc23 pm23 an23 cd23 ct23),sl23⟩) (c23:PySem.W.codeIn K cd23 "is_one_twice" = true) (k23:PySem.W.keepIn K (.ref f23)=true)
   (a24:PySem.W.nsIn K mainGlobals "refuse_twice" = some (some (.ref f24))) (l24:K.lookup f24=some ⟨oc24,od24,.func (PySem.W.fnOf "refuse_twice" "refuse_twice" (Zaw Zbj) (Zav Zbj) (Zae Zbj) .none kV24 dc24 pm24 an24 cd24 ct24),sl24⟩) (c24:PySem.W.codeIn K cd24 "refuse_twice" = true) (k24:PySem.W.keepIn K (.ref f24)=true)
   (a25:PySem.W.nsIn K mainGlobals "worse_by_better" = some (some (.ref f25))) (l25:K.lookup f25=some ⟨oc25,od25,.func (PySem.W.fnOf "worse_by_better" "worse_by_better" (Zaw ZaQ) (Zav ZaQ) (Zae ZaQ) .none kV25 dc25 pm25 an25 cd25 ct25),sl25⟩) (c25:PySem.W.codeIn K cd25 "worse_by_better" = true) (k25:PySem.W.keepIn K (.ref f25)=true)
   (a26:PySem.W.nsIn K mainGlobals "reached" = some (some (.ref f26))) (l26:K.lookup f26=some ⟨oc26,od26,.func (PySem.W.fnOf "reached" "reached" (Zaw Zcs) (Zav Zcs) (Zae Zcs) .none kV26 dc26 pm26 an26 cd26 ct26),sl26⟩) (c26:PySem.W.codeIn K cd26 "reached" = true) (k26:PySem.W.keepIn K (.ref f26)=true)
   (a27:PySem.W.nsIn K mainGlobals "all_that_follows" = some (some (.ref f27))) (l27:K.lookup f27=some ⟨oc27,od27,.func (PySem.W.fnOf "all_that_follows" "all_that_follows" (Zaw ZaL) (Zav ZaL) (Zae ZaL) .none kV27 dc27 pm27 an27 cd27 ct27),sl27⟩) (c27:PySem.W.codeIn K cd27 "all_that_follows" = true) (k27:PySem.W.keepIn K (.ref f27)=true)
   (a28:PySem.W.nsIn K mainGlobals "own_lists" = some (some (.ref f28))) (l28:K.lookup f28=some ⟨oc28,od28,.func (PySem.W.fnOf "own_lists" "own_lists" (Zaw Zbk) (Zav Zbk) (Zae Zbk) .none kV28 dc28 pm28 an28 cd28 ct28),sl28⟩) (c28:PySem.W.codeIn K cd28 "own_lists" = true) (k28:PySem.W.keepIn K (.ref f28)=true)
   (a29:PySem.W.findIn K (.ref C_Ring) "__init__" = some (some (.ref f29))) (l29:K.lookup f29=some ⟨oc29,od29,.func (PySem.W.fnOf "__init__" "Ring.__init__" (Zaw Zbl) (Zav Zbl) (Zae Zbl) .none kV29 dc29 pm29 an29 cd29 ct29),sl29⟩) (c29:PySem.W.codeIn K cd29 "Ring.__init__" = true) (k29:PySem.W.keepIn K (.ref f29)=true) (xi29:PySem.W.xIn K C_Ring f29=true) (fi29:PySem.W.isFn K (.ref f29)=true)
   (a30:PySem.W.nsIn K mainGlobals "chain" = some (some (.ref f30))) (l30:K.lookup f30=some ⟨oc30,od30,.func (PySem.W.fnOf "chain" "chain" (Zaw Zdv) (Zav Zdv) (Zae Zdv) .none kV30 dc30 pm30 an30 cd30 ct30),sl30⟩) (c30:PySem.W.codeIn K cd30 "chain" = true) (k30:PySem.W.keepIn K (.ref f30)=true)
   (a31:PySem.W.nsIn K mainGlobals "order_of" = some (some (.ref f31))) (l31:K.lookup f31=some ⟨oc31,od31,.func (PySem.W.fnOf "order_of" "order_of" (Zaw Zb4) (Zav Zb4) (Zae Zb4) .none kV31 dc31 pm31 an31 cd31 ct31),sl31⟩) (c31:PySem.W.codeIn K cd31 "order_of" = true) (k31:PySem.W.keepIn K (.ref f31)=true)
   (a32:PySem.W.nsIn K mainGlobals "sorted_state" = some (some (.ref f32))) (l32:K.lookup f32=some ⟨oc32,od32,.func (PySem.W.fnOf "sorted_state" "sorted_state" (Zaw ZaW) (Zav ZaW) (Zae ZaW) .none kV32 dc32 pm32 an32 cd32 ct32),sl32⟩) (c32:PySem.W.codeIn K cd32 "sorted_state" = true) (k32:PySem.W.keepIn K (.ref f32)=true)
   (a33:PySem.W.nsIn K mainGlobals "table_of" = some (some (.ref f33))) (l33:K.lookup f33=some ⟨oc33,od33,.func (PySem.W.fnOf "table_of" "table_of" (Zaw ZbS) (Zav ZbS) (Zae ZbS) .none kV33 dc33 pm33 an33 cd33 ct33),sl33⟩) (c33:PySem.W.codeIn K cd33 "table_of" = true) (k33:PySem.W.keepIn K (.ref f33)=true)
   (a34:PySem.W.nsIn K mainGlobals "read_table" = some (some (.ref f34))) (l34:K.lookup f34=some ⟨oc34,od34,.func (PySem.W.fnOf "read_table" "read_table" (Zaw Za8) (Zav Za8) (Zae Za8) .none kV34 dc34 pm34 an34 cd34 ct34),sl34⟩) (c34:PySem.W.codeIn K cd34 "read_table" = true) (k34:PySem.W.keepIn K (.ref f34)=true)
   (a35:PySem.W.nsIn K mainGlobals "_law_outcome" = some (some (.ref f35))) (l35:K.lookup f35=some ⟨oc35,od35,.func (PySem.W.fnOf "_law_outcome" "_law_outcome" (Zaw Zbm) (Zav Zbm) (Zae Zbm) .none kV35 dc35 pm35 an35 cd35 ct35),sl35⟩) (c35:PySem.W.codeIn K cd35 "_law_outcome" = true) (k35:PySem.W.keepIn K (.ref f35)=true)
   (a36:PySem.W.nsIn K mainGlobals "_law_first" = some (some (.ref f36))) (l36:K.lookup f36=some ⟨oc36,od36,.func (PySem.W.fnOf "_law_first" "_law_first" (Zaw ZbE) (Zav ZbE) (Zae ZbE) .none kV36 dc36 pm36 an36 cd36 ct36),sl36⟩) (c36:PySem.W.codeIn K cd36 "_law_first" = true) (k36:PySem.W.keepIn K (.ref f36)=true)
   (a37:PySem.W.nsIn K mainGlobals "law" = some (some (.ref f37))) (l37:K.lookup f37=some ⟨oc37,od37,.func (PySem.W.fnOf "law" "law" (Zaw Zem) (Zav Zem) (Zae Zem) .none kV37 dc37 pm37 an37 cd37 ct37),sl37⟩) (c37:PySem.W.codeIn K cd37 "law" = true) (k37:PySem.W.keepIn K (.ref f37)=true)
   (z_ValueError:PySem.W.nsIn K mainGlobals "ValueError" = some none)
   (z_all:PySem.W.nsIn K mainGlobals "all" = some none)
   (z_any:PySem.W.nsIn K mainGlobals "any" = some none)
   (z_bool:PySem.W.nsIn K mainGlobals "bool" = some none)
   (z_int:PySem.W.nsIn K mainGlobals "int" = some none)
   (z_isinstance:PySem.W.nsIn K mainGlobals "isinstance" = some none)
   (z_len:PySem.W.nsIn K mainGlobals "len" = some none)
   (z_list:PySem.W.nsIn K mainGlobals "list" = some none)
   (z_range:PySem.W.nsIn K mainGlobals "range" = some none)
   (z_set:PySem.W.nsIn K mainGlobals "set" = some none)
   (z_sorted:PySem.W.nsIn K mainGlobals "sorted" = some none)
   (z_str:PySem.W.nsIn K mainGlobals "str" = some none)
   (z_tuple:PySem.W.nsIn K mainGlobals "tuple" = some none)
   (y_LONGEST_NAME:PySem.W.nsIn K mainGlobals "LONGEST_NAME" = some (some (.int 8 tc_LONGEST_NAME)))
   (y_MOST_ENDS:PySem.W.nsIn K mainGlobals "MOST_ENDS" = some (some (.int 8 tc_MOST_ENDS)))
   (y_MOST_FIGURES:PySem.W.nsIn K mainGlobals "MOST_FIGURES" = some (some (.int 4 tc_MOST_FIGURES)))
   (y_MOST_GOES:PySem.W.nsIn K mainGlobals "MOST_GOES" = some (some (.int 8 tc_MOST_GOES)))
   (y_MOST_PAIRS:PySem.W.nsIn K mainGlobals "MOST_PAIRS" = some (some (.int 40 tc_MOST_PAIRS)))
   (y_MOST_STATES:PySem.W.nsIn K mainGlobals "MOST_STATES" = some (some (.int 8 tc_MOST_STATES)))
   {T_SIGNS:Addr} {od_SIGNS:Option Addr} {tn_SIGNS:Nat} {sl_SIGNS:Array (Option Value)} {tk0_SIGNS tk1_SIGNS tk2_SIGNS tk3_SIGNS:Tok} (g_SIGNS:PySem.W.nsIn K mainGlobals "SIGNS" = some (some (.ref T_SIGNS))) (tl_SIGNS:K.lookup T_SIGNS=some ⟨.type "tuple",od_SIGNS,.seq #[.str "/" tk0_SIGNS,.str "|" tk1_SIGNS,.str "," tk2_SIGNS,.str ":" tk3_SIGNS] tn_SIGNS,sl_SIGNS⟩)
   (g_Caught:PySem.W.nsIn K mainGlobals "Caught" = some (some (.ref C_Caught)))
   (g_NoName:PySem.W.nsIn K mainGlobals "NoName" = some (some (.ref C_NoName)))
   (g_NoPlace:PySem.W.nsIn K mainGlobals "NoPlace" = some (some (.ref C_NoPlace)))
   (g_NoRow:PySem.W.nsIn K mainGlobals "NoRow" = some (some (.ref C_NoRow)))
   (g_NoText:PySem.W.nsIn K mainGlobals "NoText" = some (some (.ref C_NoText)))
   (g_PathError:PySem.W.nsIn K mainGlobals "PathError" = some (some (.ref C_PathError)))
   (g_Ring:PySem.W.nsIn K mainGlobals "Ring" = some (some (.ref C_Ring)))
   (g_Tangled:PySem.W.nsIn K mainGlobals "Tangled" = some (some (.ref C_Tangled)))
   (g_TooGreat:PySem.W.nsIn K mainGlobals "TooGreat" = some (some (.ref C_TooGreat)))
   (g_Twice:PySem.W.nsIn K mainGlobals "Twice" = some (some (.ref C_Twice)))
   (x_NoName:PySem.W.excIn K C_NoName [.type "ValueError",.type "Exception",.type "BaseException",.type "object"] "ValueError.__new__" = true)
   (x_NoPlace:PySem.W.excIn K C_NoPlace [.type "ValueError",.type "Exception",.type "BaseException",.type "object"] "ValueError.__new__" = true)
   (x_NoText:PySem.W.excIn K C_NoText [.type "ValueError",.type "Exception",.type "BaseException",.type "object"] "ValueError.__new__" = true)
   (x_PathError:PySem.W.excIn K C_PathError [.type "ValueError",.type "Exception",.type "BaseException",.type "object"] "ValueError.__new__" = true)
   (x_TooGreat:PySem.W.excIn K C_TooGreat [.type "ValueError",.type "Exception",.type "BaseException",.type "object"] "ValueError.__new__" = true)
   (x_Twice:PySem.W.excIn K C_Twice [.type "ValueError",.type "Exception",.type "BaseException",.type "object"] "ValueError.__new__" = true)
   (hn0:PySem.W.specialIn K (.builtin "object.__class__") "__get__" = some (some (.builtin "getset_descriptor.__get__"))) (ht0:PySem.W.takesIn K (.builtin "object.__class__")=some true)
   (op0:PySem.W.nsIn K cStatics "thirdparty.any" = some none)
   (ty_PathError:PySem.W.typeIn K (.ref C_PathError)=some (.type "type")) (fc_PathError:PySem.W.findCls K (.ref C_PathError) (.type "type") "__init__" = some (.val (.builtin "ValueError.__init__")))
   (kp_Ring:PySem.W.keepIn K (.ref C_Ring)=true) (hd_Ring:PySem.W.hasDictIn K C_Ring=true) (sa_Ring:PySem.W.findIn K (.ref C_Ring) "__setattr__" = some (some (.builtin "object.__setattr__")))
   (na_Ring_ring:PySem.W.findIn K (.ref C_Ring) "ring" = some none)
   (p_NoName:PySem.W.findIn K (.ref C_NoName) "__getattribute__" = some (some (.builtin "BaseException.__getattribute__"))) (pa_NoName:PySem.W.findIn K (.ref C_NoName) "__getattr__" = some none) (pb_NoName:PySem.W.mroIn K C_NoName (.type "BaseException")=some true) (q_NoName:PySem.W.findIn K (.ref C_NoName) "__class__" = some (some (.builtin "object.__class__"))) (m_NoName:PySem.W.mroIn K C_NoName (.type "object")=some true) (w_NoName:PySem.W.subIn K (.ref C_NoName) (.type "ValueError")=some true)
   (u_NoName_PathError:PySem.W.mroIn K C_NoName (.ref C_PathError)=some true)
   (r_NoName_Caught:PySem.W.subIn K (.ref C_NoName) (.ref C_Caught)=some false)
   (r_NoName_NoName:PySem.W.subIn K (.ref C_NoName) (.ref C_NoName)=some true)
   (r_NoName_NoPlace:PySem.W.subIn K (.ref C_NoName) (.ref C_NoPlace)=some false)
   (r_NoName_NoRow:PySem.W.subIn K (.ref C_NoName) (.ref C_NoRow)=some false)
   (r_NoName_NoText:PySem.W.subIn K (.ref C_NoName) (.ref C_NoText)=some false)
   (r_NoName_Ring:PySem.W.subIn K (.ref C_NoName) (.ref C_Ring)=some false)
   (r_NoName_Tangled:PySem.W.subIn K (.ref C_NoName) (.ref C_Tangled)=some false)
   (r_NoName_TooGreat:PySem.W.subIn K (.ref C_NoName) (.ref C_TooGreat)=some false)
   (r_NoName_Twice:PySem.W.subIn K (.ref C_NoName) (.ref C_Twice)=some false)
   (n_NoName_Caught:(Value.ref C_NoName == Value.ref C_Caught)=false)
   (n_NoName_NoPlace:(Value.ref C_NoName == Value.ref C_NoPlace)=false)
   (n_NoName_NoRow:(Value.ref C_NoName == Value.ref C_NoRow)=false)
   (n_NoName_NoText:(Value.ref C_NoName == Value.ref C_NoText)=false)
   (n_NoName_Ring:(Value.ref C_NoName == Value.ref C_Ring)=false)
   (n_NoName_Tangled:(Value.ref C_NoName == Value.ref C_Tangled)=false)
   (n_NoName_TooGreat:(Value.ref C_NoName == Value.ref C_TooGreat)=false)
   (n_NoName_Twice:(Value.ref C_NoName == Value.ref C_Twice)=false)
   (p_NoPlace:PySem.W.findIn K (.ref C_NoPlace) "__getattribute__" = some (some (.builtin "BaseException.__getattribute__"))) (pa_NoPlace:PySem.W.findIn K (.ref C_NoPlace) "__getattr__" = some none) (pb_NoPlace:PySem.W.mroIn K C_NoPlace (.type "BaseException")=some true) (q_NoPlace:PySem.W.findIn K (.ref C_NoPlace) "__class__" = some (some (.builtin "object.__class__"))) (m_NoPlace:PySem.W.mroIn K C_NoPlace (.type "object")=some true) (w_NoPlace:PySem.W.subIn K (.ref C_NoPlace) (.type "ValueError")=some true)
   (u_NoPlace_PathError:PySem.W.mroIn K C_NoPlace (.ref C_PathError)=some true)
   (r_NoPlace_Caught:PySem.W.subIn K (.ref C_NoPlace) (.ref C_Caught)=some false)
   (r_NoPlace_NoName:PySem.W.subIn K (.ref C_NoPlace) (.ref C_NoName)=some false)
   (r_NoPlace_NoPlace:PySem.W.subIn K (.ref C_NoPlace) (.ref C_NoPlace)=some true)
   (r_NoPlace_NoRow:PySem.W.subIn K (.ref C_NoPlace) (.ref C_NoRow)=some false)
   (r_NoPlace_NoText:PySem.W.subIn K (.ref C_NoPlace) (.ref C_NoText)=some false)
   (r_NoPlace_Ring:PySem.W.subIn K (.ref C_NoPlace) (.ref C_Ring)=some false)
   (r_NoPlace_Tangled:PySem.W.subIn K (.ref C_NoPlace) (.ref C_Tangled)=some false)
   (r_NoPlace_TooGreat:PySem.W.subIn K (.ref C_NoPlace) (.ref C_TooGreat)=some false)
   (r_NoPlace_Twice:PySem.W.subIn K (.ref C_NoPlace) (.ref C_Twice)=some false)
   (n_NoPlace_Caught:(Value.ref C_NoPlace == Value.ref C_Caught)=false)
   (n_NoPlace_NoName:(Value.ref C_NoPlace == Value.ref C_NoName)=false)
   (n_NoPlace_NoRow:(Value.ref C_NoPlace == Value.ref C_NoRow)=false)
   (n_NoPlace_NoText:(Value.ref C_NoPlace == Value.ref C_NoText)=false)
   (n_NoPlace_Ring:(Value.ref C_NoPlace == Value.ref C_Ring)=false)
   (n_NoPlace_Tangled:(Value.ref C_NoPlace == Value.ref C_Tangled)=false)
   (n_NoPlace_TooGreat:(Value.ref C_NoPlace == Value.ref C_TooGreat)=false)
   (n_NoPlace_Twice:(Value.ref C_NoPlace == Value.ref C_Twice)=false)
   (p_NoText:PySem.W.findIn K (.ref C_NoText) "__getattribute__" = some (some (.builtin "BaseException.__getattribute__"))) (pa_NoText:PySem.W.findIn K (.ref C_NoText) "__getattr__" = some none) (pb_NoText:PySem.W.mroIn K C_NoText (.type "BaseException")=some true) (q_NoText:PySem.W.findIn K (.ref C_NoText) "__class__" = some (some (.builtin "object.__class__"))) (m_NoText:PySem.W.mroIn K C_NoText (.type "object")=some true) (w_NoText:PySem.W.subIn K (.ref C_NoText) (.type "ValueError")=some true)
   (u_NoText_PathError:PySem.W.mroIn K C_NoText (.ref C_PathError)=some true)
   (r_NoText_Caught:PySem.W.subIn K (.ref C_NoText) (.ref C_Caught)=some false)
   (r_NoText_NoName:PySem.W.subIn K (.ref C_NoText) (.ref C_NoName)=some false)
   (r_NoText_NoPlace:PySem.W.subIn K (.ref C_NoText) (.ref C_NoPlace)=some false)
   (r_NoText_NoRow:PySem.W.subIn K (.ref C_NoText) (.ref C_NoRow)=some false)
   (r_NoText_NoText:PySem.W.subIn K (.ref C_NoText) (.ref C_NoText)=some true)
   (r_NoText_Ring:PySem.W.subIn K (.ref C_NoText) (.ref C_Ring)=some false)
   (r_NoText_Tangled:PySem.W.subIn K (.ref C_NoText) (.ref C_Tangled)=some false)
   (r_NoText_TooGreat:PySem.W.subIn K (.ref C_NoText) (.ref C_TooGreat)=some false)
   (r_NoText_Twice:PySem.W.subIn K (.ref C_NoText) (.ref C_Twice)=some false)
   (n_NoText_Caught:(Value.ref C_NoText == Value.ref C_Caught)=false)
   (n_NoText_NoName:(Value.ref C_NoText == Value.ref C_NoName)=false)
   (n_NoText_NoPlace:(Value.ref C_NoText == Value.ref C_NoPlace)=false)
   (n_NoText_NoRow:(Value.ref C_NoText == Value.ref C_NoRow)=false)
   (n_NoText_Ring:(Value.ref C_NoText == Value.ref C_Ring)=false)
   (n_NoText_Tangled:(Value.ref C_NoText == Value.ref C_Tangled)=false)
   (n_NoText_TooGreat:(Value.ref C_NoText == Value.ref C_TooGreat)=false)
   (n_NoText_Twice:(Value.ref C_NoText == Value.ref C_Twice)=false)
   (p_Ring:PySem.W.findIn K (.ref C_Ring) "__getattribute__" = some (some (.builtin "BaseException.__getattribute__"))) (pa_Ring:PySem.W.findIn K (.ref C_Ring) "__getattr__" = some none) (pb_Ring:PySem.W.mroIn K C_Ring (.type "BaseException")=some true) (q_Ring:PySem.W.findIn K (.ref C_Ring) "__class__" = some (some (.builtin "object.__class__"))) (m_Ring:PySem.W.mroIn K C_Ring (.type "object")=some true) (w_Ring:PySem.W.subIn K (.ref C_Ring) (.type "ValueError")=some true)
   (u_Ring_PathError:PySem.W.mroIn K C_Ring (.ref C_PathError)=some true)
   (r_Ring_Caught:PySem.W.subIn K (.ref C_Ring) (.ref C_Caught)=some false)
   (r_Ring_NoName:PySem.W.subIn K (.ref C_Ring) (.ref C_NoName)=some false)
   (r_Ring_NoPlace:PySem.W.subIn K (.ref C_Ring) (.ref C_NoPlace)=some false)
   (r_Ring_NoRow:PySem.W.subIn K (.ref C_Ring) (.ref C_NoRow)=some false)
   (r_Ring_NoText:PySem.W.subIn K (.ref C_Ring) (.ref C_NoText)=some false)
   (r_Ring_Ring:PySem.W.subIn K (.ref C_Ring) (.ref C_Ring)=some true)
   (r_Ring_Tangled:PySem.W.subIn K (.ref C_Ring) (.ref C_Tangled)=some false)
   (r_Ring_TooGreat:PySem.W.subIn K (.ref C_Ring) (.ref C_TooGreat)=some false)
   (r_Ring_Twice:PySem.W.subIn K (.ref C_Ring) (.ref C_Twice)=some false)
   (n_Ring_Caught:(Value.ref C_Ring == Value.ref C_Caught)=false)
   (n_Ring_NoName:(Value.ref C_Ring == Value.ref C_NoName)=false)
   (n_Ring_NoPlace:(Value.ref C_Ring == Value.ref C_NoPlace)=false)
   (n_Ring_NoRow:(Value.ref C_Ring == Value.ref C_NoRow)=false)
   (n_Ring_NoText:(Value.ref C_Ring == Value.ref C_NoText)=false)
   (n_Ring_Tangled:(Value.ref C_Ring == Value.ref C_Tangled)=false)
   (n_Ring_TooGreat:(Value.ref C_Ring == Value.ref C_TooGreat)=false)
   (n_Ring_Twice:(Value.ref C_Ring == Value.ref C_Twice)=false)
   (p_TooGreat:PySem.W.findIn K (.ref C_TooGreat) "__getattribute__" = some (some (.builtin "BaseException.__getattribute__"))) (pa_TooGreat:PySem.W.findIn K (.ref C_TooGreat) "__getattr__" = some none) (pb_TooGreat:PySem.W.mroIn K C_TooGreat (.type "BaseException")=some true) (q_TooGreat:PySem.W.findIn K (.ref C_TooGreat) "__class__" = some (some (.builtin "object.__class__"))) (m_TooGreat:PySem.W.mroIn K C_TooGreat (.type "object")=some true) (w_TooGreat:PySem.W.subIn K (.ref C_TooGreat) (.type "ValueError")=some true)
   (u_TooGreat_PathError:PySem.W.mroIn K C_TooGreat (.ref C_PathError)=some true)
   (r_TooGreat_Caught:PySem.W.subIn K (.ref C_TooGreat) (.ref C_Caught)=some false)
   (r_TooGreat_NoName:PySem.W.subIn K (.ref C_TooGreat) (.ref C_NoName)=some false)
   (r_TooGreat_NoPlace:PySem.W.subIn K (.ref C_TooGreat) (.ref C_NoPlace)=some false)
   (r_TooGreat_NoRow:PySem.W.subIn K (.ref C_TooGreat) (.ref C_NoRow)=some false)
   (r_TooGreat_NoText:PySem.W.subIn K (.ref C_TooGreat) (.ref C_NoText)=some false)
   (r_TooGreat_Ring:PySem.W.subIn K (.ref C_TooGreat) (.ref C_Ring)=some false)
   (r_TooGreat_Tangled:PySem.W.subIn K (.ref C_TooGreat) (.ref C_Tangled)=some false)
   (r_TooGreat_TooGreat:PySem.W.subIn K (.ref C_TooGreat) (.ref C_TooGreat)=some true)
   (r_TooGreat_Twice:PySem.W.subIn K (.ref C_TooGreat) (.ref C_Twice)=some false)
   (n_TooGreat_Caught:(Value.ref C_TooGreat == Value.ref C_Caught)=false)
   (n_TooGreat_NoName:(Value.ref C_TooGreat == Value.ref C_NoName)=false)
   (n_TooGreat_NoPlace:(Value.ref C_TooGreat == Value.ref C_NoPlace)=false)
   (n_TooGreat_NoRow:(Value.ref C_TooGreat == Value.ref C_NoRow)=false)
   (n_TooGreat_NoText:(Value.ref C_TooGreat == Value.ref C_NoText)=false)
   (n_TooGreat_Ring:(Value.ref C_TooGreat == Value.ref C_Ring)=false)
   (n_TooGreat_Tangled:(Value.ref C_TooGreat == Value.ref C_Tangled)=false)
   (n_TooGreat_Twice:(Value.ref C_TooGreat == Value.ref C_Twice)=false)
   (p_Twice:PySem.W.findIn K (.ref C_Twice) "__getattribute__" = some (some (.builtin "BaseException.__getattribute__"))) (pa_Twice:PySem.W.findIn K (.ref C_Twice) "__getattr__" = some none) (pb_Twice:PySem.W.mroIn K C_Twice (.type "BaseException")=some true) (q_Twice:PySem.W.findIn K (.ref C_Twice) "__class__" = some (some (.builtin "object.__class__"))) (m_Twice:PySem.W.mroIn K C_Twice (.type "object")=some true) (w_Twice:PySem.W.subIn K (.ref C_Twice) (.type "ValueError")=some true)
   (u_Twice_PathError:PySem.W.mroIn K C_Twice (.ref C_PathError)=some true)
   (r_Twice_Caught:PySem.W.subIn K (.ref C_Twice) (.ref C_Caught)=some false)
   (r_Twice_NoName:PySem.W.subIn K (.ref C_Twice) (.ref C_NoName)=some false)
   (r_Twice_NoPlace:PySem.W.subIn K (.ref C_Twice) (.ref C_NoPlace)=some false)
   (r_Twice_NoRow:PySem.W.subIn K (.ref C_Twice) (.ref C_NoRow)=some false)
   (r_Twice_NoText:PySem.W.subIn K (.ref C_Twice) (.ref C_NoText)=some false)
   (r_Twice_Ring:PySem.W.subIn K (.ref C_Twice) (.ref C_Ring)=some false)
   (r_Twice_Tangled:PySem.W.subIn K (.ref C_Twice) (.ref C_Tangled)=some false)
   (r_Twice_TooGreat:PySem.W.subIn K (.ref C_Twice) (.ref C_TooGreat)=some false)
   (r_Twice_Twice:PySem.W.subIn K (.ref C_Twice) (.ref C_Twice)=some true)
   (n_Twice_Caught:(Value.ref C_Twice == Value.ref C_Caught)=false)
   (n_Twice_NoName:(Value.ref C_Twice == Value.ref C_NoName)=false)
   (n_Twice_NoPlace:(Value.ref C_Twice == Value.ref C_NoPlace)=false)
   (n_Twice_NoRow:(Value.ref C_Twice == Value.ref C_NoRow)=false)
   (n_Twice_NoText:(Value.ref C_Twice == Value.ref C_NoText)=false)
   (n_Twice_Ring:(Value.ref C_Twice == Value.ref C_Ring)=false)
   (n_Twice_Tangled:(Value.ref C_Twice == Value.ref C_Tangled)=false)
   (n_Twice_TooGreat:(Value.ref C_Twice == Value.ref C_TooGreat)=false)
   (o_Caught:PySem.W.mroIn K C_Caught (.type "object")=some true) (t_Caught:PySem.W.typeIn K (.ref C_Caught)=some (.type "type"))
   (o_NoName:PySem.W.mroIn K C_NoName (.type "object")=some true) (t_NoName:PySem.W.typeIn K (.ref C_NoName)=some (.type "type"))
   (o_NoPlace:PySem.W.mroIn K C_NoPlace (.type "object")=some true) (t_NoPlace:PySem.W.typeIn K (.ref C_NoPlace)=some (.type "type"))
   (o_NoRow:PySem.W.mroIn K C_NoRow (.type "object")=some true) (t_NoRow:PySem.W.typeIn K (.ref C_NoRow)=some (.type "type"))
   (o_NoText:PySem.W.mroIn K C_NoText (.type "object")=some true) (t_NoText:PySem.W.typeIn K (.ref C_NoText)=some (.type "type"))
   (o_Ring:PySem.W.mroIn K C_Ring (.type "object")=some true) (t_Ring:PySem.W.typeIn K (.ref C_Ring)=some (.type "type"))
   (o_Tangled:PySem.W.mroIn K C_Tangled (.type "object")=some true) (t_Tangled:PySem.W.typeIn K (.ref C_Tangled)=some (.type "type"))
   (o_TooGreat:PySem.W.mroIn K C_TooGreat (.type "object")=some true) (t_TooGreat:PySem.W.typeIn K (.ref C_TooGreat)=some (.type "type"))
   (o_Twice:PySem.W.mroIn K C_Twice (.type "object")=some true) (t_Twice:PySem.W.typeIn K (.ref C_Twice)=some (.type "type"))
   : Facts K
theorem run_seen (w:World):Option.map (fun s=>Fast.tw4187177175401517315 view [] (Fast.tw5923862056798008813 PySem.Challenge.pw_namepaths_k76_table_texts_refused.main.body) (fun s=>xlAt view [] s && recOk [] s) true s) (runF PySem.Challenge.pw_namepaths_k76_table_texts_refused w 40000)=some (openGood view []):=by kernel_rfl
end K76
section
open PySem PySem.W PyProof.Rows
local macro_rules | `(tactic| o_head $H:term) => `(tactic| refine holds_open (q := K76.view) (loose := []) (Xt := fun s => xlAt K76.view [] s && recOk [] s) (XP := XL K76.view []) (Yf := Hook.obs $H) (Ya := Hook.val $H) (YP := Hook.says $H) (N := 40000) ?hl (Hook.of $H) (Hook.keeps $H) (fun s e => xl_of s (Bool.and_eq_true_iff.mp e).1) XL.keeps (by rfl) (by rfl) (by rfl) (fun s e => recFacts_of (Bool.and_eq_true_iff.mp e).2) (by rfl) (by first | assumption | decide +kernel) (by decide +kernel) ⟨rfl, rfl, rfl, rfl, rfl, by decide +kernel⟩ ?hw ?hc)
set_option maxHeartbeats 0 in
theorem K76.hd (hyp:∀ K:Params→Frag,(∀ w:World,K76.Facts (K w.params))→∀ (YP:World→Heap→Prop) (d:DefRec),d.params.defaults=[]→d.name = "law" → (∀ (w:World) (h:Heap),YP w h→(K w.params).In h)→WalkO K76.view [] (XL K76.view []) YP PySem.Challenge.rw_namepaths_k76_table_texts_refused.row.toRowW d [] (fun f vs=>PySem.call f vs)):PySem.Challenge.rw_namepaths_k76_table_texts_refused.Holds:=by
 w_on;o_law;k_head
 case hl =>
  refine L2.left_of K76.run_seen fun w=>?_
  kernel_rfl
 case hw=>w_witness2
 k_fill
 refine hyp _ (fun w=>?fx) _ _ rfl rfl (fun w h Y=>PySem.W.kIn_of Y)
 case fx =>
  refine' K76.Facts.mk ?a0 ?l0 ?c0 ?k0 ?a1 ?l1 ?c1 ?k1 ?a2 ?l2 ?c2 ?k2 ?a3 ?l3 ?c3 ?k3 ?a4 ?l4 ?c4 ?k4 ?a5 ?l5 ?c5 ?k5 ?a6 ?l6 ?c6 ?k6 ?a7 ?l7 ?c7 ?k7 ?a8 ?l8 ?c8 ?k8 ?a9 ?l9 ?c9 ?k9 ?a10 ?l10 ?c10 ?k10 ?a11 ?l11 ?c11 ?k11 ?a12 ?l12 ?c12 ?k12 ?a13 ?l13 ?c13 ?k13 ?a14 ?l14 ?c14 ?k14 ?a15 ?l15 ?c15 ?k15 ?a16 ?l16 ?c16 ?k16 ?a17 ?l17 ?c17 ?k17 ?a18 ?l18 ?c18 ?k18 ?a19 ?l19 ?c19 ?k19 ?a20 ?l20 ?c20 ?k20 ?a21 ?l21 ?c21 ?k21 ?a22 ?l22 ?c22 ?k22 ?a23 ?l23 ?c23 ?k23 ?a24 ?l24 ?c24 ?k24 ?a25 ?l25 ?c25 ?k25 ?a26 ?l26 ?c26 ?k26 ?a27 ?l27 ?c27 ?k27 ?a28 ?l28 ?c28 ?k28 ?a29 ?l29 ?c29 ?k29 ?xi29 ?fi29 ?a30 ?l30 ?c30 ?k30 ?a31 ?l31 ?c31 ?k31 ?a32 ?l32 ?c32 ?k32 ?a33 ?l33 ?c33 ?k33 ?a34 ?l34 ?c34 ?k34 ?a35 ?l35 ?c35 ?k35 ?a36 ?l36 ?c36 ?k36 ?a37 ?l37 ?c37 ?k37 ?z_ValueError ?z_all ?z_any ?z_bool ?z_int ?z_isinstance ?z_len ?z_list ?z_range ?z_set ?z_sorted ?z_str ?z_tuple ?y_LONGEST_NAME ?y_MOST_ENDS ?y_MOST_FIGURES ?y_MOST_GOES ?y_MOST_PAIRS ?y_MOST_STATES ?g_SIGNS ?tl_SIGNS ?g_Caught ?g_NoName ?g_NoPlace ?g_NoRow ?g_NoText ?g_PathError ?g_Ring ?g_Tangled ?g_TooGreat ?g_Twice ?x_NoName ?x_NoPlace ?x_NoText ?x_PathError ?x_TooGreat ?x_Twice ?hn0 ?ht0 ?op0 ?ty_PathError ?fc_PathError ?kp_Ring ?hd_Ring ?sa_Ring ?na_Ring_ring ?p_NoName ?pa_NoName ?pb_NoName ?q_NoName ?m_NoName ?w_NoName ?u_NoName_PathError ?r_NoName_Caught ?r_NoName_NoName ?r_NoName_NoPlace ?r_NoName_NoRow ?r_NoName_NoText ?r_NoName_Ring ?r_NoName_Tangled ?r_NoName_TooGreat ?r_NoName_Twice ?n_NoName_Caught ?n_NoName_NoPlace ?n_NoName_NoRow ?n_NoName_NoText ?n_NoName_Ring ?n_NoName_Tangled ?n_NoName_TooGreat ?n_NoName_Twice ?p_NoPlace ?pa_NoPlace ?pb_NoPlace ?q_NoPlace ?m_NoPlace ?w_NoPlace ?u_NoPlace_PathError ?r_NoPlace_Caught ?r_NoPlace_NoName ?r_NoPlace_NoPlace ?r_NoPlace_NoRow ?r_NoPlace_NoText ?r_NoPlace_Ring ?r_NoPlace_Tangled ?r_NoPlace_TooGreat ?r_NoPlace_Twice ?n_NoPlace_Caught ?n_NoPlace_NoName ?n_NoPlace_NoRow ?n_NoPlace_NoText ?n_NoPlace_Ring ?n_NoPlace_Tangled ?n_NoPlace_TooGreat ?n_NoPlace_Twice ?p_NoText ?pa_NoText ?pb_NoText ?q_NoText ?m_NoText ?w_NoText ?u_NoText_PathError ?r_NoText_Caught ?r_NoText_NoName ?r_NoText_NoPlace ?r_NoText_NoRow ?r_NoText_NoText ?r_NoText_Ring ?r_NoText_Tangled ?r_NoText_TooGreat ?r_NoText_Twice ?n_NoText_Caught ?n_NoText_NoName ?n_NoText_NoPlace ?n_NoText_NoRow ?n_NoText_Ring ?n_NoText_Tangled ?n_NoText_TooGreat ?n_NoText_Twice ?p_Ring ?pa_Ring ?pb_Ring ?q_Ring ?m_Ring ?w_Ring ?u_Ring_PathError ?r_Ring_Caught ?r_Ring_NoName ?r_Ring_NoPlace ?r_Ring_NoRow ?r_Ring_NoText ?r_Ring_Ring ?r_Ring_Tangled ?r_Ring_TooGreat ?r_Ring_Twice ?n_Ring_Caught ?n_Ring_NoName ?n_Ring_NoPlace ?n_Ring_NoRow ?n_Ring_NoText ?n_Ring_Tangled ?n_Ring_TooGreat ?n_Ring_Twice ?p_TooGreat ?pa_TooGreat ?pb_TooGreat ?q_TooGreat ?m_TooGreat ?w_TooGreat ?u_TooGreat_PathError ?r_TooGreat_Caught ?r_TooGreat_NoName ?r_TooGreat_NoPlace ?r_TooGreat_NoRow ?r_TooGreat_NoText ?r_TooGreat_Ring ?r_TooGreat_Tangled ?r_TooGreat_TooGreat ?r_TooGreat_Twice ?n_TooGreat_Caught ?n_TooGreat_NoName ?n_TooGreat_NoPlace ?n_TooGreat_NoRow ?n_TooGreat_NoText ?n_TooGreat_Ring ?n_TooGreat_Tangled ?n_TooGreat_Twice ?p_Twice ?pa_Twice ?pb_Twice ?q_Twice ?m_Twice ?w_Twice ?u_Twice_PathError ?r_Twice_Caught ?r_Twice_NoName ?r_Twice_NoPlace ?r_Twice_NoRow ?r_Twice_NoText ?r_Twice_Ring ?r_Twice_Tangled ?r_Twice_TooGreat ?r_Twice_Twice ?n_Twice_Caught ?n_Twice_NoName ?n_Twice_NoPlace ?n_Twice_NoRow ?n_Twice_NoText ?n_Twice_Ring ?n_Twice_Tangled ?n_Twice_TooGreat ?o_Caught ?t_Caught ?o_NoName ?t_NoName ?o_NoPlace ?t_NoPlace ?o_NoRow ?t_NoRow ?o_NoText ?t_NoText ?o_Ring ?t_Ring ?o_Tangled ?t_Tangled ?o_TooGreat ?t_TooGreat ?o_Twice ?t_Twice
  (case g_SIGNS=>k_is)
  (case g_Caught=>k_is)
  (case g_NoName=>k_is)
  (case g_NoPlace=>k_is)
  (case g_NoRow=>k_is)
  (case g_NoText=>k_is)
  (case g_PathError=>k_is)
  (case g_Ring=>k_is)
  (case g_Tangled=>k_is)
  (case g_TooGreat=>k_is)
  (case g_Twice=>k_is)
  (case a0=>k_is)
  (case l0=>k_is)
  (case c0=>k_is)
  (case k0=>k_is)
  (case a1=>k_is)
  (case l1=>k_is)
  (case c1=>k_is)
  (case k1=>k_is)
  (case a2=>k_is)
  (case l2=>k_is)
  (case c2=>k_is)
  (case k2=>k_is)
  (case a3=>k_is)
  (case l3=>k_is)
  (case c3=>k_is)
  (case k3=>k_is)
  (case a4=>k_is)
  (case l4=>k_is)
  (case c4=>k_is)
  (case k4=>k_is)
  (case a5=>k_is)
  (case l5=>k_is)
  (case c5=>k_is)
  (case k5=>k_is)
  (case a6=>k_is)
  (case l6=>k_is)
  (case c6=>k_is)
  (case k6=>k_is)
  (case a7=>k_is)
  (case l7=>k_is)
  (case c7=>k_is)
  (case k7=>k_is)
  (case a8=>k_is)
  (case l8=>k_is)
  (case c8=>k_is)
  (case k8=>k_is)
  (case a9=>k_is)
  (case l9=>k_is)
  (case c9=>k_is)
  (case k9=>k_is)
  (case a10=>k_is)
  (case l10=>k_is)
  (case c10=>k_is)
  (case k10=>k_is)
  (case a11=>k_is)
  (case l11=>k_is)
  (case c11=>k_is)
  (case k11=>k_is)
  (case a12=>k_is)
  (case l12=>k_is)
  (case c12=>k_is)
  (case k12=>k_is)
  (case a13=>k_is)
  (case l13=>k_is)
  (case c13=>k_is)
  (case k13=>k_is)
  (case a14=>k_is)
  (case l14=>k_is)
  (case c14=>k_is)
  (case k14=>k_is)
  (case a15=>k_is)
  (case l15=>k_is)
  (case c15=>k_is)
  (case k15=>k_is)
  (case a16=>k_is)
  (case l16=>k_is)
  (case c16=>k_is)
  (case k16=>k_is)
  (case a17=>k_is)
  (case l17=>k_is)
  (case c17=>k_is)
  (case k17=>k_is)
  (case a18=>k_is)
  (case l18=>k_is)
  (case c18=>k_is)
  (case k18=>k_is)
  (case a19=>k_is)
  (case l19=>k_is)
  (case c19=>k_is)
  (case k19=>k_is)
  (case a20=>k_is)
  (case l20=>k_is)
  (case c20=>k_is)
  (case k20=>k_is)
  (case a21=>k_is)
  (case l21=>k_is)
  (case c21=>k_is)
  (case k21=>k_is)
  (case a22=>k_is)
  (case l22=>k_is)
  (case c22=>k_is)
  (case k22=>k_is)
  (case a23=>k_is)
  (case l23=>k_is)
  (case c23=>k_is)
  (case k23=>k_is)
  (case a24=>k_is)
  (case l24=>k_is)
  (case c24=>k_is)
  (case k24=>k_is)
  (case a25=>k_is)
  (case l25=>k_is)
  (case c25=>k_is)
  (case k25=>k_is)
  (case a26=>k_is)
  (case l26=>k_is)
  (case c26=>k_is)
  (case k26=>k_is)
  (case a27=>k_is)
  (case l27=>k_is)
  (case c27=>k_is)
  (case k27=>k_is)
  (case a28=>k_is)
  (case l28=>k_is)
  (case c28=>k_is)
  (case k28=>k_is)
  (case a29=>k_is)
  (case l29=>k_is)
  (case c29=>k_is)
  (case k29=>k_is)
  (case xi29=>kernel_rfl)
  (case fi29=>kernel_rfl)
  (case a30=>k_is)
  (case l30=>k_is)
  (case c30=>k_is)
  (case k30=>k_is)
  (case a31=>k_is)
  (case l31=>k_is)
  (case c31=>k_is)
  (case k31=>k_is)
  (case a32=>k_is)
  (case l32=>k_is)
  (case c32=>k_is)
  (case k32=>k_is)
  (case a33=>k_is)
  (case l33=>k_is)
  (case c33=>k_is)
  (case k33=>k_is)
  (case a34=>k_is)
  (case l34=>k_is)
  (case c34=>k_is)
  (case k34=>k_is)
  (case a35=>k_is)
  (case l35=>k_is)
  (case c35=>k_is)
  (case k35=>k_is)
  (case a36=>k_is)
  (case l36=>k_is)
  (case c36=>k_is)
  (case k36=>k_is)
  (case a37=>k_is)
  (case l37=>k_is)
  (case c37=>k_is)
  (case k37=>k_is)
  (case z_ValueError=>k_is)
  (case z_all=>k_is)
  (case z_any=>k_is)
  (case z_bool=>k_is)
  (case z_int=>k_is)
  (case z_isinstance=>k_is)
  (case z_len=>k_is)
  (case z_list=>k_is)
  (case z_range=>k_is)
  (case z_set=>k_is)
  (case z_sorted=>k_is)
  (case z_str=>k_is)
  (case z_tuple=>k_is)
  (case y_LONGEST_NAME=>k_is)
  (case y_MOST_ENDS=>k_is)
  (case y_MOST_FIGURES=>k_is)
  (case y_MOST_GOES=>k_is)
  (case y_MOST_PAIRS=>k_is)
  (case y_MOST_STATES=>k_is)
  (case tl_SIGNS=>k_is)
  (case x_NoName=>k_exc)
  (case x_NoPlace=>k_exc)
  (case x_NoText=>k_exc)
  (case x_PathError=>k_exc)
  (case x_TooGreat=>k_exc)
  (case x_Twice=>k_exc)
  (case hn0=>k_is)
  (case ht0=>k_is)
  (case op0=>k_is)
  (case ty_PathError=>k_is)
  (case fc_PathError=>k_is)
  (case kp_Ring=>kernel_rfl)
  (case hd_Ring=>kernel_rfl)
  (case sa_Ring=>k_is)
  (case na_Ring_ring=>k_is)
  (case p_NoName=>k_is)
  (case pa_NoName=>k_is)
  (case pb_NoName=>k_is)
  (case q_NoName=>k_is)
  (case m_NoName=>k_is)
  (case w_NoName=>k_is)
  (case u_NoName_PathError=>k_is)
  (case r_NoName_Caught=>k_is)
  (case r_NoName_NoName=>k_is)
  (case r_NoName_NoPlace=>k_is)
  (case r_NoName_NoRow=>k_is)
  (case r_NoName_NoText=>k_is)
  (case r_NoName_Ring=>k_is)
  (case r_NoName_Tangled=>k_is)
  (case r_NoName_TooGreat=>k_is)
  (case r_NoName_Twice=>k_is)
  (case n_NoName_Caught=>rfl)
  (case n_NoName_NoPlace=>rfl)
  (case n_NoName_NoRow=>rfl)
  (case n_NoName_NoText=>rfl)
  (case n_NoName_Ring=>rfl)
  (case n_NoName_Tangled=>rfl)
  (case n_NoName_TooGreat=>rfl)
  (case n_NoName_Twice=>rfl)
  (case p_NoPlace=>k_is)
  (case pa_NoPlace=>k_is)
  (case pb_NoPlace=>k_is)
  (case q_NoPlace=>k_is)
  (case m_NoPlace=>k_is)
  (case w_NoPlace=>k_is)
  (case u_NoPlace_PathError=>k_is)
  (case r_NoPlace_Caught=>k_is)
  (case r_NoPlace_NoName=>k_is)
  (case r_NoPlace_NoPlace=>k_is)
  (case r_NoPlace_NoRow=>k_is)
  (case r_NoPlace_NoText=>k_is)
  (case r_NoPlace_Ring=>k_is)
  (case r_NoPlace_Tangled=>k_is)
  (case r_NoPlace_TooGreat=>k_is)
  (case r_NoPlace_Twice=>k_is)
  (case n_NoPlace_Caught=>rfl)
  (case n_NoPlace_NoName=>rfl)
  (case n_NoPlace_NoRow=>rfl)
  (case n_NoPlace_NoText=>rfl)
  (case n_NoPlace_Ring=>rfl)
  (case n_NoPlace_Tangled=>rfl)
  (case n_NoPlace_TooGreat=>rfl)
  (case n_NoPlace_Twice=>rfl)
  (case p_NoText=>k_is)
  (case pa_NoText=>k_is)
  (case pb_NoText=>k_is)
  (case q_NoText=>k_is)
  (case m_NoText=>k_is)
  (case w_NoText=>k_is)
  (case u_NoText_PathError=>k_is)
  (case r_NoText_Caught=>k_is)
  (case r_NoText_NoName=>k_is)
  (case r_NoText_NoPlace=>k_is)
  (case r_NoText_NoRow=>k_is)
  (case r_NoText_NoText=>k_is)
  (case r_NoText_Ring=>k_is)
  (case r_NoText_Tangled=>k_is)
  (case r_NoText_TooGreat=>k_is)
  (case r_NoText_Twice=>k_is)
  (case n_NoText_Caught=>rfl)
  (case n_NoText_NoName=>rfl)
  (case n_NoText_NoPlace=>rfl)
  (case n_NoText_NoRow=>rfl)
  (case n_NoText_Ring=>rfl)
  (case n_NoText_Tangled=>rfl)
  (case n_NoText_TooGreat=>rfl)
  (case n_NoText_Twice=>rfl)
  (case p_Ring=>k_is)
  (case pa_Ring=>k_is)
  (case pb_Ring=>k_is)
  (case q_Ring=>k_is)
  (case m_Ring=>k_is)
  (case w_Ring=>k_is)
  (case u_Ring_PathError=>k_is)
  (case r_Ring_Caught=>k_is)
  (case r_Ring_NoName=>k_is)
  (case r_Ring_NoPlace=>k_is)
  (case r_Ring_NoRow=>k_is)
  (case r_Ring_NoText=>k_is)
  (case r_Ring_Ring=>k_is)
  (case r_Ring_Tangled=>k_is)
  (case r_Ring_TooGreat=>k_is)
  (case r_Ring_Twice=>k_is)
  (case n_Ring_Caught=>rfl)
  (case n_Ring_NoName=>rfl)
  (case n_Ring_NoPlace=>rfl)
  (case n_Ring_NoRow=>rfl)
  (case n_Ring_NoText=>rfl)
  (case n_Ring_Tangled=>rfl)
  (case n_Ring_TooGreat=>rfl)
  (case n_Ring_Twice=>rfl)
  (case p_TooGreat=>k_is)
  (case pa_TooGreat=>k_is)
  (case pb_TooGreat=>k_is)
  (case q_TooGreat=>k_is)
  (case m_TooGreat=>k_is)
  (case w_TooGreat=>k_is)
  (case u_TooGreat_PathError=>k_is)
  (case r_TooGreat_Caught=>k_is)
  (case r_TooGreat_NoName=>k_is)
  (case r_TooGreat_NoPlace=>k_is)
  (case r_TooGreat_NoRow=>k_is)
  (case r_TooGreat_NoText=>k_is)
  (case r_TooGreat_Ring=>k_is)
  (case r_TooGreat_Tangled=>k_is)
  (case r_TooGreat_TooGreat=>k_is)
  (case r_TooGreat_Twice=>k_is)
  (case n_TooGreat_Caught=>rfl)
  (case n_TooGreat_NoName=>rfl)
  (case n_TooGreat_NoPlace=>rfl)
  (case n_TooGreat_NoRow=>rfl)
  (case n_TooGreat_NoText=>rfl)
  (case n_TooGreat_Ring=>rfl)
  (case n_TooGreat_Tangled=>rfl)
  (case n_TooGreat_Twice=>rfl)
  (case p_Twice=>k_is)
  (case pa_Twice=>k_is)
  (case pb_Twice=>k_is)
  (case q_Twice=>k_is)
  (case m_Twice=>k_is)
  (case w_Twice=>k_is)
  (case u_Twice_PathError=>k_is)
  (case r_Twice_Caught=>k_is)
  (case r_Twice_NoName=>k_is)
  (case r_Twice_NoPlace=>k_is)
  (case r_Twice_NoRow=>k_is)
  (case r_Twice_NoText=>k_is)
  (case r_Twice_Ring=>k_is)
  (case r_Twice_Tangled=>k_is)
  (case r_Twice_TooGreat=>k_is)
  (case r_Twice_Twice=>k_is)
  (case n_Twice_Caught=>rfl)
  (case n_Twice_NoName=>rfl)
  (case n_Twice_NoPlace=>rfl)
  (case n_Twice_NoRow=>rfl)
  (case n_Twice_NoText=>rfl)
  (case n_Twice_Ring=>rfl)
  (case n_Twice_Tangled=>rfl)
  (case n_Twice_TooGreat=>rfl)
  (case o_Caught=>k_is)
  (case t_Caught=>k_is)
  (case o_NoName=>k_is)
  (case t_NoName=>k_is)
  (case o_NoPlace=>k_is)
  (case t_NoPlace=>k_is)
  (case o_NoRow=>k_is)
  (case t_NoRow=>k_is)
  (case o_NoText=>k_is)
  (case t_NoText=>k_is)
  (case o_Ring=>k_is)
  (case t_Ring=>k_is)
  (case o_Tangled=>k_is)
  (case t_Tangled=>k_is)
  (case o_TooGreat=>k_is)
  (case t_TooGreat=>k_is)
  (case o_Twice=>k_is)
  (case t_Twice=>k_is)
end
set_option Elab.async false
set_option linter.all false
set_option maxRecDepth 100000
namespace L2
open PySem PySem.Spec PyProof.Rows
abbrev Key:=Sum Int Str
def Zhm:Key→Value→Bool
 | .inl k,v=>Value.isInt k v
 | .inr x,v=>Value.isStrOf x v
def keyH (w:World):Key→Int
 | .inl k=>hashInt k
 | .inr x=>hashStr w x
theorem Zbs:∀ {k:Key}{v:Value},Zhm k v=true→(∃ i t,k=Sum.inl i∧v=Value.int i t)∨(∃ x t,k=Sum.inr x∧v=Value.str x t)
 | .inl i,v,h=>by
   obtain ⟨t,e⟩:=Value.isInt_shape (k:=i) (v:=v) h;exact .inl ⟨i,t,rfl,e⟩
 | .inr x,v,h=>by
   obtain ⟨t,e⟩:=Value.isStrOf_shape (x:=x) (v:=v) h;exact .inr ⟨x,t,rfl,e⟩
theorem Zjb (i:Int) (t:Tok):Zhm (.inl i) (.int i t)=true:=by simp [Zhm,Value.isInt]
theorem Zjc (x:Str) (t:Tok):Zhm (.inr x) (.str x t)=true:=by simp [Zhm,Value.isStrOf]
theorem key_ll (a b:Int):decide ((Sum.inl a:Key)=Sum.inl b)=(a == b):=by
 by_cases e:a=b
 · subst e;simp
 · have h:¬(Sum.inl a:Key)=Sum.inl b:=fun q=>e (Sum.inl.inj q)
   rw [Xa2 h];exact (beq_eq_false_iff_ne.mpr e).symm
theorem key_rr (a b:Str):decide ((Sum.inr a:Key)=Sum.inr b)=decide (a=b):=by
 by_cases e:a=b
 · subst e;simp
 · have h:¬(Sum.inr a:Key)=Sum.inr b:=fun q=>e (Sum.inr.inj q)
   rw [Xa2 h,Xa2 e]
theorem key_lr (a:Int) (b:Str):decide ((Sum.inl a:Key)=Sum.inr b)=false:=Xa2 (fun q=>nomatch q)
theorem key_rl (a:Str) (b:Int):decide ((Sum.inr a:Key)=Sum.inl b)=false:=Xa2 (fun q=>nomatch q)
def Zbt (prog : Program) (w : World) : PySem.KeyKind prog w Key where
 is:=Zhm
 hash:=keyH w
 inj:=fun v a b ha hb=>by
  rcases Zbs ha with ⟨i,t,rfl,rfl⟩ | ⟨x,t,rfl,rfl⟩
  · rcases Zbs hb with ⟨j,u,rfl,e⟩ | ⟨y,u,rfl,e⟩
    · injection e with e1 _;rw [e1]
    · exact nomatch e
  · rcases Zbs hb with ⟨j,u,rfl,e⟩ | ⟨y,u,rfl,e⟩
    · exact nomatch e
    · injection e with e1 _;rw [e1]
 byValue:=fun k v h=>by
  rcases Zbs h with ⟨i,t,rfl,rfl⟩ | ⟨x,t,rfl,rfl⟩ <;> rfl
 pyHash:=fun hv h=>by
  rcases Zbs hv with ⟨i,t,rfl,rfl⟩ | ⟨x,t,rfl,rfl⟩
  · exact wpAny_pyHash_int h
  · exact wpAny_pyHash_str h
 eqBool:=fun hu hv h=>by
  rcases Zbs hu with ⟨i,t,rfl,rfl⟩ | ⟨x,t,rfl,rfl⟩
  · rcases Zbs hv with ⟨j,u,rfl,rfl⟩ | ⟨y,u,rfl,rfl⟩
    · rw [key_ll] at h;exact wpAny_eqBool_int h
    · rw [key_lr] at h;exact SeqAt.EqAt.int_str i t y u _ _ _ _ h
  · rcases Zbs hv with ⟨j,u,rfl,rfl⟩ | ⟨y,u,rfl,rfl⟩
    · rw [key_rl] at h;exact SeqAt.EqAt.str_int x t j u _ _ _ _ h
    · rw [key_rr] at h;exact wpAny_eqBool_str h
 «strs»:=fun k x t v h=>by
  rcases Zbs h with ⟨i,u,rfl,e⟩ | ⟨y,u,rfl,e⟩
  · exact nomatch e
  · injection e with e1 _
    subst e1
    cases v <;> rfl
theorem Zhn (prog:Program) (w:World) (i:Int) (t:Tok):(Zbt prog w).is (.inl i) (.int i t)=true:=Zjb i t
theorem Zho (prog:Program) (w:World) (x:Str) (t:Tok):(Zbt prog w).is (.inr x) (.str x t)=true:=Zjc x t
inductive V where
 | non | bl (b:Bool) | int (i:Int) | str (x:Str) | byt (b:Array UInt8) | flt (b:UInt64) | ref (a:Addr) | ty (n:String)
 deriving DecidableEq
def RelV:V→Value→Prop
 | .non,u=>u=Value.none
 | .bl b,u=>u=Value.bool b
 | .int i,u=>∃ t,u=Value.int i t
 | .str x,u=>∃ t,u=Value.str x t
 | .byt b,u=>∃ t,u=Value.bytes b t
 | .flt b,u=>∃ t,u=Value.float b t
 | .ref a,u=>u=Value.ref a
 | .ty n,u=>u=Value.type n
abbrev Vals:List V→List Value→Prop:=Paired RelV
theorem Vals.length {xs:List V}{us:List Value} (r:Vals xs us):xs.length=us.length:=Paired.length r
theorem Vals.get:∀ {xs:List V}{us:List Value}{i:Nat}{x:V},Vals xs us→xs[i]?=some x→∃ u,us[i]?=some u∧RelV x u
 | _,_,_,_,.nil,e=>by simp at e
 | _,_,0,_,.cons r _,e=>by simp at e;subst e;exact ⟨_,rfl,r⟩
 | _,_,i+1,x,.cons _ t,e=>by
   obtain ⟨u,h1,h2⟩:=Vals.get (i:=i) (x:=x) t (by simpa using e);exact ⟨u,by simpa using h1,h2⟩
theorem Vals.set {x:V}{u:Value} (r:RelV x u):∀ {xs:List V} {us:List Value} (i:Nat),Vals xs us→Vals (xs.set i x) (us.set i u)
 | _,_,_,.nil=>.nil
 | _,_,0,.cons _ t=>.cons r t
 | _,_,i+1,.cons q t=>.cons q (Vals.set r i t)
theorem Vals.append:∀ {xs ys:List V}{us ws:List Value},Vals xs us→Vals ys ws→Vals (xs++ys) (us++ws)
 | _,_,_,_,.nil,s=>s
 | _,_,_,_,.cons r t,s=>.cons r (Vals.append t s)
theorem Vals.take:∀ {xs:List V}{us:List Value} (n:Nat),Vals xs us→Vals (xs.take n) (us.take n)
 | _,_,0,_=>.nil
 | _,_,_+1,.nil=>.nil
 | _,_,n+1,.cons r t=>.cons r (Vals.take n t)
theorem Vals.drop:∀ {xs:List V}{us:List Value} (n:Nat),Vals xs us→Vals (xs.drop n) (us.drop n)
 | _,_,0,r=>r
 | _,_,_+1,.nil=>.nil
 | _,_,n+1,.cons _ t=>Vals.drop n t
def RelO:Option V→Option Value→Prop
 | some v,some u=>RelV v u
 | none,none=>True
 | _,_=>False
def KV {κ:Type}:List (κ×V)→List (κ×Value)→Prop:=Paired fun (p:κ×V) (q:κ×Value)=>p.1=q.1∧RelV p.2 q.2
def kV:Key→V
 | .inl i=>.int i
 | .inr x=>.str x
inductive HO where
 | lst (xs:List V)
 | tup (xs:List V)
 | dK (kvs:List (Key×V)) | dT (kvs:List (List Key×V))
 | set (S:Int→Bool) (n:Nat)
 | ins (C dx:Addr) (fs:List (Str×V))
 | own (x:Addr)
 | xd (fs:List (Str×V))
 | met (f x:Addr)
 | rng (lo hi:Int)
 | frz (o:Obj) (u:HO)
 | tbl (ps:Array Value)
 | ext (φ:Heap→Prop)
abbrev Hp:=Addr→Option HO
def upd (H:Hp) (a:Addr) (o:HO):Hp:=fun b=>if b=a then some o else H b
theorem Zac {H:Hp}{a:Addr}{o:HO}:upd H a o a=some o:=by unfold upd;rw [Xba rfl]
theorem Zaf {H:Hp}{a b:Addr}{o:HO} (h:b≠a):upd H a o b=H b:=by unfold upd;rw [Xa9 h]
theorem upd_upd {H:Hp}{a:Addr}{o u:HO}:upd (upd H a o) a u=upd H a u:=by
 funext b;unfold upd;split <;> rfl
theorem ZfI {H:Hp}{a b:Addr}{o u:HO} (h:H a=some o) (h':H b=some u) (d:o≠u):a≠b:=by
 intro e;subst e;rw [h] at h';exact d (Xa8 h')
theorem Zag {H:Hp}{a b:Addr}{o:HO} (h:H a=some o) (h':H b=none):a≠b:=by
 intro e;subst e;rw [h] at h';cases h'
section
variable (P:Program) (w:World)
def ObjOk (H:Hp) (h:Heap) (a:Addr):HO→Prop
 | .lst xs=>xs.length≤sizeLine∧∃ (its:List Value) (n:Nat),Vals xs its∧h.get? a=some { cls:=.type "list",data:=.seq its.toArray n }
 | .tup xs=>xs.length≤sizeLine∧∃ its:List Value,Vals xs its∧IsTup h a its.toArray
 | .dK kvs=>kvs.length≤sizeLine∧(a == sysModules)=false∧∃ vs,KV kvs vs∧h.DictOf (Zbt P w) a vs
 | .dT kvs=>kvs.length≤sizeLine∧(a == sysModules)=false∧∃ xs:List (List Key×Addr×Value),
  Paired (fun (p:List Key×V) (q:List Key×Addr×Value)=>p.1=q.1∧H q.2.1=some (.tup (p.1.map kV))∧RelV p.2 q.2.2) kvs xs ∧
  ∃ o es ep,h.get? a=some o∧o.ExactDict∧o.data=.dict es ep∧es.toList=xs.map (entryOfKey (tupleKind (Zbt P w)))∧(xs.map (·.1)).Nodup
 | .set S n=>h.SetOf (intKind P w) a S n
 | .ins C dx fs=>H dx=some (.own a)∧fs.length≤1000∧dx≠a∧h.get? a=some (PySem.W.instObj C dx) ∧
  ∃ mA,h.Ns1 dx mA∧(∀ f,RelO (fs.lookup f) (mA f))∧PySem.Within mA (fs.map (·.1))
 | .own _=>∃ o,h.get? a=some o
 | .xd fs=>∃ mA,h.Ns1 a mA∧∀ f,RelO (fs.lookup f) (mA f)
 | .rng lo hi=>∃ t u v,h.get? a=some { cls:=.type "range",data:=.fields #[.int lo t,.int hi u,.int 1 v] }
 | .frz o u=>h.get? a=some o∧ObjOk H h a u
 | .tbl ps=>h.get? a=some { cls:=.none,data:=.fields ps }
 | .met f x=>h.get? a=some (PySem.W.methodObj (.ref f) (.ref x))
 | .ext φ=>φ h∧(∃ o,h.get? a=some o)∧∀ h1 h2:Heap,φ h1→(∀ o,h1.get? a=some o→h2.get? a=some o)→φ h2
def HOk (H:Hp) (h:Heap):Prop:=∀ a o,H a=some o→ObjOk P w H h a o
end
section
variable {P:Program} {w:World} {H H':Hp} {h h':Heap} {a:Addr} {o:HO}
theorem ObjOk.lt (x:ObjOk P w H h a o):a<h.objs.size:=by
 cases o with
 | lst xs=>obtain ⟨_,_,_,_,e⟩:=x;exact Xbl e
 | tup xs=>obtain ⟨_,_,_,p⟩:=x;exact p.lt
 | dK kvs=>obtain ⟨_,_,_,_,o,_,_,e,_⟩:=x;exact Xbl e
 | dT kvs=>obtain ⟨_,_,_,_,o,_,_,e,_⟩:=x;exact Xbl e
 | set S n=>obtain ⟨o,_,_,_,e,_⟩:=x;exact Xbl e
 | ins C dx fs=>obtain ⟨_,_,_,e,_⟩:=x;exact Xbl e
 | own y=>obtain ⟨_,e⟩:=x;exact Xbl e
 | xd fs=>obtain ⟨_,⟨_,_,_,e,_⟩,_⟩:=x;exact Xbl e
 | rng lo hi=>obtain ⟨_,_,_,e⟩:=x;exact Xbl e
 | frz ob u=>obtain ⟨e,_⟩:=x;exact Xbl e
 | tbl ps=>exact Xbl (show h.get? a=some _ from x)
 | met f y=>exact Xbl (show h.get? a=some _ from x)
 | ext φ=>obtain ⟨_,⟨_,e⟩,_⟩:=x;exact Xbl e
theorem Paired.mapP {α β:Type}{F G:α→β→Prop}:∀ {l₁:List α}{l₂:List β},Paired F l₁ l₂→(∀ a b,F a b→G a b)→Paired G l₁ l₂
 | _,_,.nil,_=>.nil
 | _,_,.cons r t,f=>.cons (f _ _ r) (Paired.mapP t f)
theorem ObjOk.stay (x:ObjOk P w H h a o) (k:∀ b u,(b=a∨H b=some (.own a))→h.get? b=some u→h'.get? b=some u)
 (ho:∀ b,H b=some (.own a)→H' b=some (.own a)) (ht:∀ b xs,H b=some (.tup xs)→H' b=some (.tup xs)):ObjOk P w H' h' a o:=by
 induction o with
 | lst xs=>obtain ⟨z,its,n,r,e⟩:=x;exact ⟨z,its,n,r,k _ _ (.inl rfl) e⟩
 | tup xs=>obtain ⟨z,its,r,ob,e,c⟩:=x;exact ⟨z,its,r,ob,k _ _ (.inl rfl) e,c⟩
 | dK kvs=>obtain ⟨z,y,vs,r,ob,es,ep,e,c⟩:=x;exact ⟨z,y,vs,r,ob,es,ep,k _ _ (.inl rfl) e,c⟩
 | dT kvs =>
   obtain ⟨z,y,xs,r,ob,es,ep,e,c⟩:=x;exact ⟨z,y,xs,Paired.mapP r fun p q z=>⟨z.1,ht _ _ z.2.1,z.2.2⟩,ob,es,ep,k _ _ (.inl rfl) e,c⟩
 | set S n=>obtain ⟨ob,es,ep,t,e,c⟩:=x;exact ⟨ob,es,ep,t,k _ _ (.inl rfl) e,c⟩
 | ins C dx fs =>
   obtain ⟨d,z,ne,e,mA,⟨od,es,ep,e2,c⟩,r⟩:=x;exact ⟨ho _ d,z,ne,k _ _ (.inl rfl) e,mA,⟨od,es,ep,k _ _ (.inr d) e2,c⟩,r⟩
 | own y=>obtain ⟨ob,e⟩:=x;exact ⟨ob,k _ _ (.inl rfl) e⟩
 | xd fs=>obtain ⟨mA,⟨od,es,ep,e,c⟩,r⟩:=x;exact ⟨mA,⟨od,es,ep,k _ _ (.inl rfl) e,c⟩,r⟩
 | rng lo hi=>obtain ⟨t,u,v,e⟩:=x;exact ⟨t,u,v,k _ _ (.inl rfl) e⟩
 | frz ob u ih=>obtain ⟨e,q⟩:=x;exact ⟨k _ _ (.inl rfl) e,ih q⟩
 | tbl ps =>
   have e:h.get? a=some { cls:=.none,data:=.fields ps }:=x;show h'.get? a=some { cls:=.none,data:=.fields ps };exact k a _ (.inl rfl) e
 | met f y =>
   have e:h.get? a=some (PySem.W.methodObj (.ref f) (.ref y)):=x;show h'.get? a=some (PySem.W.methodObj (.ref f) (.ref y));exact k a _ (.inl rfl) e
 | ext φ=>obtain ⟨p,⟨o,e⟩,st⟩:=x;exact ⟨st _ _ p fun o q=>k _ _ (.inl rfl) q,⟨o,k _ _ (.inl rfl) e⟩,st⟩
theorem HOk.lt (x:HOk P w H h) (e:H a=some o):a<h.objs.size:=(x a o e).lt
theorem HOk.fresh (x:HOk P w H h) (e:h.objs.size≤a):H a=none:=by
 cases q:H a with
 | none=>rfl
 | some u=>exact absurd (Xbb (x.lt q) e) (XaT _)
theorem HOk.kept (x:HOk P w H h) (k:∀ b u,h.get? b=some u→h'.get? b=some u):HOk P w H h':=fun a o e =>
 (x a o e).stay (fun b u _ q=>k b u q) (fun _ q=>q) fun _ _ q=>q
theorem HOk.laid (x:HOk P w H h) (k:∀ b u,h.get? b=some u→h'.get? b=some u) (hp:h.objs.size≤a) (new:ObjOk P w (upd H a o) h' a o):HOk P w (upd H a o) h':=fun b u e=>by
 have hn:=x.fresh hp
 by_cases hb:b=a
 · subst hb;rw [Zac] at e;cases e;exact new
 · rw [Zaf hb] at e
   exact (x b u e).stay (fun c v _ q=>k c v q) (fun c q=>by rw [Zaf (Zag q hn)];exact q) fun c xs q=>by rw [Zaf (Zag q hn)];exact q
end
def Rd (H:Hp) (a:Addr) (u:HO):Prop:=H a=some u∨∃ o,H a=some (.frz o u)
theorem Rd.ok {P:Program}{w:World}{H:Hp}{h:Heap}{a:Addr}{u:HO} (r:Rd H a u) (x:HOk P w H h):ObjOk P w H h a u:=by
 rcases r with r | ⟨o,r⟩
 · exact x a u r
 · obtain ⟨_,q⟩:=x a _ r
   exact q
def Mut:Option HO→Prop
 | some (.lst _)=>True
 | some (.dK _)=>True
 | some (.dT _)=>True
 | some (.set _ _)=>True
 | some (.ins _ _ _)=>True
 | some (.ext _)=>True
 | _=>False
section
variable {P:Program} {w:World} {H:Hp} {h h':Heap} {x e:Addr} {o':HO}
theorem HOk.write (ok:HOk P w H h) (mu:Mut (H x)) (he:e=x∨H e=some (.own x)) (k:∀ b u,b≠e→h.get? b=some u→h'.get? b=some u) (heo:∃ u,h'.get? e=some u)
 (new:ObjOk P w (upd H x o') h' x o'):HOk P w (upd H x o') h':=fun b u q=>by
 have nown:∀ c y,H c=some (.own y)→c≠x:=fun c y r z=>by subst z;rw [r] at mu;exact mu
 have ntup:∀ c xs,H c=some (.tup xs)→c≠x:=fun c xs r z=>by subst z;rw [r] at mu;exact mu
 by_cases hb:b=x
 · subst hb;rw [Zac] at q;cases q;exact new
 · rw [Zaf hb] at q
   by_cases hbe:b=e
   · have q':H b=some (.own x):=by
      rcases he with z | z
      · exact absurd (hbe.trans z) hb
      · rw [hbe];exact z
     rw [q] at q';cases q';obtain ⟨v,hv⟩:=heo;exact ⟨v,by rw [hbe];exact hv⟩
   · refine (ok b u q).stay (fun c v hc r=>k c v ?_ r) (fun c r=>by rw [Zaf (nown c b r)];exact r) fun c xs r=>by rw [Zaf (ntup c xs r)];exact r
     rcases hc with rfl | hc
     · exact hbe
     · rintro rfl
       rcases he with z | z
       · exact nown c b hc z
       · rw [hc] at z;cases z;exact hb rfl
end
structure Un (fs ex:List Addr) (H H':Hp) (h h':Heap):Prop where
 keep:∀ b o,h.get? b=some o→H b=none→b ∉ fs→b ∉ ex→h'.get? b=some o
 slot:∀ b o,h.get? b=some o→H b=none→b∈fs→b ∉ ex→∃ sl,h'.get? b=some { o with slots:=sl }
 free:∀ b o,h.get? b=some o→H b=none→b ∉ ex→H' b=none
 there:∀ b o,h.get? b=some o→b ∉ ex→∃ o',h'.get? b=some o'
 tups:∀ b xs,H b=some (.tup xs)→H' b=some (.tup xs)
 frzs:∀ b o u,H b=some (.frz o u)→H' b=some (.frz o u)
 tbls:∀ b ps,H b=some (.tbl ps)→∃ more,H' b=some (.tbl (ps++more))
section
variable {fs fs' ex ex':List Addr} {H H1 H2:Hp} {h h1 h2 h':Heap} {a x e:Addr} {o:HO}
theorem Un.any (u:Un fs ex H H1 h h1) {b:Addr} {ob:Obj} (q:h.get? b=some ob) (n:H b=none) (hx:b ∉ ex):∃ sl,h1.get? b=some { ob with slots:=sl }:=by
 by_cases hb:b∈fs
 · exact u.slot b ob q n hb hx
 · exact ⟨ob.slots,u.keep b ob q n hb hx⟩
theorem Un.trans (a:Un fs ex H H1 h h1) (b:Un fs ex H1 H2 h1 h2):Un fs ex H H2 h h2 where
 keep:=fun c ob q n hc hx=>b.keep c ob (a.keep c ob q n hc hx) (a.free c ob q n hx) hc hx
 slot:=fun c ob q n hc hx=>by
  obtain ⟨sl,e1⟩:=a.slot c ob q n hc hx;obtain ⟨sl',e2⟩:=b.slot c _ e1 (a.free c ob q n hx) hc hx;exact ⟨sl',e2⟩
 free:=fun c ob q n hx=>by
  obtain ⟨o',e1⟩:=a.there c ob q hx;exact b.free c o' e1 (a.free c ob q n hx) hx
 there:=fun c ob q hx=>by
  obtain ⟨o',e1⟩:=a.there c ob q hx;exact b.there c o' e1 hx
 tups:=fun c xs q=>b.tups c xs (a.tups c xs q)
 frzs:=fun c ob xs q=>b.frzs c ob xs (a.frzs c ob xs q)
 tbls:=fun c ps q=>by
  obtain ⟨m1,e1⟩:=a.tbls c ps q;obtain ⟨m2,e2⟩:=b.tbls c _ e1;exact ⟨m1++m2,by rw [e2,Array.append_assoc]⟩
theorem Un.kept (k:∀ b u,h.get? b=some u→h'.get? b=some u):Un fs ex H H h h' :=
 ⟨fun b ob q _ _ _=>k b ob q,fun b ob q _ _ _=>⟨ob.slots,k b ob q⟩,fun _ _ _ n _=>n,fun b ob q _=>⟨ob,k b ob q⟩,fun _ _ q=>q,fun _ _ _ q=>q,fun _ ps q=>⟨#[],by rw [q];simp⟩⟩
theorem Un.refl:Un fs ex H H h h:=Un.kept fun _ _ q=>q
theorem Un.laid (k:∀ b u,h.get? b=some u→h'.get? b=some u) (hp:h.objs.size≤a) (hn:H a=none):Un fs ex H (upd H a o) h h' where
 keep:=fun b u q _ _ _=>k b u q
 slot:=fun b u q _ _ _=>⟨u.slots,k b u q⟩
 free:=fun b u q n _=>by rw [Zaf (XaV (Xbb (Xbl q) hp))];exact n
 there:=fun b u q _=>⟨u,k b u q⟩
 tups:=fun b xs q=>by rw [Zaf (Zag q hn)];exact q
 frzs:=fun b u xs q=>by rw [Zaf (Zag q hn)];exact q
 tbls:=fun b ps q=>⟨#[],by rw [Zaf (Zag q hn),q];simp⟩
theorem Un.write (mu:Mut (H x)) (he:e=x∨H e=some (.own x)) (k:∀ b u,b≠e→h.get? b=some u→h'.get? b=some u) (heo:∃ u,h'.get? e=some u):Un fs ex H (upd H x o) h h':=by
 have hx:∀ b,H b=none→b≠x:=fun b n z=>by subst z;rw [n] at mu;exact mu
 have hb:∀ b,H b=none→b≠e:=fun b n z=>by
  subst z
  rcases he with r | r
  · exact hx b n r
  · rw [n] at r;cases r
 have hm:∀ b u,H b=some u→¬Mut (some u)→b≠x:=fun b u q nm z=>by subst z;rw [q] at mu;exact nm mu
 refine ⟨fun b u q n _ _=>k b u (hb b n) q,fun b u q n _ _=>⟨u.slots,k b u (hb b n) q⟩,fun b u q n _=>by rw [Zaf (hx b n)];exact n,fun b u q _=>?_,
  fun b xs q=>by rw [Zaf (hm b _ q fun z=>z)];exact q,fun b u xs q=>by rw [Zaf (hm b _ q fun z=>z)];exact q,fun b ps q=>⟨#[],by rw [Zaf (hm b _ q fun z=>z),q];simp⟩⟩
 by_cases hbe:b=e
 · subst hbe;exact heo
 · exact ⟨u,k b u hbe q⟩
end
def trk (h:Heap) (H:Hp):List Addr:=(List.range h.objs.size).filter fun a=>(H a).isSome
def hidT (h:Heap) (H:Hp):Heap:=PySem.W.hideAll h (trk h H)
theorem Zjd (h:Heap) (H:Hp):(hidT h H).objs.size=h.objs.size:=PySem.W.hideAll_size _ _
theorem ZkA {h:Heap}{H:Hp}{b:Addr}{o:Obj} (e:h.get? b=some o) (n:H b=none):(hidT h H).get? b=some o :=
 PySem.W.hideAll_get _ e fun hm=>by
  have q:(H b).isSome=true:=(XaK.mp hm).2;rw [n] at q;simp at q
theorem of_hidT {h:Heap}{H:Hp}{b:Addr}{o:Obj} (e:(hidT h H).get? b=some o):h.get? b=some o∧H b=none:=by
 have e':h.get? b=some o:=PySem.W.of_hideAll (trk h H) e;refine ⟨e',?_⟩
 cases q:H b with
 | none=>rfl
 | some x =>
   have hm:b∈trk h H:=XaK.mpr ⟨List.mem_range.mpr (Xbl e'),by simp [q]⟩;have z:(hidT h H).get? b=none:=PySem.W.hideAll_none (trk h H) hm;rw [z] at e;cases e
structure Mod (K:XFg) (mg:Str→Option Value) (base:Heap):Prop where
 kin:K.In base
 glob:base.Ns mainGlobals mg
 blt:∃ mb,base.Ns builtinsNs mb∧∀ x:Str,x ≠ "__name__" → mb x=bootBuiltins x
 nolimit:base.NoLimit
structure Cx where
 prog:Program
 w:World
 K:XFg
 mg:Str→Option Value
 base:Heap
 A:Around
 N:List Str
 s₀:Shared
 H₀:Hp
 env:Env
 outer:List Env
 stack:List Env
 ex:List Addr
 fn:Str→Bool
 calm:Bool
 pn:List (Addr×Obj)
 xe:Value→Shared→Prop
def frs (l:List Env):List Addr:=l.filterMap (·.frame)
abbrev Cx.fs (X:Cx):List Addr:=frs X.outer
def Vis (sc:Scope) (x:Str):Prop:=sc.names.lookup x=some .local∨sc.names.lookup x=some .cell∨sc.names.lookup x=some .free
def Loc (sc:Scope) (x:Str):Prop:=sc.names.lookup x=some .local∨sc.names.lookup x=some .cell
def Look (env:Env) (h:Heap) (m:Str→Option Value) (x:Str) (u:Value):Prop :=
 (env.kindOf x=some .local∧m x=some u)∨((env.kindOf x=some .cell∨env.kindOf x=some .free)∧∃ c,env.cells.lookup x=some c∧h.IsCell c (some u))
structure Cx.Ok (X:Cx):Prop where
 mod:Mod X.K X.mg X.base
 kind:X.env.scope.kind=.function
 glob:X.env.globals=mainGlobals
 blt:X.env.builtins=builtinsNs
 above:X.s₀.heap.objs.size≤X.env.locals
 inj:∀ x y c,X.env.cells.lookup x=some c→X.env.cells.lookup y=some c→x=y
 has:∀ x,(X.env.kindOf x=some .cell∨X.env.kindOf x=some .free)→∃ c,X.env.cells.lookup x=some c
 cab:∀ x c,X.fn x=true→X.env.cells.lookup x=some c→X.s₀.heap.objs.size≤c
 hd:X.calm=true→X.A.handled=none
 frames:X.A.frames=some X.stack
 stk:X.stack=X.outer∨(X.stack=X.env :: X.outer∧X.env.frame=some X.env.locals)
 exf:∀ b∈X.ex,b≠X.env.locals∧∀ x c,X.env.cells.lookup x=some c→c≠b
 bs:∀ b o,X.base.get? b=some o→X.s₀.heap.get? b=some o∧X.H₀ b=none
 bsz:X.base.objs.size≤X.s₀.heap.objs.size
 noex:∀ b o,X.base.get? b=some o→b ∉ X.ex
 exfs:∀ b∈X.ex,b ∉ X.fs
 funs:X.s₀.heap.FunFrames X.base X.outer
 frf:∀ b∈X.fs,X.H₀ b=none
structure Inv (X:Cx) (pins:List (Addr×Obj)) (σ:List (Option V)) (H:Hp) (s:Shared):Prop where
 ok:X.Ok
 os:s.os=X.s₀.os
 bare:AllBare s.gens
 base:Un X.fs X.ex X.H₀ H X.s₀.heap s.heap
 loc:∃ m,s.heap.Ns X.env.locals m∧∀ (i:Nat) (x:Str) (v:V),X.N[i]?=some x→σ[i]?=some (some v)→Vis X.env.scope x→∃ u,RelV v u∧Look X.env s.heap m x u
 cell:∀ x c,X.env.cells.lookup x=some c→∃ v,s.heap.IsCell c v
 free:H X.env.locals=none
 freeC:∀ x c,X.env.cells.lookup x=some c→H c=none
 pin:∀ p∈X.pn++pins,s.heap.get? p.1=some p.2∧H p.1=none∧p.1≠X.env.locals∧p.1 ∉ X.fs∧∀ v,p.2.data≠.cell v
 hok:HOk X.prog X.w H s.heap
 len:σ.length=X.N.length
section
variable {X:Cx} {pins:List (Addr×Obj)} {σ:List (Option V)} {H H':Hp} {s:Shared} {h':Heap}
theorem Cx.Ok.nofr (ok:X.Ok) {b:Addr} {o:Obj} (e:X.base.get? b=some o):b ∉ X.fs:=fun hb=>by
 have:=(ok.funs.mem hb).1
 rw [e] at this;cases this
theorem Inv.bs (I:Inv X pins σ H s):∀ b o,X.base.get? b=some o→s.heap.get? b=some o∧H b=none:=fun b o e =>
 ⟨I.base.keep b o (I.ok.bs b o e).1 (I.ok.bs b o e).2 (I.ok.nofr e) (I.ok.noex b o e),I.base.free b o (I.ok.bs b o e).1 (I.ok.bs b o e).2 (I.ok.noex b o e)⟩
theorem Inv.bk (I:Inv X pins σ H s):∀ b o,X.base.get? b=some o→s.heap.get? b=some o:=fun b o e=>(I.bs b o e).1
theorem Inv.mod (I:Inv X pins σ H s):Mod X.K X.mg X.base:=I.ok.mod
theorem Inv.kIn (I:Inv X pins σ H s):X.K.In s.heap:=I.ok.mod.kin.keeps I.bk
theorem Inv.lt (I:Inv X pins σ H s):X.env.locals<s.heap.objs.size:=let ⟨_,hn,_⟩:=I.loc;hn.lt
theorem Inv.sz (I:Inv X pins σ H s):X.s₀.heap.objs.size≤s.heap.objs.size:=Xbc I.ok.above (XaU I.lt)
theorem Inv.nofs (I:Inv X pins σ H s) {a:Addr} (h:s.heap.objs.size≤a):a ∉ X.fs:=fun hb=>by
 obtain ⟨_,o,ho,_⟩:=I.ok.funs.mem hb;exact absurd (Xbb (Xbl ho) (Xbc I.sz h)) (XaT _)
theorem Inv.cne (I:Inv X pins σ H s):∀ x c,X.env.cells.lookup x=some c→c≠X.env.locals:=fun x c e z=>by
 obtain ⟨v,o,ho,hd⟩:=I.cell x c e;obtain ⟨m,⟨o',es,ep,ho',hd',_⟩,_⟩:=I.loc;rw [z,ho'] at ho;cases ho;rw [hd'] at hd;cases hd
theorem Inv.funs (I:Inv X pins σ H s):s.heap.FunFrames X.base X.outer:=by
 have all:∀ (l:List Env),(∀ b∈frs l,b∈X.fs)→X.s₀.heap.FunFrames X.base l→s.heap.FunFrames X.base l:=by
  intro l
  induction l with
  | nil=>intro _ _;trivial
  | cons env r ih =>
    intro hs hl;obtain ⟨hk,⟨L,o,hf,hn,ho,hd⟩,hr⟩:=hl;have hL:L∈X.fs:=hs L (by unfold frs;rw [Xbe,hf];exact Xal);obtain ⟨sl,e⟩:=I.base.slot L o ho (I.ok.frf L hL) hL fun z=>I.ok.exfs L z hL;exact ⟨hk,⟨L,_,hf,hn,e,hd⟩,ih (fun b hb=>hs b (by unfold frs;rw [Xbe,hf];exact Xap _ hb)) hr⟩
 exact all X.outer (fun _ hb=>hb) I.ok.funs
theorem Inv.stack (I:Inv X pins σ H s):s.heap.FunFrames X.base X.stack:=by
 rcases I.ok.stk with e | ⟨e,hf⟩
 · rw [e];exact I.funs
 · rw [e]
   obtain ⟨m,hn,_⟩:=I.loc;refine .cons (by rw [I.ok.kind];decide) hf hn ?_ I.funs;exact Heap.get?_none_of_le (Xbc I.ok.bsz I.ok.above)
theorem Inv.stkSub (I:Inv X pins σ H s):∀ b∈frs X.stack,b∈X.env.locals :: X.fs:=fun b hb=>by
 rcases I.ok.stk with e | ⟨e,hf⟩
 · rw [e] at hb;exact Xap _ hb
 · rw [e] at hb
   unfold frs at hb;rw [Xbe,hf] at hb;exact hb
theorem Inv.stkFree (I:Inv X pins σ H s):∀ b∈frs X.stack,H b=none:=fun b hb=>by
 rcases Xam.mp (I.stkSub b hb) with e | hb
 · rw [e];exact I.free
 · obtain ⟨_,o,ho,_⟩:=I.ok.funs.mem hb
   exact I.base.free b o ho (I.ok.frf b hb) fun z=>I.ok.exfs b z hb
theorem Inv.step {g':Array GenState}{t':Nat}{d':Drawn}{ch:List Addr} (I:Inv X pins σ H s)
 (hch:∀ b∈ch,(b∈X.ex∨X.s₀.heap.objs.size≤b)∧b≠X.env.locals∧(∀ x c,X.env.cells.lookup x=some c→c≠b)∧∀ p∈X.pn++pins,p.1≠b)
 (keep:∀ b o,b≠X.env.locals→b ∉ X.fs→b ∉ ch→s.heap.get? b=some o→H b=none→h'.get? b=some o)
 (slot:∀ b o,b≠X.env.locals→b∈X.fs→b ∉ ch→s.heap.get? b=some o→H b=none→∃ sl,h'.get? b=some { o with slots:=sl }) (free:∀ b o,b ∉ ch→s.heap.get? b=some o→H b=none→H' b=none)
 (there:∀ b o,b ∉ ch→s.heap.get? b=some o→∃ o',h'.get? b=some o')
 (tups:∀ b xs,H b=some (.tup xs)→H' b=some (.tup xs)) (frzs:∀ b o u,H b=some (.frz o u)→H' b=some (.frz o u)) (tbls:∀ b ps,H b=some (.tbl ps)→∃ more,H' b=some (.tbl (ps++more)))
 (ns:∀ m,s.heap.Ns X.env.locals m→h'.Ns X.env.locals m) (hok:HOk X.prog X.w H' h') (hg:AllBare g') :
 Inv X pins σ H' { s with heap:=h',gens:=g',drawn:=d',toks:=t' }:=by
 have neL:∀ b o,X.s₀.heap.get? b=some o→b≠X.env.locals:=fun b o e=>XaV (Xbb (Xbl e) I.ok.above)
 have neC:∀ b o,X.s₀.heap.get? b=some o→b ∉ X.ex→b ∉ ch:=fun b o e hx hb=>by
  rcases (hch b hb).1 with z | z
  · exact hx z
  · exact absurd (Xbb (Xbl e) z) (XaT _)
 have cellK:∀ x c,X.env.cells.lookup x=some c→∀ v,s.heap.IsCell c v→h'.IsCell c v:=fun x c e v ⟨o,ho,hd⟩=>by
  have nch:c ∉ ch:=fun z=>(hch c z).2.2.1 x c e rfl
  by_cases hc:c∈X.fs
  · obtain ⟨sl,q⟩:=slot c o (I.cne x c e) hc nch ho (I.freeC x c e)
    exact ⟨_,q,hd⟩
  · exact ⟨o,keep c o (I.cne x c e) hc nch ho (I.freeC x c e),hd⟩
 refine ⟨I.ok,I.os,hg,⟨fun b o e n hb hx=>?_,fun b o e n hb hx=>?_,fun b o e n hx=>?_,fun b o e hx=>?_,fun b xs e=>tups b xs (I.base.tups b xs e),fun b o xs e=>frzs b o xs (I.base.frzs b o xs e),fun b ps e=>?_⟩,?_,fun x c e=>?_,?_,fun x c e=>?_,fun p hp=>?_,hok,I.len⟩
 · exact keep b o (neL b o e) hb (neC b o e hx) (I.base.keep b o e n hb hx) (I.base.free b o e n hx)
 · obtain ⟨sl,e1⟩:=I.base.slot b o e n hb hx
   obtain ⟨sl',e2⟩:=slot b _ (neL b o e) hb (neC b o e hx) e1 (I.base.free b o e n hx);exact ⟨sl',e2⟩
 · obtain ⟨o',e1⟩:=I.base.there b o e hx
   exact free b o' (neC b o e hx) e1 (I.base.free b o e n hx)
 · obtain ⟨o',e1⟩:=I.base.there b o e hx
   exact there b o' (neC b o e hx) e1
 · obtain ⟨m1,e1⟩:=I.base.tbls b ps e
   obtain ⟨m2,e2⟩:=tbls b _ e1;exact ⟨m1++m2,by rw [e2,Array.append_assoc]⟩
 · obtain ⟨m,hn,hl⟩:=I.loc
   refine ⟨m,ns m hn,fun i x v e1 e2 e3=>?_⟩;obtain ⟨u,r,l⟩:=hl i x v e1 e2 e3;refine ⟨u,r,?_⟩
   rcases l with l | ⟨k,c,e,z⟩
   · exact .inl l
   · exact .inr ⟨k,c,e,cellK x c e _ z⟩
 · obtain ⟨v,z⟩:=I.cell x c e
   exact ⟨v,cellK x c e v z⟩
 · obtain ⟨m,⟨o,_,_,ho,_⟩,_⟩:=I.loc
   exact free _ o (fun z=>(hch _ z).2.1 rfl) ho I.free
 · obtain ⟨v,o,ho,hd⟩:=I.cell x c e
   exact free c o (fun z=>(hch c z).2.2.1 x c e rfl) ho (I.freeC x c e)
 · obtain ⟨e,n,ne,nf,d⟩:=I.pin p hp
   have nch:p.1 ∉ ch:=fun z=>(hch p.1 z).2.2.2 p hp rfl;exact ⟨keep p.1 p.2 ne nf nch e n,free p.1 p.2 nch e n,ne,nf,d⟩
theorem Inv.un {t':Nat} (I:Inv X pins σ H s) (u:Un X.fs [] H H' s.heap h') (hok:HOk X.prog X.w H' h'):Inv X pins σ H' { s with heap:=h',toks:=t' }:=by
 obtain ⟨m,⟨o,es,ep,ho,r⟩,_⟩:=id I.loc;obtain ⟨sl,hL⟩:=u.any ho I.free (by simp)
 exact I.step (g':=s.gens) (d':=s.drawn) (ch:=[]) (fun _ z=>nomatch z) (fun b o _ hb _ e n=>u.keep b o e n hb (by simp)) (fun b o _ hb _ e n=>u.slot b o e n hb (by simp)) (fun b o _ e n=>u.free b o e n (by simp)) (fun b o _ e=>u.there b o e (by simp)) u.tups u.frzs u.tbls (fun m' hm=>by
  obtain ⟨o',es',ep',ho',r'⟩:=hm;rw [ho] at ho';cases ho'
  exact ⟨_,es',ep',hL,r'⟩) hok I.bare
theorem Inv.call {g':Array GenState}{t':Nat}{d':Drawn}{ch:List Addr} (I:Inv X pins σ H s) (u:Un (frs X.stack) ch H H' s.heap h') (hok:HOk X.prog X.w H' h') (hg:AllBare g')
 (hch:∀ b∈ch,(b∈X.ex∨X.s₀.heap.objs.size≤b)∧b≠X.env.locals∧(∀ x c,X.env.cells.lookup x=some c→c≠b)∧∀ p∈X.pn++pins,p.1≠b) :
 Inv X pins σ H' { s with heap:=h',gens:=g',drawn:=d',toks:=t' }:=by
 obtain ⟨m,⟨o,es,ep,ho,r⟩,_⟩:=id I.loc;obtain ⟨sl,hL⟩:=u.any ho I.free fun z=>(hch _ z).2.1 rfl
 exact I.step (ch:=ch) hch (fun b o hL hb hc e n=>u.keep b o e n (fun z=>(Xam.mp (I.stkSub b z)).elim hL hb) hc) (fun b o _ _ hc e n=>u.any e n hc) (fun b o hc e n=>u.free b o e n hc) (fun b o hc e=>u.there b o e hc) u.tups u.frzs u.tbls (fun m' hm=>by
  obtain ⟨o',es',ep',ho',r'⟩:=hm;rw [ho] at ho';cases ho'
  exact ⟨_,es',ep',hL,r'⟩) hok hg
theorem Inv.turned {t':Nat}{it:Addr} (I:Inv X pins σ H s) (k:∀ b o,b≠it→s.heap.get? b=some o→h'.get? b=some o) (hn:H it=none) (hL:it≠X.env.locals)
 (h1:it∈X.ex∨X.s₀.heap.objs.size≤it) (h2:∀ x c,X.env.cells.lookup x=some c→c≠it) (h3:∀ p∈X.pn++pins,p.1≠it):Inv X pins σ H { s with heap:=h',toks:=t' }:=by
 have nit:∀ b u,H b=some u→b≠it:=fun b u e z=>by rw [z,hn] at e;cases e
 refine I.step (g':=s.gens) (d':=s.drawn) (ch:=[it]) (fun b hb=>?_) (fun b o _ _ hc e _=>k b o (fun z=>hc (by simp [z])) e) (fun b o _ _ hc e _=>⟨o.slots,k b o (fun z=>hc (by simp [z])) e⟩) (fun _ _ _ _ n=>n)
  (fun b o hc e=>⟨o,k b o (fun z=>hc (by simp [z])) e⟩) (fun _ _ e=>e) (fun _ _ _ e=>e) (fun b ps e=>⟨#[],by rw [e];simp⟩) (fun m hm=>?_) (fun b u e=>?_) I.bare
 · have e:b=it:=by simpa using hb
   subst e;exact ⟨h1,hL,h2,h3⟩
 · obtain ⟨o,es,ep,ho,r⟩:=hm
   exact ⟨o,es,ep,k _ o (Ne.symm hL) ho,r⟩
 · refine (I.hok b u e).stay (fun c v hc q=>k c v ?_ q) (fun _ q=>q) fun _ _ q=>q
   rcases hc with z | z
   · rw [z];exact nit b u e
   · exact nit c _ z
theorem Inv.tok (I:Inv X pins σ H s) (t:Nat):Inv X pins σ H { s with toks:=t }:=I.un (h':=s.heap) (t':=t) Un.refl I.hok
theorem Inv.kept {t':Nat} (I:Inv X pins σ H s) (k:∀ b u,s.heap.get? b=some u→h'.get? b=some u):Inv X pins σ H { s with heap:=h',toks:=t' }:=I.un (Un.kept k) (I.hok.kept k)
theorem Inv.laid {a:Addr}{o:HO}{t':Nat} (I:Inv X pins σ H s) (k:∀ b u,s.heap.get? b=some u→h'.get? b=some u) (hp:s.heap.objs.size≤a) (new:ObjOk X.prog X.w (upd H a o) h' a o) :
 Inv X pins σ (upd H a o) { s with heap:=h',toks:=t' }:=I.un (Un.laid k hp (I.hok.fresh hp)) (I.hok.laid k hp new)
theorem Inv.write {x e:Addr}{o:HO}{t':Nat} (I:Inv X pins σ H s) (mu:Mut (H x)) (he:e=x∨H e=some (.own x)) (k:∀ b u,b≠e→s.heap.get? b=some u→h'.get? b=some u) (heo:∃ u,h'.get? e=some u)
 (new:ObjOk X.prog X.w (upd H x o) h' x o):Inv X pins σ (upd H x o) { s with heap:=h',toks:=t' }:=I.un (Un.write mu he k heo) (I.hok.write mu he k heo new)
theorem Inv.pins_of {pins':List (Addr×Obj)} (I:Inv X pins σ H s) (h:∀ p∈pins',s.heap.get? p.1=some p.2∧H p.1=none∧p.1≠X.env.locals∧p.1 ∉ X.fs∧∀ v,p.2.data≠.cell v):Inv X pins' σ H s :=
 ⟨I.ok,I.os,I.bare,I.base,I.loc,I.cell,I.free,I.freeC,fun p hp=>(Xaf.mp hp).elim (fun z=>I.pin p (XaA _ z)) (h p),I.hok,I.len⟩
theorem ZfJ {N:List Str} (hN:N.Nodup) {i j:Nat} {x:Str} (a:N[i]?=some x) (b:N[j]?=some x):i=j:=by
 obtain ⟨h1,e1⟩:=Xae.mp a;obtain ⟨h2,e2⟩:=Xae.mp b;exact (List.getElem_inj hN).mp (e1.trans e2.symm)
theorem Zey {M:Model}{A:Around}{E:Value→Shared→Prop}{i:Nat}{x:Str}{v:V}{u:Value}{Q:Unit→Shared→Prop} (I:Inv X pins σ H s) (hN:X.N.Nodup) (hi:X.N[i]?=some x) (hx:Loc X.env.scope x) (r:RelV v u)
 (h:∀ s',Inv X pins (σ.set i (some v)) H s'→(∃ a,Heap.SameBut a s.heap s'.heap∧(a=X.env.locals∨X.env.cells.lookup x=some a))→Q () s') (hf:X.fn x=true∨X.env.scope.names.lookup x=some .local:=by first | exact .inl rfl | exact .inr rfl | assumption):wpAny M A (storeName X.env x u) Q E s:=by
 obtain ⟨m,hn,hl⟩:=id I.loc
 have hcls:(X.env.scope.kind == .class || (X.env.scope.kind == .module && X.env.locals != X.env.globals))=false:=by rw [I.ok.kind];rfl
 have hiσ:i<σ.length:=by rw [I.len];exact (Xae.mp hi).1
 have cne:=I.cne
 have tracked:∀ {a:Addr} {h':Heap},(∃ o,s.heap.get? a=some o∧H a=none)→Heap.SameBut a s.heap h'→HOk X.prog X.w H h':=fun {a h'} ha hs b ob e=>by
  obtain ⟨_,_,hfree⟩:=ha;refine (I.hok b ob e).stay (fun c w' hc q=>(hs.2 c ?_).trans q) (fun _ q=>q) fun _ _ q=>q;rintro rfl
  rcases hc with rfl | hc
  · rw [hfree] at e;cases e
  · rw [hfree] at hc;cases hc
 rcases hx with hk | hk
 · refine wpAny_storeName_local hk hn (fun h' hn' hs=>?_) hcls
   obtain ⟨oL,_,_,hoL,_⟩:=id hn;refine h _ ⟨I.ok,I.os,I.bare,⟨fun b o e n hb hx=>?_,fun b o e n hb hx=>?_,I.base.free,fun b o e hx=>?_,I.base.tups,I.base.frzs,I.base.tbls⟩,⟨_,hn',fun j y v' e1 e2 e3=>?_⟩,fun y c e=>?_,I.free,I.freeC,fun p hp=>?_,tracked ⟨oL,hoL,I.free⟩ hs,by simpa using I.len⟩ ⟨_,hs,.inl rfl⟩
   · exact (hs.2 b (XaV (Xbb (Xbl e) I.ok.above))).trans (I.base.keep b o e n hb hx)
   · obtain ⟨sl,e1⟩:=I.base.slot b o e n hb hx
     exact ⟨sl,(hs.2 b (XaV (Xbb (Xbl e) I.ok.above))).trans e1⟩
   · obtain ⟨o',e1⟩:=I.base.there b o e hx
     exact ⟨o',(hs.2 b (XaV (Xbb (Xbl e) I.ok.above))).trans e1⟩
   · by_cases hj:j=i
     · subst hj
       rw [hi] at e1;cases e1;rw [List.getElem?_set_self hiσ] at e2;cases e2;exact ⟨u,r,.inl ⟨hk,by simp⟩⟩
     · rw [List.getElem?_set_ne (Ne.symm hj)] at e2
       obtain ⟨u',r',q⟩:=hl j y v' e1 e2 e3;refine ⟨u',r',?_⟩
       rcases q with ⟨k,e⟩ | ⟨k,c,e,z⟩
       · refine .inl ⟨k,?_⟩
         have:y≠x:=fun e=>hj (ZfJ hN e1 (e ▸ hi))
         simp [this,e]
       · exact .inr ⟨k,c,e,z.sameBut hs (cne y c e)⟩
   · obtain ⟨w',z⟩:=I.cell y c e
     exact ⟨w',z.sameBut hs (cne y c e)⟩
   · obtain ⟨e,n,ne,nf,d⟩:=I.pin p hp
     exact ⟨(hs.2 p.1 ne).trans e,n,ne,nf,d⟩
 · have hfn:X.fn x=true:=by
    rcases hf with z | z
    · exact z
    · rw [z] at hk;cases hk
   obtain ⟨c,hc⟩:=I.ok.has x (.inl hk);obtain ⟨w',z⟩:=I.cell x c hc;refine wpAny_storeName_cell I.ok.kind hk hc z (fun h' hc' hs=>?_);obtain ⟨oc,hoc,hocd⟩:=id z;refine h { s with heap:=h' } ⟨I.ok,I.os,I.bare,⟨fun b o e n hb hx=>?_,fun b o e n hb hx=>?_,I.base.free,fun b o e hx=>?_,I.base.tups,I.base.frzs,I.base.tbls⟩,⟨m,hn.sameBut hs (Ne.symm (cne x c hc)),fun j y v' e1 e2 e3=>?_⟩,fun y c' e=>?_,I.free,I.freeC,fun p hp=>?_,tracked ⟨oc,hoc,I.freeC x c hc⟩ hs,by simpa using I.len⟩ ⟨c,hs,.inr hc⟩
   · exact (hs.2 b (XaV (Xbb (Xbl e) (I.ok.cab x c hfn hc)))).trans (I.base.keep b o e n hb hx)
   · obtain ⟨sl,e1⟩:=I.base.slot b o e n hb hx
     exact ⟨sl,(hs.2 b (XaV (Xbb (Xbl e) (I.ok.cab x c hfn hc)))).trans e1⟩
   · obtain ⟨o',e1⟩:=I.base.there b o e hx
     exact ⟨o',(hs.2 b (XaV (Xbb (Xbl e) (I.ok.cab x c hfn hc)))).trans e1⟩
   · by_cases hj:j=i
     · subst hj
       rw [hi] at e1;cases e1;rw [List.getElem?_set_self hiσ] at e2;cases e2;exact ⟨u,r,.inr ⟨.inl hk,c,hc,hc'⟩⟩
     · rw [List.getElem?_set_ne (Ne.symm hj)] at e2
       obtain ⟨u',r',q⟩:=hl j y v' e1 e2 e3;refine ⟨u',r',?_⟩
       rcases q with q | ⟨k,c',e,z'⟩
       · exact .inl q
       · refine .inr ⟨k,c',e,z'.sameBut hs ?_⟩
         rintro rfl;exact hj (ZfJ hN e1 (I.ok.inj _ _ _ e hc ▸ hi))
   · by_cases hcc:c'=c
     · subst hcc;exact ⟨_,hc'⟩
     · obtain ⟨w2,z2⟩:=I.cell y c' e
       exact ⟨w2,z2.sameBut hs hcc⟩
   · obtain ⟨e,n,ne,nf,d⟩:=I.pin p hp
     refine ⟨(hs.2 p.1 ?_).trans e,n,ne,nf,d⟩;intro q;rw [q,hoc] at e;have q':oc=p.2:=Xa8 e;exact d w' (by rw [←q'];exact hocd)
theorem Zes {M:Model}{A:Around}{E:Value→Shared→Prop}{i:Nat}{x:Str}{v:V}{u:Value}{Q:Unit→Shared→Prop} (I:Inv X pins σ H s) (hN:X.N.Nodup) (hi:X.N[i]?=some x) (hx:Loc X.env.scope x) (r:RelV v u)
 (h:∀ s',Inv X pins (σ.set i (some v)) H s'→Q () s') (hf:X.fn x=true∨X.env.scope.names.lookup x=some .local:=by first | exact .inl rfl | exact .inr rfl | assumption):wpAny M A (storeName X.env x u) Q E s :=
 Zey I hN hi hx r (fun s' I' _=>h s' I') hf
theorem Inv.call' {s':Shared}{ch:List Addr} (I:Inv X pins σ H s) (ho:s'.os=s.os) (u:Un (frs X.stack) ch H H' s.heap s'.heap) (hok:HOk X.prog X.w H' s'.heap) (hg:AllBare s'.gens)
 (hch:∀ b∈ch,(b∈X.ex∨X.s₀.heap.objs.size≤b)∧b≠X.env.locals∧(∀ x c,X.env.cells.lookup x=some c→c≠b)∧∀ p∈X.pn++pins,p.1≠b):Inv X pins σ H' s':=by
 obtain ⟨h',g',d',t',o'⟩:=s';have e:o'=s.os:=ho;subst e;exact I.call (g':=g') (t':=t') (d':=d') u hok hg hch
end
abbrev XK:=Value→Option Addr→Hp→Prop
abbrev St:=List (Option V)
abbrev VK:=V→Hp→Prop
abbrev TE:=St→Hp→VK→Prop
abbrev TT:=St→Hp→(Bool→Hp→Prop)→Prop
abbrev TA:=St→Hp→(List V→Hp→Prop)→Prop
structure Ends where
 nx:St→Hp→Prop
 rt:VK
 bk:St→Hp→Prop:=fun _ _=>False
 ct:St→Hp→Prop:=fun _ _=>False
abbrev TS:=Ends→St→Hp→Prop
def EP (X:Cx) (pins:List (Addr×Obj)) (σ:St) (Q:VK) (u:Value) (s':Shared):Prop:=∃ v H',Inv X pins σ H' s'∧RelV v u∧Q v H'
def TP (X:Cx) (pins:List (Addr×Obj)) (σ:St) (Q:Bool→Hp→Prop) (b:Bool) (s':Shared):Prop:=∃ H',Inv X pins σ H' s'∧Q b H'
def AP (X:Cx) (pins:List (Addr×Obj)) (σ:St) (Q:List V→Hp→Prop) (us:List Value) (s':Shared):Prop:=∃ vs H',Inv X pins σ H' s'∧Vals vs us∧Q vs H'
def SP (X:Cx) (pins:List (Addr×Obj)) (D:Ends) (f:Flow) (s':Shared):Prop :=
 match f with
 | .next=>∃ σ' H',Inv X pins σ' H' s'∧D.nx σ' H'
 | .brk=>∃ σ' H',Inv X pins σ' H' s'∧D.bk σ' H'
 | .cont=>∃ σ' H',Inv X pins σ' H' s'∧D.ct σ' H'
 | .ret u=>∃ v σ' H',Inv X pins σ' H' s'∧RelV v u∧D.rt v H'
def PE (X:Cx) (e:Expr) (t:TE):Prop :=
 ∀ (pins:List (Addr×Obj)) (s:Shared) (σ:St) (H:Hp) (Q:VK),Inv X pins σ H s→t σ H Q→wpAny (model X.prog X.w) X.A (eval e X.env) (EP X pins σ Q) X.xe s
def PT (X:Cx) (e:Expr) (t:TT):Prop :=
 ∀ (pins:List (Addr×Obj)) (s:Shared) (σ:St) (H:Hp) (Q:Bool→Hp→Prop),Inv X pins σ H s→t σ H Q→wpAny (model X.prog X.w) X.A (isTrue e X.env (eval e X.env)) (TP X pins σ Q) X.xe s
def PW (X:Cx) (e:Expr) (t:TT):Prop :=
 ∀ (whole:Sem Value) (pins:List (Addr×Obj)) (s:Shared) (σ:St) (H:Hp) (Q:Bool→Hp→Prop),Inv X pins σ H s→t σ H Q→wpAny (model X.prog X.w) X.A (isTrue e X.env whole) (TP X pins σ Q) X.xe s
theorem PW.pt {X:Cx}{e:Expr}{t:TT} (h:PW X e t):PT X e t:=h _
def PA (X:Cx) (es:List Expr) (t:TA):Prop :=
 ∀ (pos:Pos) (pins:List (Addr×Obj)) (s:Shared) (σ:St) (H:Hp) (Q:List V→Hp→Prop),Inv X pins σ H s→t σ H Q→wpAny (model X.prog X.w) X.A (spliced (backTo pos (starEach es X.env))) (AP X pins σ Q) X.xe s
def PS (X:Cx) (st:Stmt) (t:TS):Prop :=
 ∀ (pins:List (Addr×Obj)) (s:Shared) (σ:St) (H:Hp) (D:Ends),Inv X pins σ H s→t D σ H→wpAny (model X.prog X.w) X.A (exec st X.env) (SP X pins D) X.xe s
def PSs (X:Cx) (st:List Stmt) (t:TS):Prop :=
 ∀ (pins:List (Addr×Obj)) (s:Shared) (σ:St) (H:Hp) (D:Ends),Inv X pins σ H s→t D σ H→wpAny (model X.prog X.w) X.A (execs st X.env) (SP X pins D) X.xe s
theorem thn {α:Type}{t:Sem α}{Q Q':α→Shared→Prop}{M:Model}{A:Around}{E:Value→Shared→Prop}{s:Shared} (h:wpAny M A t Q E s) (hQ:∀ a s,Q a s→Q' a s):wpAny M A t Q' E s:=Xbq h hQ fun _ _ x=>x
section
variable {X:Cx}
def tVar (i:Nat):TE:=fun σ H Q=>∃ v,σ[i]?=some (some v)∧Q v H
def tC (v:V):TE:=fun _ H Q=>Q v H
theorem pe_var {i:Nat}{x:Str}{pos:Pos} (hN:X.N[i]?=some x) (hv:Vis X.env.scope x) (hd:(x == ("__debug__" : Str))=false:=by decide) (hcd:(x == ("__classdict__" : Str))=false:=by decide):PE X (.Name x pos) (tVar i):=by
 intro pins s σ H Q I h;obtain ⟨v,e,h⟩:=h;obtain ⟨m,hn,hl⟩:=I.loc;obtain ⟨u,r,l⟩:=hl i x v hN e hv;have fin:EP X pins σ Q u s:=⟨v,H,I,r,h⟩
 rcases l with ⟨hk,hm⟩ | ⟨hk,c,hc,hcell⟩
 · exact wpAny_Name (wpAny_loadName_local I.ok.kind hk hn hm fin) hd
 · rcases hk with hk | hk
   · exact wpAny_Name (wpAny_loadName_cell I.ok.kind hk hc hcell fin) hd
   · exact wpAny_Name (wpAny_loadName_free I.ok.kind hk hc hcell fin hcd) hd
theorem Zai {i j pos}:PE X (.Constant (.int i) j pos) (tC (.int i)):=fun _ _ _ H _ I h=>wpAny_Constant_int ⟨.int i,H,I.tok _,⟨_,rfl⟩,h⟩
theorem Zje {b j pos}:PE X (.Constant (.bool b) j pos) (tC (.bl b)):=fun _ _ _ H _ I h=>Constant_bool ⟨.bl b,H,I,rfl,h⟩
theorem Zjf {j pos}:PE X (.Constant .none j pos) (tC .non):=fun _ _ _ H _ I h=>Constant_none ⟨.non,H,I,rfl,h⟩
theorem Zal {x j pos}:PE X (.Constant (.str x) j pos) (tC (.str x)):=fun _ _ _ H _ I h=>Calls.Constant_str ⟨.str x,H,I.tok _,⟨_,rfl⟩,h⟩
def Gl (X:Cx) (x:Str):Prop:=X.env.kindOf x=some .globalImplicit
theorem Zdw {E:Value→Shared→Prop}{pins:List (Addr×Obj)} {s:Shared} {σ:St} {H:Hp} {x:Str} {u:Value} {pos:Pos} {Q:Value→Shared→Prop} (I:Inv X pins σ H s) (hg:Gl X x) (hm:X.mg x=some u) (h:Q u s)
 (hd:(x == ("__debug__" : Str))=false:=by decide):wpAny (model X.prog X.w) X.A (eval (.Name x pos) X.env) Q E s :=
 Calls.Name_function_global I.ok.kind hg (Calls.loadGlobal_global (by rw [I.ok.glob];exact I.mod.glob.keeps I.bk) hm h) hd
theorem ZhS {E:Value→Shared→Prop}{pins:List (Addr×Obj)} {s:Shared} {σ:St} {H:Hp} {x:Str} {u:Value} {pos:Pos} {Q:Value→Shared→Prop} (I:Inv X pins σ H s) (hg:Gl X x) (hm:X.mg x=none) (hv:bootBuiltins x=some u) (h:Q u s)
 (hn:x ≠ "__name__" := by decide) (hd:(x == ("__debug__" : Str))=false:=by decide):wpAny (model X.prog X.w) X.A (eval (.Name x pos) X.env) Q E s:=by
 obtain ⟨mb,h1,h2⟩:=I.mod.blt;exact Calls.Name_function_global I.ok.kind hg (Calls.loadGlobal_builtin (by rw [I.ok.glob];exact I.mod.glob.keeps I.bk) hm (by rw [I.ok.blt];exact h1.keeps I.bk) ((h2 x hn).trans hv) h) hd
theorem ZbJ {x:Str}{v:V}{u:Value}{pos:Pos} (hg:Gl X x) (hm:X.mg x=some u) (r:RelV v u) (hd:(x == ("__debug__" : Str))=false:=by decide):PE X (.Name x pos) (tC v) :=
 fun _ _ _ H _ I h=>Zdw I hg hm ⟨v,H,I,r,h⟩ hd
theorem pe_bltn {x:Str}{v:V}{u:Value}{pos:Pos} (hg:Gl X x) (hm:X.mg x=none) (hv:bootBuiltins x=some u) (r:RelV v u) (hn:x ≠ "__name__" := by decide) (hd:(x == ("__debug__" : Str))=false:=by decide):PE X (.Name x pos) (tC v) :=
 fun _ _ _ H _ I h=>ZhS I hg hm hv ⟨v,H,I,r,h⟩ hn hd
variable {a b:Expr} {ta tb:TE} {pos:Pos}
def PC (X:Cx) (op:CmpOp) (a b:Expr) (t:TE):Prop :=
 ∀ (pins:List (Addr×Obj)) (s:Shared) (σ:St) (H:Hp) (Q:VK),Inv X pins σ H s→t σ H Q →
  wpAny (model X.prog X.w) X.A (eval a X.env) (fun v s₁=>wpAny (model X.prog X.w) X.A (eval b X.env) (fun u s₂=>wpAny (model X.prog X.w) X.A (compareOp op v u) (EP X pins σ Q) X.xe s₂) X.xe s₁) X.xe s
theorem ZkB (b:Expr) {op:CmpOp} (h:op≠.In) (h2:op≠.NotIn):behindInMarks op b=false:=by
 have e1:(op == CmpOp.In)=false:=by cases op <;> first | rfl | exact absurd rfl h
 have e2:(op == CmpOp.NotIn)=false:=by cases op <;> first | rfl | exact absurd rfl h2
 cases b <;> simp [behindInMarks,e1,e2]
def tIsN (ta:TE):TE:=fun σ H Q=>ta σ H fun x H1=>Q (.bl (decide (x=.non))) H1
theorem RelV.none_iff {x:V}{v:Value} (r:RelV x v):(v == Value.none)=decide (x=.non):=by
 cases x with
 | non=>cases r;rfl
 | bl _=>cases r;rfl
 | int _=>obtain ⟨t,rfl⟩:=r;rfl
 | str _=>obtain ⟨t,rfl⟩:=r;rfl
 | byt _=>obtain ⟨t,rfl⟩:=r;rfl
 | flt _=>obtain ⟨t,rfl⟩:=r;rfl
 | ref _=>cases r;rfl
 | ty _=>cases r;rfl
theorem pc_isN {j pos'} (ha:PE X a ta):PC X .Is a (.Constant .none j pos') (tIsN ta):=by
 intro pins s σ H Q I h;refine thn (ha pins s σ H _ I h) fun v s1 ⟨x,H1,I1,r1,q1⟩=>?_;exact Constant_none (is_none_gen ⟨.bl _,H1,I1,by rw [r1.none_iff];rfl,q1⟩)
def tB (t:TE):TT:=fun σ H Q=>t σ H fun x H1=>∃ c,x=.bl c∧Q c H1
theorem pt_cmp {op:CmpOp}{t:TE} (h:PC X op a b t) (h1:behindInMarks op b=false:=by first | exact ZkB _ (by decide) (by decide) | rfl):PT X (.Compare a [op] [b] pos) (tB t):=by
 intro pins s σ H Q I hw;refine wpAny_isTrue_Compare1 (thn (h pins s σ H _ I hw) fun v s1 h1=>thn h1 fun u s2 h2=>thn h2 fun c s3 ⟨x,H1,I1,r1,q1⟩=>?_) h1;obtain ⟨d,rfl,q⟩:=q1;cases r1;exact Xbj ⟨H1,I1,q⟩
theorem Zct {e:Expr}{t:TE} (h:PE X e t) (he:∀ whole,isTrue e X.env whole=(do let v ←whole;standAt e.pos;holding [v] (truthy v)):=by intro _;rfl):PT X e (tB t):=by
 intro pins s σ H Q I hw;refine isTrue_plain (thn (h pins s σ H _ I hw) fun v s1 ⟨x,H1,I1,r1,q1⟩=>?_) (he _);obtain ⟨d,rfl,q⟩:=q1;cases r1;exact Xbj ⟨H1,I1,q⟩
variable {tA tB':TT} {rest:List Expr}
def tAnd (t u:TT):TT:=fun σ H Q=>t σ H fun c H1=>if c=true then u σ H1 Q else Q false H1
def tOr (t u:TT):TT:=fun σ H Q=>t σ H fun c H1=>if c=true then Q true H1 else u σ H1 Q
def tNot (t:TT):TT:=fun σ H Q=>t σ H fun c H1=>Q (!c) H1
theorem Zjg (ha:PT X a tA):PW X (.BoolOp .And [a] pos) tA:=by
 intro wh pins s σ H Q I h;refine isTrue_and (thn (ha pins s σ H Q I h) fun c s1 e=>?_)
 cases c with
 | true=>exact isTrue_and_nil e
 | false=>exact e
theorem Zfo (ha:PT X a tA):PW X (.BoolOp .Or [a] pos) tA:=by
 intro wh pins s σ H Q I h;refine isTrue_or (thn (ha pins s σ H Q I h) fun c s1 e=>?_)
 cases c with
 | false=>exact isTrue_or_nil e
 | true=>exact e
theorem pw_and (ha:PT X a tA) (hb:PW X (.BoolOp .And (b :: rest) pos) tB'):PW X (.BoolOp .And (a :: b :: rest) pos) (tAnd tA tB'):=by
 intro wh pins s σ H Q I h;refine isTrue_and (thn (ha pins s σ H _ I h) fun c s1 ⟨H1,I1,q1⟩=>?_)
 cases c with
 | true=>exact hb wh pins s1 σ H1 Q I1 q1
 | false=>exact ⟨H1,I1,q1⟩
theorem Zhp (ha:PT X a tA) (hb:PW X (.BoolOp .Or (b :: rest) pos) tB'):PW X (.BoolOp .Or (a :: b :: rest) pos) (tOr tA tB'):=by
 intro wh pins s σ H Q I h;refine isTrue_or (thn (ha pins s σ H _ I h) fun c s1 ⟨H1,I1,q1⟩=>?_)
 cases c with
 | true=>exact ⟨H1,I1,q1⟩
 | false=>exact hb wh pins s1 σ H1 Q I1 q1
theorem Zc3 (ha:PT X a tA):PT X (.UnaryOp .Not a pos) (tNot tA):=by
 intro pins s σ H Q I h;exact isTrue_not (ha pins s σ H (fun c H1=>Q (!c) H1) I h)
def tAndV (ta tb:TE):TE:=fun σ H Q=>ta σ H fun x H1=>∃ c,x=.bl c∧if c=true then tb σ H1 Q else Q (.bl false) H1
def tNotV (ta:TE):TE:=fun σ H Q=>ta σ H fun x H1=>∃ c,x=.bl c∧Q (.bl (!c)) H1
theorem Zjh {op}{t:TE} (h:PE X a t):PE X (.BoolOp op [a] pos) t:=fun pins s σ H Q I hw=>BoolOp_one (h pins s σ H Q I hw)
theorem Zji (ha:PE X a ta) (hb:PE X (.BoolOp .And (b :: rest) pos) tb):PE X (.BoolOp .And (a :: b :: rest) pos) (tAndV ta tb):=by
 intro pins s σ H Q I h;refine BoolOp_and (thn (ha pins s σ H _ I h) fun v s1 ⟨x,H1,I1,r1,q1⟩=>?_);obtain ⟨c,rfl,q1⟩:=q1;cases r1;refine Xbj ?_
 cases c with
 | true=>exact hb pins s1 σ H1 Q I1 q1
 | false=>exact ⟨.bl false,H1,I1,rfl,q1⟩
theorem pe_not (ha:PE X a ta):PE X (.UnaryOp .Not a pos) (tNotV ta):=by
 intro pins s σ H Q I h;refine UnaryOp_ (thn (ha pins s σ H _ I h) fun v s1 ⟨x,H1,I1,r1,q1⟩=>?_);obtain ⟨c,rfl,q1⟩:=q1;cases r1;exact not_of (Xbj ⟨.bl (!c),H1,I1,rfl,q1⟩)
def tIf (t:TT) (ta tb:TE):TE:=fun σ H Q=>t σ H fun c H1=>if c=true then ta σ H1 Q else tb σ H1 Q
theorem ZkC {c:Expr} (hc:PT X c tA) (ha:PE X a ta) (hb:PE X b tb):PE X (.IfExp c a b pos) (tIf tA ta tb):=by
 intro pins s σ H Q I h;refine wpAny_IfExp (thn (hc pins s σ H _ I h) fun d s1 ⟨H1,I1,q1⟩=>?_)
 cases d with
 | true=>exact ha pins s1 σ H1 Q I1 q1
 | false=>exact hb pins s1 σ H1 Q I1 q1
end
def SqL (K:XFg) (H:Hp) (a:Addr) (xs:List V):Prop :=
 Rd H a (.lst xs) ∨
  ∃ (o:Obj) (its:Array Value) (n:Nat),K.lookup a=some o∧o.cls=.type "list" ∧ o.dict=none∧o.data=.seq its n∧its.size≤sizeLine∧Vals xs its.toList
def SqT (K:XFg) (H:Hp) (a:Addr) (xs:List V):Prop :=
 Rd H a (.tup xs) ∨
  ∃ (o:Obj) (its:Array Value) (n:Nat),K.lookup a=some o∧o.cls=.type "tuple" ∧ o.data=.seq its n∧its.size≤sizeLine∧Vals xs its.toList
def absV:Value→Option V
 | .none=>some .non
 | .bool b=>some (.bl b)
 | .int i _=>some (.int i)
 | .str x _=>some (.str x)
 | .bytes b _=>some (.byt b)
 | .float b _=>some (.flt b)
 | .ref a=>some (.ref a)
 | .type n=>some (.ty n)
 | _=>none
theorem RelV.abs {x:V}{u:Value} (r:RelV x u):absV u=some x:=by
 cases x with
 | non=>cases r;rfl
 | bl _=>cases r;rfl
 | int _=>obtain ⟨t,rfl⟩:=r;rfl
 | str _=>obtain ⟨t,rfl⟩:=r;rfl
 | byt _=>obtain ⟨t,rfl⟩:=r;rfl
 | flt _=>obtain ⟨t,rfl⟩:=r;rfl
 | ref _=>cases r;rfl
 | ty _=>cases r;rfl
theorem RelV.inj {x y:V}{u:Value} (r:RelV x u) (q:RelV y u):x=y:=Xa8 (r.abs.symm.trans q.abs)
theorem Vals.inj:∀ {xs ys:List V}{us:List Value},Vals xs us→Vals ys us→xs=ys
 | _,_,_,.nil,.nil=>rfl
 | _,_,_,.cons r t,.cons r' t'=>by rw [r.inj r',Vals.inj t t']
section
variable {X:Cx} {pins:List (Addr×Obj)} {σ:St} {H:Hp} {s:Shared} {a:Addr} {xs ys:List V}
theorem SqL.of {K:XFg} (h:H a=some (.lst xs)):SqL K H a xs:=.inl (.inl h)
theorem SqT.of {K:XFg} (h:H a=some (.tup xs)):SqT K H a xs:=.inl (.inl h)
theorem Inv.list (I:Inv X pins σ H s) (h:SqL X.K H a xs):∃ its:List Value,Vals xs its∧PlainL s.heap a its.toArray∧xs.length≤sizeLine:=by
 rcases h with h | ⟨o,its,n,hk,hc,hd,hs,hz,r⟩
 · obtain ⟨z,its,n,r,e⟩:=h.ok I.hok
   exact ⟨its,r,⟨_,n,e,rfl,rfl,rfl⟩,z⟩
 · refine ⟨its.toList,r,⟨o,n,I.kIn a o hk,hc,hd,by simpa using hs⟩,?_⟩
   have e:=r.length;simp only [Array.length_toList] at e;omega
theorem Inv.tuple (I:Inv X pins σ H s) (h:SqT X.K H a xs):∃ its:List Value,Vals xs its∧IsTup s.heap a its.toArray∧xs.length≤sizeLine:=by
 rcases h with h | ⟨o,its,n,hk,hc,hs,hz,r⟩
 · obtain ⟨z,its,r,p⟩:=h.ok I.hok
   exact ⟨its,r,p,z⟩
 · refine ⟨its.toList,r,⟨o,I.kIn a o hk,hc,n,by simpa using hs⟩,?_⟩
   have e:=r.length;simp only [Array.length_toList] at e;omega
theorem Inv.list_inj (I:Inv X pins σ H s) (h:SqL X.K H a xs) (h':SqL X.K H a ys):xs=ys:=by
 obtain ⟨its,r,⟨o,n,e,_,_,d⟩,_⟩:=I.list h;obtain ⟨its',r',⟨o',n',e',_,_,d'⟩,_⟩:=I.list h';rw [e] at e';cases e';rw [d] at d'
 injection d' with d1 _
 have:its=its':=by simpa using Xbf Array.toList d1
 subst this;exact r.inj r'
theorem Inv.tuple_inj (I:Inv X pins σ H s) (h:SqT X.K H a xs) (h':SqT X.K H a ys):xs=ys:=by
 obtain ⟨its,r,⟨o,e,_,n,d⟩,_⟩:=I.tuple h;obtain ⟨its',r',⟨o',e',_,n',d'⟩,_⟩:=I.tuple h';rw [e] at e';cases e';rw [d] at d'
 injection d' with d1 _
 have:its=its':=by simpa using Xbf Array.toList d1
 subst this;exact r.inj r'
end
abbrev Cx.wish (X:Cx) (E:Value→Shared→Prop):Cx:={ X with xe:=E }
abbrev Cx.nox (X:Cx):Cx:=X.wish fun _ _=>False
theorem Cx.Ok.wish {X:Cx} (ok:X.Ok) (E:Value→Shared→Prop):(X.wish E).Ok :=
 ⟨ok.mod,ok.kind,ok.glob,ok.blt,ok.above,ok.inj,ok.has,ok.cab,ok.hd,ok.frames,ok.stk,ok.exf,ok.bs,ok.bsz,ok.noex,ok.exfs,ok.funs,ok.frf⟩
theorem Cx.Ok.unwish {X:Cx}{E:Value→Shared→Prop} (ok:(X.wish E).Ok):X.Ok :=
 ⟨ok.mod,ok.kind,ok.glob,ok.blt,ok.above,ok.inj,ok.has,ok.cab,ok.hd,ok.frames,ok.stk,ok.exf,ok.bs,ok.bsz,ok.noex,ok.exfs,ok.funs,ok.frf⟩
section
variable {X:Cx} {pins:List (Addr×Obj)} {σ:St} {H:Hp} {s:Shared} {E:Value→Shared→Prop}
theorem Inv.wish (I:Inv X pins σ H s) (E:Value→Shared→Prop):Inv (X.wish E) pins σ H s:=⟨I.ok.wish E,I.os,I.bare,I.base,I.loc,I.cell,I.free,I.freeC,I.pin,I.hok,I.len⟩
theorem Inv.unwish (I:Inv (X.wish E) pins σ H s):Inv X pins σ H s:=⟨I.ok.unwish,I.os,I.bare,I.base,I.loc,I.cell,I.free,I.freeC,I.pin,I.hok,I.len⟩
theorem SP.unwish {D:Ends}{f:Flow}{s':Shared} (h:SP (X.wish E) pins D f s'):SP X pins D f s':=by
 cases f with
 | next=>obtain ⟨σ',H',I,q⟩:=h;exact ⟨σ',H',I.unwish,q⟩
 | brk=>obtain ⟨σ',H',I,q⟩:=h;exact ⟨σ',H',I.unwish,q⟩
 | cont=>obtain ⟨σ',H',I,q⟩:=h;exact ⟨σ',H',I.unwish,q⟩
 | ret u=>obtain ⟨v,σ',H',I,r,q⟩:=h;exact ⟨v,σ',H',I.unwish,r,q⟩
theorem PSs.nox {st:List Stmt}{t:TS} (h:PSs X.nox st t):PSs X st t:=fun pins s σ H D I hw =>
 Xbq (h pins s σ H D (I.wish _) hw) (fun _ _ q=>q.unwish) fun _ _ z=>False.elim z
end
section
variable {X:Cx} {st:Stmt} {rest:List Stmt} {t u:TS} {e:Expr} {te:TE} {pos:Pos}
def tNext:TS:=fun D σ H=>D.nx σ H
def tSeq (t u:TS):TS:=fun D σ H=>t { D with nx:=u D } σ H
theorem Zao:PSs X [] tNext:=fun _ _ σ H _ I h=>wpAny_execs_nil ⟨σ,H,I,h⟩
theorem Zad (h1:PS X st t) (h2:PSs X rest u):PSs X (st :: rest) (tSeq t u):=by
 intro pins s σ H D I h;refine wpAny_execs_cons (thn (h1 pins s σ H { D with nx:=u D } I h) fun f s1 q=>?_)
 cases f with
 | next =>
   obtain ⟨σ',H',I',q⟩:=q;exact h2 pins s1 σ' H' D I' q
 | ret v=>exact q
 | brk=>exact q
 | cont=>exact q
theorem Zah (h1:PS X st t):PSs X [st] t:=by
 intro pins s σ H D I h;refine wpAny_execs_cons (thn (h1 pins s σ H D I h) fun f s1 q=>?_)
 cases f with
 | next=>exact wpAny_execs_nil q
 | ret v=>exact q
 | brk=>exact q
 | cont=>exact q
theorem Inv.quiet {pins:List (Addr×Obj)} {σ:St} {H:Hp} {s:Shared} (I:Inv X pins σ H s):interactive X.env=false:=by simp [interactive,I.ok.kind]
def tDrop (te:TE):TS:=fun D σ H=>te σ H fun _ H1=>D.nx σ H1
theorem Zay (he:PE X e te) (hs:swapsWith e none pos.line X.env=pure false:=by rfl):PS X (.Expr e pos) (tDrop te):=by
 intro pins s σ H D I h;exact wpAny_Expr_any (thn (he pins s σ H _ I h) fun v s1 ⟨x,H1,I1,r1,q1⟩=>⟨σ,H1,I1,q1⟩) I.quiet hs
def tRet (te:TE):TS:=fun D σ H=>te σ H D.rt
theorem ZaB (he:PE X e te):PS X (.Return (some e) pos) (tRet te):=by
 intro pins s σ H D I h;exact wpAny_Return_some (thn (he pins s σ H _ I h) fun v s1 ⟨x,H1,I1,r1,q1⟩=>⟨x,σ,H1,I1,r1,q1⟩)
def tIfS (c:TT) (t u:TS):TS:=fun D σ H=>c σ H fun b H1=>if b=true then t D σ H1 else u D σ H1
theorem ZaN {c:Expr}{a b:List Stmt}{tc:TT} (hc:PT X c tc) (ha:PSs X a t) (hb:PSs X b u):PS X (.If c a b pos) (tIfS tc t u):=by
 intro pins s σ H D I h;refine wpAny_If (thn (hc pins s σ H _ I h) fun d s1 ⟨H1,I1,q1⟩=>?_)
 cases d with
 | true=>exact ha pins s1 σ H1 D I1 q1
 | false=>exact hb pins s1 σ H1 D I1 q1
end
abbrev TG:=V→St→Hp→(St→Hp→Prop)→Prop
abbrev TGs:=List V→St→Hp→(St→Hp→Prop)→Prop
def PG (X:Cx) (target:Expr) (t:TG):Prop :=
 ∀ (pins:List (Addr×Obj)) (s:Shared) (σ:St) (H:Hp) (v:V) (u:Value) (Q:St→Hp→Prop),Inv X pins σ H s→RelV v u→t v σ H Q →
  wpAny (model X.prog X.w) X.A (assign target X.env u) (fun _ s'=>∃ σ' H',Inv X pins σ' H' s'∧Q σ' H') X.xe s
def PGs (X:Cx) (ts:List Expr) (t:TGs):Prop :=
 ∀ (pins:List (Addr×Obj)) (s:Shared) (σ:St) (H:Hp) (vs:List V) (us:List Value) (Q:St→Hp→Prop),Inv X pins σ H s→Vals vs us→t vs σ H Q →
  wpAny (model X.prog X.w) X.A (assignInOrder ((assignEach ts X.env).map (·.2)) us) (fun _ s'=>∃ σ' H',Inv X pins σ' H' s'∧Q σ' H') X.xe s
abbrev TSet:=V→V→V→Hp→(Hp→Prop)→Prop
def PSet (X:Cx) (t:TSet):Prop :=
 ∀ (pins:List (Addr×Obj)) (s:Shared) (σ:St) (H:Hp) (o i v:V) (ov iv u:Value) (Q:Hp→Prop),Inv X pins σ H s→RelV o ov→RelV i iv→RelV v u→t o i v H Q →
  wpAny (model X.prog X.w) X.A (setItem ov iv u) (fun _ s'=>∃ H',Inv X pins σ H' s'∧Q H') X.xe s
abbrev TIp:=V→V→Hp→VK→Prop
section
variable {X:Cx} {pos:Pos}
def Zc2 (i:Nat):TG:=fun v σ H Q=>Q (σ.set i (some v)) H
theorem Zam {i:Nat}{x:Str} (hN:X.N.Nodup) (hi:X.N[i]?=some x:=by rfl) (hx:Loc X.env.scope x:=by first | exact .inl rfl | exact .inr rfl) (hf:X.fn x=true∨X.env.scope.names.lookup x=some .local:=by first | exact .inl rfl | exact .inr rfl | assumption):PG X (.Name x pos) (Zc2 i):=by
 intro pins s σ H v u Q I r h;exact wpAny_assign_Name (Zes I hN hi hx r (fun s' I'=>⟨_,H,I',h⟩) hf)
def gNil:TGs:=fun vs σ H Q=>vs=[]∧Q σ H
def Zez (t:TG) (u:TGs):TGs:=fun vs σ H Q=>∃ v r,vs=v :: r∧t v σ H fun σ' H'=>u r σ' H' Q
theorem ZbK:PGs X [] gNil:=by
 intro pins s σ H vs us Q I r h;obtain ⟨e,h⟩:=h;subst e;cases r;exact assignInOrder_nil ⟨σ,H,I,h⟩
theorem ZaA {e:Expr}{es:List Expr}{t:TG}{u:TGs} (h1:PG X e t) (h2:PGs X es u)
 (hs:(assignEach (e :: es) X.env).map (·.2)=assign e X.env :: (assignEach es X.env).map (·.2):=by rfl):PGs X (e :: es) (Zez t u):=by
 intro pins s σ H vs us Q I r h;obtain ⟨v,vr,e1,h⟩:=h;subst e1
 cases r with
 | cons r rr =>
   rw [hs];refine assignInOrder_cons (thn (h1 pins s σ H _ _ _ I r h) fun _ s1 ⟨σ1,H1,I1,q1⟩=>?_);exact h2 pins s1 σ1 H1 _ _ Q I1 rr q1
def gTup (K:XFg) (n:Nat) (t:TGs):TG:=fun v σ H Q=>∃ a xs,v=.ref a∧SqT K H a xs∧xs.length=n∧t xs σ H Q
theorem ZcE {es:List Expr}{k:Nat}{t:TGs}{n:Nat} (hc:X.calm=true) (h:PGs X es t)
 (hn:(assignEach es X.env).length=n:=by rfl) (hst:(assignEach es X.env).findIdx? (·.1)=none:=by rfl):PG X (.Tuple es k pos) (gTup X.K n t):=by
 intro pins s σ H v u Q I r hw;obtain ⟨a,xs,e1,hq,hl,hw⟩:=hw;subst e1;cases r;obtain ⟨its,rv,ht,hz⟩:=I.tuple hq;refine assign_Tuple_tuple (I.ok.hd hc) ht (by simp [hn,←hl,rv.length]) hst fun h' hx=>?_;have I1:Inv X pins σ H { s with heap:=h' }:=I.kept (t':=s.toks) fun b o e=>hx b o (XaV (Xbl e)) e;exact h pins _ σ H xs _ Q I1 (by simpa using rv) hw
def gSub (to ti:TE) (t:TSet):TG:=fun v σ H Q=>to σ H fun o H1=>ti σ H1 fun i H2=>t o i v H2 fun H3=>Q σ H3
theorem Zjj {o i:Expr}{to ti:TE}{t:TSet} (ho:PE X o to) (hi:PE X i ti) (hs:PSet X t)
 (ha:∀ v,assign (.Subscript o i pos) X.env v=(do
  let ov ←holding [v] (eval o X.env)
  let iv ←holding [v,ov] (eval i X.env)
  standAt pos
  holding [v,ov,iv] (setItem ov iv v)
  release [v,ov,iv] []):=by intro _;rfl):PG X (.Subscript o i pos) (gSub to ti t):=by
 intro pins s σ H v u Q I r h;rw [ha];refine Xbg (Xbi (thn (ho pins s σ H _ I h) fun ov s1 ⟨x,H1,I1,r1,q1⟩=>?_));refine Xbg (Xbi (thn (hi pins s1 σ H1 _ I1 q1) fun iv s2 ⟨y,H2,I2,r2,q2⟩=>?_));refine Xbg (wpAny_standAt (Xbg (Xbi (thn (hs pins s2 σ H2 x y v ov iv u _ I2 r1 r2 r q2) fun _ s3 ⟨H3,I3,q3⟩=>?_))));exact wpAny_release ⟨σ,H3,I3,q3⟩
def tAsg (te:TE) (g:TG):TS:=fun D σ H=>te σ H fun x H1=>g x σ H1 D.nx
theorem Zgy {tg e:Expr}{te:TE}{g:TG} (he:PE X e te) (hg:PG X tg g) (hs:swapsWithSole [tg] e pos.line X.env=pure false:=by rfl) (hw:swappedStores [tg] e X.env=pure none:=by rfl)
 (h1:(assignEach [tg] X.env).map (·.2)=[assign tg X.env]:=by rfl):PS X (.Assign [tg] e pos) (tAsg te g):=by
 intro pins s σ H D I h;refine wpAny_Assign_stores (thn (he pins s σ H _ I h) fun v s1 ⟨x,H1,I1,r1,q1⟩=>?_) hs hw;rw [h1];exact thn (hg pins s1 σ H1 x v _ I1 r1 q1) fun _ s2 q=>q
theorem Zax {i:Nat}{x:Str}{e:Expr}{te:TE}{pos':Pos} (hN:X.N.Nodup) (he:PE X e te) (hi:X.N[i]?=some x:=by rfl) (hx:Loc X.env.scope x:=by first | exact .inl rfl | exact .inr rfl) (hs:swapsWith e (some (.Name x pos')) pos.line X.env=pure false:=by rfl) (hf:X.fn x=true∨X.env.scope.names.lookup x=some .local:=by first | exact .inl rfl | exact .inr rfl | assumption) :
 PS X (.Assign [.Name x pos'] e pos) (tAsg te (Zc2 i)):=by
 intro pins s σ H D I h;refine wpAny_Assign_Name (thn (he pins s σ H _ I h) fun v s1 ⟨y,H1,I1,r1,q1⟩=>?_) hs;exact Zes I1 hN hi hx r1 (fun s2 I2=>⟨_,H1,I2,q1⟩) hf
end
section
variable {X:Cx} {pos:Pos}
def tWhile (c:TT) (tb:TS):TS:=fun D σ H=>∃ W:Nat→St→Hp→Prop,(∃ m,W m σ H)∧∀ m σ H,W m σ H →
 c σ H fun b H1=>if b=true then ∃ N:St→Hp→Prop,(∀ σ' H',N σ' H'→∃ m',m' < m∧W m' σ' H')∧tb { D with nx:=N,ct:=N,bk:=D.nx } σ H1 else D.nx σ H1
theorem ZhT {c:Expr}{body:List Stmt}{tc:TT}{tb:TS} (hp:PassesOwn (model X.prog X.w) X.A X.env X.xe) (hc:PT X c tc) (hb:PSs X body tb):PS X (.While c body [] pos) (tWhile tc tb):=by
 intro pins s σ H D I h;obtain ⟨W,⟨m0,w0⟩,turn⟩:=h;refine wpAny_While (codeAny_whileLoop (fun n s'=>∃ σ' H',Inv X pins σ' H' s'∧W n σ' H') ?_ m0 ⟨σ,H,I,w0⟩);rintro n s1 ⟨σ1,H1,I1,w1⟩;refine wpAny_passesOwn hp (thn (hc pins s1 σ1 H1 _ I1 (turn n σ1 H1 w1)) fun b s2 ⟨H2,I2,q2⟩=>?_)
 cases b with
 | true =>
   obtain ⟨N,hN,q2⟩:=q2;rw [Xba rfl];refine wpAny_passesOwn hp (thn (hb pins s2 σ1 H2 _ I2 q2) fun f s3 q3=>?_)
   cases f with
   | next =>
     obtain ⟨σ3,H3,I3,n3⟩:=q3;obtain ⟨m',hm,w3⟩:=hN σ3 H3 n3;exact ⟨m',hm,σ3,H3,I3,w3⟩
   | cont =>
     obtain ⟨σ3,H3,I3,n3⟩:=q3;obtain ⟨m',hm,w3⟩:=hN σ3 H3 n3;exact ⟨m',hm,σ3,H3,I3,w3⟩
   | brk=>exact q3
   | ret v=>exact q3
 | false =>
   rw [Xa9 Xa7];exact wpAny_execs_nil ⟨σ1,H2,I2,q2⟩
end
structure It where
 go:Nat→Hp→Prop
 yld:Nat→Hp→V→Hp→Prop
 stop:Nat→Hp→Prop
def FpOk (X:Cx) (pins:List (Addr×Obj)) (H:Hp) (b:Addr):Prop :=
 H b=none∧b≠X.env.locals∧b ∉ X.fs∧(b∈X.ex∨X.s₀.heap.objs.size≤b)∧(∀ x c,X.env.cells.lookup x=some c→c≠b)∧∀ p∈X.pn++pins,p.1≠b
theorem Inv.fpOk {X:Cx}{pins:List (Addr×Obj)} {σ:St} {H H':Hp} {s:Shared} {b:Addr} (I:Inv X pins σ H s) (hb:s.heap.objs.size≤b) (hn:H' b=none):FpOk X pins H' b:=by
 refine ⟨hn,Nat.ne_of_gt (Xbb I.lt hb),I.nofs hb,.inr (Xbc I.sz hb),fun x c e z=>?_,fun p hp z=>?_⟩
 · obtain ⟨v,q⟩:=I.cell x c e
   exact absurd (Xbb q.lt (by rw [z];exact hb)) (XaT _)
 · exact absurd (Xbb (Xbl (I.pin p hp).1) (by rw [z];exact hb)) (XaT _)
structure Turn (P:Program) (w:World) (K:XFg) (tg:Expr) (J:It) (fp:List Addr) (it:Addr) (tn:Nat→Heap→Prop):Prop where
 mem:it∈fp
 obj:∀ i h,tn i h→∀ b∈fp,∃ o,h.get? b=some o∧∀ v,o.data≠.cell v
 keep:∀ i h h',tn i h→(∀ b∈fp,∀ o,h.get? b=some o→h'.get? b=some o)→tn i h'
 item:∀ (X:Cx),X.prog=P→X.w=w→X.K=K→X.calm=true→∀ (i:Nat) (pins:List (Addr×Obj)) (s:Shared) (σ:St) (H:Hp) (E:Value→Shared→Prop),Inv X pins σ H s→(∀ b∈fp,FpOk X pins H b)→tn i s.heap→J.go i H →
  wpAny (model P w) X.A (pyNext (.ref it)) (fun r s1=>∃ u,r=some u ∧
   wpAny (model P w) X.A (letOwnedTupleGo tg (.ref it) u) (fun _ s2=>∃ x H',Inv X pins σ H' s2∧RelV x u∧J.yld i H x H'∧tn (i+1) s2.heap∧∀ b∈fp,H' b=none) E s1) E s
 done:∀ (X:Cx),X.prog=P→X.w=w→X.K=K→X.calm=true→∀ (i:Nat) (pins:List (Addr×Obj)) (s:Shared) (σ:St) (H:Hp) (E:Value→Shared→Prop),Inv X pins σ H s→(∀ b∈fp,FpOk X pins H b)→tn i s.heap→J.stop i H →
  wpAny (model P w) X.A (pyNext (.ref it)) (fun r s1=>r=none∧Inv X pins σ H s1) E s
 self:∀ (A:Around) (i:Nat) (s:Shared) (Q:Value→Shared→Prop) (E:Value→Shared→Prop),tn i s.heap→Q (.ref it) s→wpAny (model P w) A (pyIter (.ref it)) Q E s
abbrev TI:=St→Hp→(It→Hp→Prop)→Prop
def PIE (X:Cx) (pins:List (Addr×Obj)) (σ:St) (tg:Expr) (R:It→Hp→Prop) (itv:Value) (s2:Shared):Prop :=
 ∃ (it:Addr) (fp:List Addr) (tn:Nat→Heap→Prop) (J:It) (H':Hp),itv=.ref it∧Inv X pins σ H' s2∧Turn X.prog X.w X.K tg J fp it tn∧tn 0 s2.heap∧(∀ b∈fp,FpOk X pins H' b)∧R J H'
def PI (X:Cx) (tg iter:Expr) (wi:TI):Prop :=
 ∀ (pins:List (Addr×Obj)) (s:Shared) (σ:St) (H:Hp) (R:It→Hp→Prop),Inv X pins σ H s→wi σ H R →
  wpAny (model X.prog X.w) X.A (eval iter X.env) (fun v s1=>wpAny (model X.prog X.w) X.A (pyIter v) (PIE X pins σ tg R) X.xe s1) X.xe s
theorem go_of {M:Model}{A:Around}{E:Value→Shared→Prop}{s:Shared}{tg:Expr}{it:Addr}{u:Value}{o:Obj}{n:String}{vs:Array Value}{Q:Unit→Shared→Prop} (ho:s.heap.get? it=some o) (hc:o.cls=.type n) (hd:o.data=.fields vs)
 (hn:["enumerate", "zip", "dict_itemiterator", "dict_reverseitemiterator", "odict_iterator", "itertools.zip_longest", "itertools.pairwise"].contains n=false) (hQ:Q () s):wpAny M A (letOwnedTupleGo tg (.ref it) u) Q E s:=by
 unfold letOwnedTupleGo
 cases tg <;> first
  | exact Xbh hQ
  | (cases u <;> first
   | exact Xbh hQ
   | (refine Xbg (wpAny_load ho ?_)
      rw [hc,hd]
      show wpAny M A (if (["enumerate", "zip", "dict_itemiterator", "dict_reverseitemiterator", "odict_iterator", "itertools.zip_longest", "itertools.pairwise"].contains n && vs[0]? == some (rawInt _))=true then _ else _) Q E s
      rw [Xa9 (by intro h;rw [hn,Bool.false_and] at h;cases h)]
      exact Xbh hQ))
def Itl (K:XFg) (a:Addr):It :=
 ⟨fun i H=>∃ xs x,SqL K H a xs∧xs[i]?=some x,fun i H x H'=>H'=H∧∀ xs,SqL K H a xs→xs[i]?=some x,fun i H=>∃ xs,SqL K H a xs∧xs.length≤i⟩
def Itr (lo:Int) (n:Nat):It:=⟨fun i _=>i<n,fun i H x H'=>H'=H∧x=.int (lo+i),fun i _=>n≤i⟩
theorem Zjk {P:Program}{w:World}{K:XFg}{tg:Expr} (a it:Addr):Turn P w K tg (Itl K a) [it] it (fun i h=>h.IsListIter it a i) where
 mem:=by simp
 obj:=fun i h st b hb=>by
  have e:b=it:=by simpa using hb
  subst e;obtain ⟨o,e,c,d⟩:=st;exact ⟨o,e,fun v z=>by rw [d] at z;cases z⟩
 keep:=fun i h h' st k=>st.at fun o e=>k it (by simp) o e
 item:=by
  intro X hP hw hK hc i pins s σ H E I hf st hg;subst hP hw hK;obtain ⟨xs,x,hq,hx⟩:=hg;obtain ⟨its,rv,p,hz⟩:=I.list hq;obtain ⟨u,hu,ru⟩:=rv.get hx;obtain ⟨f0,f1,f2,f3,f4,f5⟩:=hf it (by simp);refine wpAny_pyNext_list_item st p.isList (x:=u) (by simpa using hu) fun h' st' sb=>?_;have I1:Inv X pins σ H { s with heap:=h' }:=I.turned (t':=s.toks) (fun b o hb e=>(sb.2 b hb).trans e) f0 f1 f3 f4 f5;obtain ⟨o,e,c,d⟩:=id st';exact ⟨u,rfl,go_of (s:={ s with heap:=h' }) e c d (by decide) ⟨x,H,I1,ru,⟨rfl,fun ys hy=>by rw [I.list_inj hy hq];exact hx⟩,st',fun b hb=>(hf b hb).1⟩⟩
 done:=by
  intro X hP hw hK hc i pins s σ H E I hf st hg;subst hP hw hK;obtain ⟨xs,hq,hx⟩:=hg;obtain ⟨its,rv,p,hz⟩:=I.list hq;obtain ⟨f0,f1,f2,f3,f4,f5⟩:=hf it (by simp);have hl:=rv.length;exact wpAny_pyNext_list_end (I.ok.hd hc) st p.isList (by simp;omega) fun h' eb=>⟨rfl,I.turned (t':=s.toks) (fun b o hb e=>eb b o hb e) f0 f1 f3 f4 f5⟩
 self:=fun _ _ _ _ _ st h=>wpAny_pyIter_listiter st h
theorem ZiH {P:Program}{w:World}{K:XFg}{tg:Expr} (it:Addr) (lo:Int) (n:Nat):Turn P w K tg (Itr lo n) [it] it (fun i h=>IsRangeIter h it (lo+(i:Nat) * 1) ((n:Int) - (i:Nat)) 1) where
 mem:=by simp
 obj:=fun i h st b hb=>by
  have e:b=it:=by simpa using hb
  subst e
  exact ⟨_,st,fun v z=>by
   have z':Data.fields _=Data.cell v:=z
   cases z'⟩
 keep:=fun i h h' st k=>k it (by simp) _ st
 item:=by
  intro X hP hw hK hc i pins s σ H E I hf st hg;subst hP hw hK;obtain ⟨f0,f1,f2,f3,f4,f5⟩:=hf it (by simp);have W:=Walks.range (prog:=X.prog) (w:=X.w) (I.ok.hd hc) it lo 1 n;refine W.item i s _ _ hg st fun v h' tk hv st' kk=>?_;obtain ⟨t,rfl⟩:=hv;have I1:Inv X pins σ H { s with heap:=h',toks:=tk }:=I.turned (fun b o hb e=>kk b o (by simpa using hb) e) f0 f1 f3 f4 f5
  refine ⟨_,rfl,go_of (s:={ s with heap:=h',toks:=tk }) (n := "range_iterator") st' rfl rfl (by decide) ⟨.int (lo+i),H,I1,⟨t,?_⟩,⟨rfl,rfl⟩,st',fun b hb=>(hf b hb).1⟩⟩
  rw [Int.mul_one]
 done:=by
  intro X hP hw hK hc i pins s σ H E I hf st hg;subst hP hw hK;obtain ⟨f0,f1,f2,f3,f4,f5⟩:=hf it (by simp);exact wpAny_pyNext_range_end (I.ok.hd hc) st (by have:n≤i:=hg;omega) fun h' eb=>⟨rfl,I.turned (t':=s.toks) (fun b o hb e=>eb b o hb e) f0 f1 f3 f4 f5⟩
 self:=fun _ _ _ _ _ st h=>wpAny_pyIter_rangeiter st h
section
variable {X:Cx} {tg:Expr}
def iList (K:XFg) (tl:TE):TI:=fun σ H R=>tl σ H fun x H1=>∃ a,x=.ref a∧(∃ xs,SqL K H1 a xs)∧R (Itl K a) H1
theorem ZaI {l:Expr}{tl:TE} (hl:PE X l tl):PI X tg l (iList X.K tl):=by
 intro pins s σ H R I h;refine thn (hl pins s σ H _ I h) fun v s1 ⟨x,H1,I1,r1,q1⟩=>?_;obtain ⟨a,e,⟨xs,hq⟩,q⟩:=q1;subst e;cases r1;obtain ⟨its,rv,p,hz⟩:=I1.list hq;refine wpAny_pyIter_list p.isList ?_;refine ⟨s1.heap.objs.size,[s1.heap.objs.size],_,_,H1,rfl,I1.kept (t':=s1.toks) fun b o e=>Xbk _ e,Zjk a _,⟨_,Xbm _ rfl,rfl,rfl⟩,fun b hb=>?_,q⟩
 have e:b=s1.heap.objs.size:=by simpa using hb
 subst e;exact I1.fpOk (XaS _) (I1.hok.fresh (XaS _))
theorem ZkD {pins:List (Addr×Obj)} {σ:St} {H:Hp} {s:Shared} {R:It→Hp→Prop} {E:Value→Shared→Prop} {lo hi:Int} {t u v:Tok} {tk:Nat} (I:Inv X pins σ H s) (h1:-(2 ^ 62)≤lo) (h2:lo<2 ^ 62) (h3:-(2 ^ 62)≤hi) (h4:hi<2 ^ 62)
 (q:R (Itr lo (hi - lo).toNat) H):wpAny (model X.prog X.w) X.A (pyIter (.ref s.heap.objs.size)) (PIE X pins σ tg R) E { s with heap:=s.heap.push { cls:=.type "range",data:=.fields #[.int lo t,.int hi u,.int 1 v] },toks:=tk }:=by
 refine wpAny_pyIter_range (IsRange.new ..) (small_one h1 h2 h3 h4) ?_
 have I1:Inv X pins σ H { s with heap:=s.heap.push { cls:=.type "range",data:=.fields #[.int lo t,.int hi u,.int 1 v] },toks:=tk }:=I.kept fun b o e=>Xbk _ e
 refine ⟨(s.heap.push { cls:=.type "range",data:=.fields #[.int lo t,.int hi u,.int 1 v] }).objs.size,[(s.heap.push { cls:=.type "range",data:=.fields #[.int lo t,.int hi u,.int 1 v] }).objs.size],_,_,H,rfl,
  I1.kept (t':=tk) fun b o e=>Xbk _ e,ZiH _ lo (hi - lo).toNat,?_,fun b hb=>?_,q⟩
 · have e1:lo+((0:Nat):Int) * 1=lo:=by simp
   have e2:(((hi - lo).toNat:Nat):Int) - ((0:Nat):Int)=Builtin.Range.rangeSize lo hi 1:=by rw [rangeSize_one];split <;> omega
   show IsRangeIter _ _ (lo+((0:Nat):Int) * 1) ((((hi - lo).toNat:Nat):Int) - ((0:Nat):Int)) 1;rw [e1,e2];exact Xbm _ rfl
 · have e:b=(s.heap.push { cls:=.type "range",data:=.fields #[.int lo t,.int hi u,.int 1 v] }).objs.size:=by simpa using hb
   subst e;exact I1.fpOk (XaS _) (I1.hok.fresh (XaS _))
def iRng1 (ta:TA):TI:=fun σ H R=>ta σ H fun vs H1=>∃ j:Int,vs=[.int j]∧-(2 ^ 62)≤j∧j<2 ^ 62∧R (Itr 0 j.toNat) H1
theorem Zcj {a:Expr}{ta:TA}{p pos:Pos} (hg:Gl X "range") (hm:X.mg "range" = none) (ha:PA X [a] ta) (hs:starEach [a] X.env=[(false,eval a X.env)]:=by rfl):PI X tg (.Call (.Name "range" p) [a] [] pos) (iRng1 ta):=by
 intro pins s σ H R I h;refine Call_ (ZhS I hg hm boot_range (PyProof.Rows.callWith_type1 (thn (ha pos pins s σ H _ I h) fun us s1 ⟨vs,H1,I1,r1,q1⟩=>?_) hs rfl));obtain ⟨j,e,q1,q2,q⟩:=q1;subst e
 cases r1 with
 | cons r rr =>
   cases rr;obtain ⟨t,rfl⟩:=r;exact call_range_1 (ZkD I1 (by omega) (by omega) q1 q2 (by simpa using q))
def Loop (J:It) (g:TG) (tb:TS) (D:Ends) (σ:St) (H1:Hp):Prop:=∃ W:Nat→Nat→St→Hp→Prop,(∃ m,W 0 m σ H1)∧∀ i m σ H,W i m σ H →
 (J.stop i H∧D.nx σ H)∨(J.go i H∧∃ N:St→Hp→Prop,(∀ σ' H',N σ' H'→∃ m',m' < m∧W (i+1) m' σ' H')∧∀ x H',J.yld i H x H'→g x σ H' fun σ2 H2=>tb { D with nx:=N,ct:=N,bk:=D.nx } σ2 H2)
def tFor (wi:TI) (g:TG) (tb:TS):TS:=fun D σ H=>wi σ H fun J H1=>Loop J g tb D σ H1
def Zfp (fp:List Addr) (h:Heap):List (Addr×Obj):=fp.filterMap fun b=>(h.get? b).map fun o=>(b,o)
theorem Zcq {fp:List Addr}{h:Heap}{b:Addr}{o:Obj} (hb:b∈fp) (e:h.get? b=some o):(b,o)∈Zfp fp h:=List.mem_filterMap.mpr ⟨b,hb,by rw [e];rfl⟩
theorem Zjl {fp:List Addr}{h:Heap}{p:Addr×Obj} (hp:p∈Zfp fp h):p.1∈fp∧h.get? p.1=some p.2:=by
 obtain ⟨b,hb,e⟩:=List.mem_filterMap.mp hp
 cases q:h.get? b with
 | none=>rw [q] at e;cases e
 | some o =>
   rw [q] at e;have e':(b,o)=p:=Xa8 e;subst e';exact ⟨hb,q⟩
theorem Inv.pinned {pins:List (Addr×Obj)} {σ:St} {H:Hp} {s:Shared} {fp:List Addr} (I:Inv X pins σ H s) (hf:∀ b∈fp,FpOk X pins H b) (ho:∀ b∈fp,∃ o,s.heap.get? b=some o∧∀ v,o.data≠.cell v):Inv X (pins++Zfp fp s.heap) σ H s :=
 I.pins_of fun p hp=>(Xaf.mp hp).elim (fun z=>I.pin p (Xan _ z)) fun z=>by
  obtain ⟨hb,e⟩:=Zjl z;obtain ⟨f0,f1,f2,_⟩:=hf p.1 hb;obtain ⟨o,e',d⟩:=ho p.1 hb;rw [e] at e';cases e';exact ⟨e,f0,f1,f2,d⟩
theorem Inv.unpinned {pins pl:List (Addr×Obj)} {σ:St} {H:Hp} {s:Shared} (I:Inv X (pins++pl) σ H s):Inv X pins σ H s:=I.pins_of fun p hp=>I.pin p (Xan _ (XaA _ hp))
theorem ZbM {iter:Expr}{body:List Stmt}{wi:TI}{g:TG}{tb:TS}{pos:Pos} (hp:PassesOwn (model X.prog X.w) X.A X.env X.xe) (hc:X.calm=true) (hi:PI X tg iter wi) (hg:PG X tg g) (hb:PSs X body tb)
 (hs:∀ x,foldedSetIterable iter X.env x=pure x:=by intro _;rfl):PS X (.For tg iter body [] pos) (tFor wi g tb):=by
 intro pins s σ H D I h;refine wpAny_For (thn (hi pins s σ H _ I h) fun v s1 h1=>thn h1 fun itv s2 h2=>?_) hs;obtain ⟨it,fp,tn,J,H2,e,I2,T,st2,f2,W,⟨m0,w0⟩,turn⟩:=h2;subst e;have stat:∀ {H':Hp},(∀ b∈fp,H' b=none)→∀ b∈fp,FpOk X pins H' b:=fun hn b hb=>⟨hn b hb,(f2 b hb).2⟩;refine codeAny_forLoop_any (fun n s'=>∃ i σ' H',Inv X pins σ' H' s'∧tn i s'.heap∧(∀ b∈fp,H' b=none)∧W i n σ' H') ?_ m0 ⟨0,σ,H2,I2,st2,fun b hb=>(f2 b hb).1,w0⟩;rintro n s3 ⟨i,σ3,H3,I3,st3,fr3,w3⟩
 rcases turn i n σ3 H3 w3 with ⟨stop,qn⟩ | ⟨go,N,hN,step⟩
 · refine wpAny_passesOwn hp (thn (T.done X rfl rfl rfl hc i pins s3 σ3 H3 X.xe I3 (stat fr3) st3 stop) fun r s4 ⟨hr,I4⟩=>?_)
   subst hr;exact wpAny_execs_nil ⟨σ3,H3,I4,qn⟩
 · refine wpAny_passesOwn hp (thn (T.item X rfl rfl rfl hc i pins s3 σ3 H3 X.xe I3 (stat fr3) st3 go) fun r s4 ⟨u,hr,h4⟩=>?_)
   subst hr;refine wpAny_passesOwn hp (thn h4 fun _ s5 ⟨x,H5,I5,r5,y5,st5,fr5⟩=>?_);have I5':=I5.pinned (stat fr5) (T.obj _ _ st5);refine wpAny_passesOwn hp (thn (hg _ s5 σ3 H5 x u _ I5' r5 (step x H5 y5)) fun _ s6 ⟨σ6,H6,I6,q6⟩=>?_);refine wpAny_passesOwn hp (thn (hb _ s6 σ6 H6 _ I6 q6) fun f s7 q7=>?_)
   have again:∀ {σ7:St} {H7:Hp},Inv X (pins++Zfp fp s5.heap) σ7 H7 s7→N σ7 H7→∃ m,m<n∧∃ i σ' H',Inv X pins σ' H' s7∧tn i s7.heap∧(∀ b∈fp,H' b=none)∧W i m σ' H':=fun {σ7 H7} I7 n7=>by
    obtain ⟨m',hm,w7⟩:=hN σ7 H7 n7;refine ⟨m',hm,i+1,σ7,H7,I7.unpinned,T.keep _ _ _ st5 fun b hb o e=>(I7.pin (b,o) (Xan _ (Xan _ (Zcq hb e)))).1,fun b hb=>?_,w7⟩;obtain ⟨o,e,d⟩:=T.obj _ _ st5 b hb;exact (I7.pin (b,o) (Xan _ (Xan _ (Zcq hb e)))).2.1
   cases f with
   | next=>obtain ⟨σ7,H7,I7,n7⟩:=q7;exact again I7 n7
   | cont=>obtain ⟨σ7,H7,I7,n7⟩:=q7;exact again I7 n7
   | brk=>obtain ⟨σ7,H7,I7,q7⟩:=q7;exact ⟨σ7,H7,I7.unpinned,q7⟩
   | ret v=>obtain ⟨x7,σ7,H7,I7,r7,q7⟩:=q7;exact ⟨x7,σ7,H7,I7.unpinned,r7,q7⟩
end
theorem Zgz {J:It}{g:TG}{tb:TS}{D:Ends}{σ:St}{H:Hp} (n:Nat) (Pv:Nat→St→Hp→Prop) (h0:Pv 0 σ H) (go:∀ i σ H,Pv i σ H→i<n→J.go i H) (stop:∀ σ H,Pv n σ H→J.stop n H)
 (hs:∀ i v σ H H',Pv i σ H→i<n→J.yld i H v H'→g v σ H' fun σ2 H2=>tb { D with nx:=Pv (i+1),ct:=Pv (i+1),bk:=D.nx } σ2 H2) (hd:∀ σ H,Pv n σ H→D.nx σ H):Loop J g tb D σ H:=by
 unfold Loop;refine ⟨fun i m σ H=>m=n - i∧i≤n∧Pv i σ H,⟨_,rfl,XaW _,h0⟩,?_⟩;rintro i m σ H ⟨rfl,hi,p⟩
 by_cases hlt:i<n
 · exact .inr ⟨go i σ H p hlt,Pv (i+1),fun σ' H' p'=>⟨n - (i+1),by omega,rfl,hlt,p'⟩,fun v H' y=>hs i v σ H H' p hlt y⟩
 · obtain rfl:i=n:=by omega
   exact .inl ⟨stop σ H p,hd σ H p⟩
theorem Za2 {K:XFg}{a:Addr}{xs:List V}{g:TG}{tb:TS}{D:Ends}{σ:St}{H:Hp} (Pv:Nat→St→Hp→Prop) (h0:Pv 0 σ H) (hl:∀ i σ H,i≤xs.length→Pv i σ H→SqL K H a xs)
 (hs:∀ i x σ H,xs[i]?=some x→Pv i σ H→g x σ H fun σ2 H2=>tb { D with nx:=Pv (i+1),ct:=Pv (i+1),bk:=D.nx } σ2 H2) (hd:∀ σ H,Pv xs.length σ H→D.nx σ H):Loop (Itl K a) g tb D σ H:=Zgz xs.length Pv h0 (fun i σ H p hi=>⟨xs,xs[i],hl i σ H (XaU hi) p,by simp [hi]⟩) (fun σ H p=>⟨xs,hl _ σ H (XaS _) p,XaS _⟩) (fun i v σ H H' p hi y=>by obtain ⟨rfl,y⟩:=y;exact hs i v σ _ (y xs (hl i σ _ (XaU hi) p)) p) hd
theorem ZeA {lo:Int}{n:Nat}{g:TG}{tb:TS}{D:Ends}{σ:St}{H:Hp} (Pv:Nat→St→Hp→Prop) (h0:Pv 0 σ H)
 (hs:∀ i σ H,i<n→Pv i σ H→g (.int (lo+i)) σ H fun σ2 H2=>tb { D with nx:=Pv (i+1),ct:=Pv (i+1),bk:=D.nx } σ2 H2) (hd:∀ σ H,Pv n σ H→D.nx σ H):Loop (Itr lo n) g tb D σ H:=Zgz n Pv h0 (fun i σ H p hi=>hi) (fun σ H p=>XaS _) (fun i v σ H H' p hi y=>by obtain ⟨rfl,rfl⟩:=y;exact hs i σ _ hi p) hd
abbrev R2:=V→V→Hp→VK→Prop
def OpR (X:Cx) (f:Value→Value→Sem Value) (r:R2):Prop :=
 ∀ (pins:List (Addr×Obj)) (s:Shared) (σ:St) (H:Hp) (x y:V) (v u:Value) (Q:VK),Inv X pins σ H s→RelV x v→RelV y u→r x y H Q →
  wpAny (model X.prog X.w) X.A (f v u) (EP X pins σ Q) X.xe s
def UnR (X:Cx) (f:Value→Sem Value) (r:V→Hp→VK→Prop):Prop :=
 ∀ (pins:List (Addr×Obj)) (s:Shared) (σ:St) (H:Hp) (x:V) (v:Value) (Q:VK),Inv X pins σ H s→RelV x v→r x H Q →
  wpAny (model X.prog X.w) X.A (f v) (EP X pins σ Q) X.xe s
def CallR (X:Cx) (f:Value) (r:List V→Hp→VK→Prop):Prop :=
 ∀ (pins:List (Addr×Obj)) (s:Shared) (σ:St) (H:Hp) (xs:List V) (us:List Value) (Q:VK),Inv X pins σ H s→Vals xs us→r xs H Q →
  wpAny (model X.prog X.w) X.A (call f us) (EP X pins σ Q) X.xe s
def TruR (X:Cx) (r:V→Hp→(Bool→Hp→Prop)→Prop):Prop :=
 ∀ (pins:List (Addr×Obj)) (s:Shared) (σ:St) (H:Hp) (x:V) (v:Value) (Q:Bool→Hp→Prop),Inv X pins σ H s→RelV x v→r x H Q →
  wpAny (model X.prog X.w) X.A (truthy v) (TP X pins σ Q) X.xe s
def tOp (r:R2) (ta tb:TE):TE:=fun σ H Q=>ta σ H fun x H1=>tb σ H1 fun y H2=>r x y H2 Q
def tUn (r:V→Hp→VK→Prop) (ta:TE):TE:=fun σ H Q=>ta σ H fun x H1=>r x H1 Q
def rI (C:Int→Int→Prop) (g:Int→Int→V):R2:=fun x y H Q=>∃ i j,x=.int i∧y=.int j∧C i j∧Q (g i j) H
def rI0 (g:Int→Int→V):R2:=fun x y H Q=>∃ i j,x=.int i∧y=.int j∧Q (g i j) H
def rU (g:Int→V):V→Hp→VK→Prop:=fun x H Q=>∃ i,x=.int i∧Q (g i) H
section
variable {X:Cx} {a b c:Expr} {ta tb tc:TE} {pos:Pos}
theorem binT (ha:PE X a ta) (hb:PE X b tb) {pins:List (Addr×Obj)} {s:Shared} {σ:St} {H:Hp} {R:V→V→Hp→Prop} (I:Inv X pins σ H s)
 (h:ta σ H fun x H1=>tb σ H1 fun y H2=>R x y H2) {Q:Value→Shared→Prop} {f:Value→Value→Sem Value}
 (hf:∀ v u s2 x y H2,Inv X pins σ H2 s2→RelV x v→RelV y u→R x y H2→wpAny (model X.prog X.w) X.A (f v u) Q X.xe s2) :
 wpAny (model X.prog X.w) X.A (eval a X.env) (fun v s₁=>wpAny (model X.prog X.w) X.A (eval b X.env) (fun u s₂=>wpAny (model X.prog X.w) X.A (f v u) Q X.xe s₂) X.xe s₁) X.xe s:=by
 refine thn (ha pins s σ H _ I h) fun v s1 ⟨x,H1,I1,r1,q1⟩=>?_;refine thn (hb pins s1 σ H1 _ I1 q1) fun u s2 ⟨y,H2,I2,r2,q2⟩=>?_;exact hf v u s2 x y H2 I2 r1 r2 q2
theorem Zat {op:Operator}{r:R2} (ho:OpR X (binaryOp op) r) (ha:PE X a ta) (hb:PE X b tb):PE X (.BinOp a op b pos) (tOp r ta tb):=by
 intro pins s σ H Q I h;exact wpAny_BinOp (binT ha hb I h fun v u s2 x y H2 I2 rx ry q=>ho pins s2 σ H2 x y v u Q I2 rx ry q)
theorem pe_un {op:UnaryOp}{r:V→Hp→VK→Prop} (ho:UnR X (unaryOp op) r) (ha:PE X a ta):PE X (.UnaryOp op a pos) (tUn r ta):=by
 intro pins s σ H Q I h;exact UnaryOp_ (thn (ha pins s σ H _ I h) fun v s1 ⟨x,H1,I1,r1,q1⟩=>ho pins s1 σ H1 x v Q I1 r1 q1)
theorem opI {f:Value→Value→Sem Value}{C:Int→Int→Prop}{g:Int→Int→Int}
 (rule:∀ (i j:Int) (t u:Tok) (s:Shared) (Q:Value→Shared→Prop) (E:Value→Shared→Prop),C i j→Q (.int (g i j) s.toks) { s with toks:=s.toks+1 }→wpAny (model X.prog X.w) X.A (f (.int i t) (.int j u)) Q E s) :
 OpR X f (rI C fun i j=>.int (g i j)):=by
 intro pins s σ H x y v u Q I rx ry h;obtain ⟨i,j,rfl,rfl,hc,q⟩:=h;obtain ⟨t,rfl⟩:=rx;obtain ⟨t',rfl⟩:=ry;exact rule i j t t' s _ _ hc ⟨.int (g i j),H,I.tok _,⟨_,rfl⟩,q⟩
theorem opI0 {f:Value→Value→Sem Value}{g:Int→Int→Int}
 (rule:∀ (i j:Int) (t u:Tok) (s:Shared) (Q:Value→Shared→Prop) (E:Value→Shared→Prop),Q (.int (g i j) s.toks) { s with toks:=s.toks+1 }→wpAny (model X.prog X.w) X.A (f (.int i t) (.int j u)) Q E s) :
 OpR X f (rI0 fun i j=>.int (g i j)):=by
 intro pins s σ H x y v u Q I rx ry h;obtain ⟨i,j,rfl,rfl,q⟩:=h;obtain ⟨t,rfl⟩:=rx;obtain ⟨t',rfl⟩:=ry;exact rule i j t t' s _ _ ⟨.int (g i j),H,I.tok _,⟨_,rfl⟩,q⟩
theorem opB0 {f:Value→Value→Sem Value}{g:Int→Int→Bool}
 (rule:∀ (i j:Int) (t u:Tok) (s:Shared) (Q:Value→Shared→Prop) (E:Value→Shared→Prop),Q (.bool (g i j)) s→wpAny (model X.prog X.w) X.A (f (.int i t) (.int j u)) Q E s) :
 OpR X f (rI0 fun i j=>.bl (g i j)):=by
 intro pins s σ H x y v u Q I rx ry h;obtain ⟨i,j,rfl,rfl,q⟩:=h;obtain ⟨t,rfl⟩:=rx;obtain ⟨t',rfl⟩:=ry;exact rule i j t t' s _ _ ⟨.bl (g i j),H,I,rfl,q⟩
def CDiv (i j:Int):Prop:=0<j∧j<1073741824
def CPow (i j:Int):Prop:=0≤j∧j≤1000000∧i.natAbs<2 ^ 64
def CMul (i j:Int):Prop:=(-(2 ^ 64)<i∧i<2 ^ 64)∨(-(2 ^ 64)<j∧j<2 ^ 64)
theorem CMul.ok {i j:Int} (h:CMul i j):IntMulOk i j:=by
 rcases h with ⟨h1,h2⟩ | ⟨h1,h2⟩
 · exact .of_left (intBits_le_64 h1 h2)
 · exact .of_right (intBits_le_64 h1 h2)
theorem ZdE:OpR X (binaryOp .Add) (rI0 fun i j=>.int (i+j)):=opI0 fun _ _ _ _ _ _ _ q=>add_int q
theorem op_sub:OpR X (binaryOp .Sub) (rI0 fun i j=>.int (i - j)):=opI0 fun _ _ _ _ _ _ _ q=>sub_int q
theorem op_mul:OpR X (binaryOp .Mult) (rI CMul fun i j=>.int (i * j)):=opI fun _ _ _ _ _ _ _ hc q=>mul_int q hc.ok
theorem ZaO:OpR X (binaryOp .FloorDiv) (rI CDiv fun i j=>.int (i / j)):=opI fun i j _ _ _ _ _ hc q=>by
 have h1:(0:Int)<j:=hc.1;have h2:j<1073741824:=hc.2;exact floordiv_int (by omega) (by rw [Int.fdiv_eq_ediv_of_nonneg i (by omega)];exact q) (.inl (PyProof.noPylong_small (by omega)))
theorem ZaF:OpR X (binaryOp .Mod) (rI (fun _ j=>0<j) fun i j=>.int (i % j)):=opI fun i j _ _ _ _ _ hc q=>by
 have h1:(0:Int)<j:=hc;exact mod_int' (by omega) (by rw [Int.fmod_eq_emod_of_nonneg i (by omega)];exact q)
theorem op_pow:OpR X (binaryOp .Pow) (rI CPow fun i j=>.int (i ^ j.toNat)):=opI fun _ _ _ _ _ _ _ hc q=>pow_int_small hc.1 hc.2.1 hc.2.2 q
theorem unI {f:Value→Sem Value}{g:Int→Int}
 (rule:∀ (i:Int) (t:Tok) (s:Shared) (Q:Value→Shared→Prop) (E:Value→Shared→Prop),Q (.int (g i) s.toks) { s with toks:=s.toks+1 }→wpAny (model X.prog X.w) X.A (f (.int i t)) Q E s) :
 UnR X f (rU fun i=>.int (g i)):=by
 intro pins s σ H x v Q I rx h;obtain ⟨i,rfl,q⟩:=h;obtain ⟨t,rfl⟩:=rx;exact rule i t s _ _ ⟨.int (g i),H,I.tok _,⟨_,rfl⟩,q⟩
theorem Zjm:UnR X (unaryOp .USub) (rU fun i=>.int (-i)):=unI fun _ _ _ _ _ q=>neg_int q
end
def scal:V→V→Bool
 | .non,.non=>true | .non,.int _=>true | .int _,.non=>true | .non,.bl _=>true | .bl _,.non=>true | .non,.str _=>true | .str _,.non=>true
 | .int _,.int _=>true | .bl _,.bl _=>true | .str _,.str _=>true | .byt _,.byt _=>true
 | .int _,.str _=>true | .str _,.int _=>true | .bl _,.str _=>true | .str _,.bl _=>true
 | _,_=>false
def rEq:R2:=fun x y H Q=>scal x y=true∧Q (.bl (decide (x=y))) H
def rNe:R2:=fun x y H Q=>scal x y=true∧Q (.bl (!decide (x=y))) H
theorem Zjn {i j:Int}:decide (V.int i=V.int j)=(i == j):=by
 rw [Bool.eq_iff_iff]
 simp
theorem dec_bl {i j:Bool}:decide (V.bl i=V.bl j)=(i == j):=by
 rw [Bool.eq_iff_iff]
 simp
theorem Zjo {i j:Str}:decide (V.str i=V.str j)=(i == j):=by
 rw [Bool.eq_iff_iff]
 simp
theorem Zjp {i j:Array UInt8}:decide (V.byt i=V.byt j)=(i.toList == j.toList):=by
 rw [Bool.eq_iff_iff];cases i;cases j
 simp
section
variable {X:Cx} {a b c:Expr} {ta tb tc:TE} {pos:Pos}
theorem Za3 {pins:List (Addr×Obj)} {σ:St} {H:Hp} {s:Shared} {Q:VK} {k k':Bool} (I:Inv X pins σ H s) (q:Q (.bl k) H) (e:k=k'):EP X pins σ Q (.bool k') s:=by
 subst e;exact ⟨.bl k,H,I,rfl,q⟩
theorem Zb0:OpR X (compareOp .Eq) rEq:=by
 intro pins s σ H x y v u Q I rx ry h;obtain ⟨hs,q⟩:=h
 cases x with
 | non =>
   cases rx
   cases y with
   | non=>cases ry;exact PySem.EqNone.eq_none_none (Za3 I q (by simp))
   | bl j=>cases ry;exact PySem.EqNone.eq_none_bool (Za3 I q (by simp))
   | int j=>obtain ⟨t',rfl⟩:=ry;exact PySem.EqNone.eq_none_int (Za3 I q (by simp))
   | str j=>obtain ⟨t',rfl⟩:=ry;exact PySem.EqNone.eq_none_str (Za3 I q (by simp))
   | _=>exact absurd (show false=true from hs) Xa7
 | bl i =>
   cases rx
   cases y with
   | non=>cases ry;exact PySem.EqNone.eq_bool_none (Za3 I q (by simp))
   | bl j=>cases ry;exact eq_bool (Za3 I q dec_bl)
   | str j=>obtain ⟨t',rfl⟩:=ry;exact PySem.EqMixed.eq_bool_str (Za3 I q (by simp))
   | _=>exact absurd (show false=true from hs) Xa7
 | int i =>
   obtain ⟨t,rfl⟩:=rx
   cases y with
   | non=>cases ry;exact PySem.EqNone.eq_int_none (Za3 I q (by simp))
   | int j=>obtain ⟨t',rfl⟩:=ry;exact eq_int (Za3 I q Zjn)
   | str j=>obtain ⟨t',rfl⟩:=ry;exact PySem.EqMixed.eq_int_str (Za3 I q (by simp))
   | _=>exact absurd (show false=true from hs) Xa7
 | str i =>
   obtain ⟨t,rfl⟩:=rx
   cases y with
   | non=>cases ry;exact PySem.EqNone.eq_str_none (Za3 I q (by simp))
   | bl j=>cases ry;exact PySem.EqMixed.eq_str_bool (Za3 I q (by simp))
   | int j=>obtain ⟨t',rfl⟩:=ry;exact PySem.EqMixed.eq_str_int (Za3 I q (by simp))
   | str j=>obtain ⟨t',rfl⟩:=ry;exact eq_str (Za3 I q Zjo)
   | _=>exact absurd (show false=true from hs) Xa7
 | byt i =>
   obtain ⟨t,rfl⟩:=rx
   cases y with
   | byt j=>obtain ⟨t',rfl⟩:=ry;exact PySem.W.eq_bytes (Za3 I q Zjp)
   | _=>exact absurd (show false=true from hs) Xa7
 | _=>cases y <;> exact absurd (show false=true from hs) Xa7
theorem ZfK:OpR X (compareOp .NotEq) rNe:=by
 intro pins s σ H x y v u Q I rx ry h;obtain ⟨hs,q⟩:=h
 cases x with
 | non =>
   cases rx
   cases y with
   | non=>cases ry;exact PySem.EqNone.ne_none_none (Za3 I q (by simp))
   | bl j=>cases ry;exact PySem.EqNone.ne_none_bool (Za3 I q (by simp))
   | int j=>obtain ⟨t',rfl⟩:=ry;exact PySem.EqNone.ne_none_int (Za3 I q (by simp))
   | str j=>obtain ⟨t',rfl⟩:=ry;exact PySem.EqNone.ne_none_str (Za3 I q (by simp))
   | _=>exact absurd (show false=true from hs) Xa7
 | bl i =>
   cases rx
   cases y with
   | non=>cases ry;exact PySem.EqNone.ne_bool_none (Za3 I q (by simp))
   | bl j=>cases ry;exact ne_bool (Za3 I q (Xbf not dec_bl))
   | str j=>obtain ⟨t',rfl⟩:=ry;exact PySem.EqMixed.ne_bool_str (Za3 I q (by simp))
   | _=>exact absurd (show false=true from hs) Xa7
 | int i =>
   obtain ⟨t,rfl⟩:=rx
   cases y with
   | non=>cases ry;exact PySem.EqNone.ne_int_none (Za3 I q (by simp))
   | int j=>obtain ⟨t',rfl⟩:=ry;exact ne_int (Za3 I q (Xbf not Zjn))
   | str j=>obtain ⟨t',rfl⟩:=ry;exact PySem.EqMixed.ne_int_str (Za3 I q (by simp))
   | _=>exact absurd (show false=true from hs) Xa7
 | str i =>
   obtain ⟨t,rfl⟩:=rx
   cases y with
   | non=>cases ry;exact PySem.EqNone.ne_str_none (Za3 I q (by simp))
   | bl j=>cases ry;exact PySem.EqMixed.ne_str_bool (Za3 I q (by simp))
   | int j=>obtain ⟨t',rfl⟩:=ry;exact PySem.EqMixed.ne_str_int (Za3 I q (by simp))
   | str j=>obtain ⟨t',rfl⟩:=ry;exact ne_str (Za3 I q (Xbf not Zjo))
   | _=>exact absurd (show false=true from hs) Xa7
 | byt i =>
   obtain ⟨t,rfl⟩:=rx
   cases y with
   | byt j=>obtain ⟨t',rfl⟩:=ry;exact PySem.W.ne_bytes (Za3 I q (Xbf not Zjp))
   | _=>exact absurd (show false=true from hs) Xa7
 | _=>cases y <;> exact absurd (show false=true from hs) Xa7
theorem Zjq:OpR X (compareOp .Lt) (rI0 fun i j=>.bl (decide (i<j))):=opB0 fun _ _ _ _ _ _ _ q=>lt_int q
theorem Zjr:OpR X (compareOp .LtE) (rI0 fun i j=>.bl (decide (i≤j))):=opB0 fun _ _ _ _ _ _ _ q=>le_int q
theorem Zjs:OpR X (compareOp .Gt) (rI0 fun i j=>.bl (decide (j<i))):=opB0 fun _ _ _ _ _ _ _ q=>gt_int q
theorem ZaC (b:Expr) {op:CmpOp} (h:op≠.In:=by decide) (h2:op≠.NotIn:=by decide):behindInMarks op b=false:=by
 have e1:(op == CmpOp.In)=false:=by cases op <;> first | rfl | exact absurd rfl h
 have e2:(op == CmpOp.NotIn)=false:=by cases op <;> first | rfl | exact absurd rfl h2
 cases b <;> simp [behindInMarks,e1,e2]
theorem ZfL {op:CmpOp}{r:R2} (ho:OpR X (compareOp op) r) (ha:PE X a ta) (hb:PE X b tb) (hm:behindInMarks op b=false):PE X (.Compare a [op] [b] pos) (tOp r ta tb):=by
 intro pins s σ H Q I h;exact wpAny_Compare1 (binT ha hb I h fun v u s2 x y H2 I2 rx ry q=>ho pins s2 σ H2 x y v u Q I2 rx ry q) hm
def tTest (t:TE):TT:=fun σ H Q=>t σ H fun x H'=>∃ k,x=.bl k∧Q k H'
theorem Zas {op:CmpOp}{r:R2} (ho:OpR X (compareOp op) r) (ha:PE X a ta) (hb:PE X b tb) (hm:behindInMarks op b=false):PT X (.Compare a [op] [b] pos) (tTest (tOp r ta tb)):=by
 intro pins s σ H Q I h
 refine wpAny_isTrue_Compare1 (thn (ha pins s σ H _ I h) fun v s1 ⟨x,H1,I1,r1,q1⟩=>thn (hb pins s1 σ H1 _ I1 q1) fun u s2 ⟨y,H2,I2,r2,q2⟩ =>
  thn (ho pins s2 σ H2 x y v u _ I2 r1 r2 q2) fun c s3 ⟨z,H3,I3,r3,k,e,q3⟩=>?_) hm
 subst e;cases r3;exact Xbj ⟨H3,I3,q3⟩
def tChain (r r':R2) (ta tb tc:TE):TE:=fun σ H Q=>ta σ H fun x H1=>tb σ H1 fun y H2=>r x y H2 fun z H3=>∃ k,z=.bl k ∧
 (if k=true then tc σ H3 fun w' H4=>r' y w' H4 Q else Q (.bl false) H3)
theorem ZfM {op op':CmpOp}{r r':R2} (ho:OpR X (compareOp op) r) (ho':OpR X (compareOp op') r') (ha:PE X a ta) (hb:PE X b tb) (hc:PE X c tc)
 (hm:lastMarks [op,op'] [b,c]=false:=by with_unfolding_all rfl):PE X (.Compare a [op,op'] [b,c] pos) (tChain r r' ta tb tc):=by
 intro pins s σ H Q I h
 refine Compare_chain (thn (ha pins s σ H _ I h) fun v s1 ⟨x,H1,I1,r1,q1⟩=>chain_link (thn (hb pins s1 σ H1 _ I1 q1) fun u s2 ⟨y,H2,I2,r2,q2⟩ =>
  thn (ho pins s2 σ H2 x y v u _ I2 r1 r2 q2) fun d s3 ⟨z,H3,I3,r3,k,e,q3⟩=>?_)) hm
 subst e;cases r3;refine Xbj ?_
 cases k with
 | false=>exact ite_ff ⟨.bl false,H3,I3,rfl,q3⟩
 | true=>exact ite_tt (chain_last (thn (hc pins s3 σ H3 _ I3 q3) fun w' s4 ⟨z',H4,I4,r4,q4⟩=>ho' pins s4 σ H4 y z' u w' Q I4 r2 r4 q4))
theorem ZhU {op op':CmpOp}{r r':R2} (ho:OpR X (compareOp op) r) (ho':OpR X (compareOp op') r') (ha:PE X a ta) (hb:PE X b tb) (hc:PE X c tc)
 (hm:lastMarks [op,op'] [b,c]=false:=by with_unfolding_all rfl):PT X (.Compare a [op,op'] [b,c] pos) (tTest (tChain r r' ta tb tc)):=by
 intro pins s σ H Q I h
 refine isTrue_chain (thn (ha pins s σ H _ I h) fun v s1 ⟨x,H1,I1,r1,q1⟩=>test_link (thn (hb pins s1 σ H1 _ I1 q1) fun u s2 ⟨y,H2,I2,r2,q2⟩ =>
  thn (ho pins s2 σ H2 x y v u _ I2 r1 r2 q2) fun d s3 ⟨z,H3,I3,r3,k,e,q3⟩=>?_)) hm
 subst e;cases r3;refine Xbj ?_
 cases k with
 | false =>
   obtain ⟨k',e',q'⟩:=q3;cases e';exact ite_ff ⟨H3,I3,q'⟩
 | true =>
   refine ite_tt (test_last (thn (hc pins s3 σ H3 _ I3 q3) fun w' s4 ⟨z',H4,I4,r4,q4⟩=>thn (ho' pins s4 σ H4 y z' u w' _ I4 r2 r4 q4) fun d' s5 ⟨z2,H5,I5,r5,k2,e2,q5⟩=>?_));subst e2;cases r5;exact Xbj ⟨H5,I5,q5⟩
def TruV (K:XFg) (x:V) (H:Hp) (k:Bool):Prop :=
 match x with
 | .non=>k=false
 | .bl b=>k=b
 | .int i=>k=(i != 0)
 | .str y=>y.length≤sizeLine∧k=((y.length:Int) != 0)
 | .byt y=>y.size≤sizeLine∧k=((y.size:Int) != 0)
 | .ref p=>(∃ xs,SqL K H p xs∧k=!xs.isEmpty)∨(∃ xs,SqT K H p xs∧k=!xs.isEmpty)∨∃ kvs,H p=some (.dK kvs)∧k=!kvs.isEmpty
 | _=>False
theorem ZiI {κ:Type}{kvs:List (κ×V)} {vs:List (κ×Value)} (r:KV kvs vs):(!vs.isEmpty)=!kvs.isEmpty:=by
 cases r <;> rfl
theorem Zfq {xs:List V}{its:List Value} (r:Vals xs its):(!its.toArray.isEmpty)=!xs.isEmpty:=by
 cases r <;> simp
theorem ZeB:(sizeLine:Nat)<2 ^ 63:=by rw [sizeLine_eq];decide
theorem tru_ok:TruR X (fun x H Q=>∃ k,TruV X.K x H k∧Q k H):=by
 intro pins s σ H x v Q I rx h;obtain ⟨k,e,q⟩:=h;have hl:=ZeB;have hs:sizeLine=16777216:=sizeLine_eq
 cases x with
 | non =>
   cases rx;have e':k=false:=e;subst e';exact truthy_none ⟨H,I,q⟩
 | bl b =>
   cases rx;have e':k=b:=e;subst e';exact Xbj ⟨H,I,q⟩
 | int i =>
   obtain ⟨t,rfl⟩:=rx;have e':k=(i != 0):=e;subst e';exact PySem.P.truthy_int ⟨H,I,q⟩
 | str y =>
   obtain ⟨t,rfl⟩:=rx;obtain ⟨hy,e'⟩:y.length≤sizeLine∧k=((y.length:Int) != 0):=e;subst e';exact PySem.P.truthy_str (by omega) ⟨H,I.tok _,q⟩
 | byt y =>
   obtain ⟨t,rfl⟩:=rx;obtain ⟨hy,e'⟩:y.size≤sizeLine∧k=((y.size:Int) != 0):=e;subst e';exact PySem.W.truthy_bytes (by omega) ⟨H,I.tok _,q⟩
 | ref p =>
   cases rx;have e':(∃ xs,SqL X.K H p xs∧k=!xs.isEmpty)∨(∃ xs,SqT X.K H p xs∧k=!xs.isEmpty)∨∃ kvs,H p=some (.dK kvs)∧k=!kvs.isEmpty:=e
   rcases e' with ⟨xs,hx,e'⟩ | ⟨xs,hx,e'⟩ | ⟨kvs,hx,e'⟩
   · subst e'
     obtain ⟨its,r,pl,hz⟩:=I.list hx;have hlen:=r.length;exact wpAny_truthy_list pl.isList (by simp only [Xak];omega) ⟨H,I.tok _,by rw [Zfq r];exact q⟩
   · subst e'
     obtain ⟨its,r,pl,hz⟩:=I.tuple hx;have hlen:=r.length;exact truthy_tuple pl (by simp only [Xak];omega) ⟨H,I.tok _,by rw [Zfq r];exact q⟩
   · subst e'
     obtain ⟨hz,hS,vs,r,m⟩:kvs.length≤sizeLine∧(p == sysModules)=false∧∃ vs,KV kvs vs∧s.heap.DictOf (Zbt X.prog X.w) p vs:=I.hok p _ hx;have hlen:kvs.length=vs.length:=Paired.length r;exact wpAny_truthy_dict hS m (by omega) ⟨H,I.tok _,by rw [ZiI r];exact q⟩
 | _=>exact (show False from e).elim
theorem Zdx {x:V}{us:List Value} (r:Vals [x] us):∃ u,us=[u]∧RelV x u:=by
 cases r with
 | cons r1 r2=>cases r2;exact ⟨_,rfl,r1⟩
theorem Zjt {x y:V}{us:List Value} (r:Vals [x,y] us):∃ u w',us=[u,w']∧RelV x u∧RelV y w':=by
 cases r with
 | cons r1 r2 =>
   cases r2 with
   | cons r3 r4=>cases r4;exact ⟨_,_,rfl,r1,r3⟩
def LenV (K:XFg) (x:V) (H:Hp) (n:Nat):Prop :=
 match x with
 | .str y=>y.length≤sizeLine∧n=y.length
 | .byt y=>y.size≤sizeLine∧n=y.size
 | .ref p=>(∃ xs,SqL K H p xs∧n=xs.length)∨∃ xs,SqT K H p xs∧n=xs.length
 | _=>False
theorem ZaR:CallR X (.builtin "len") (fun xs H Q=>∃ x n,xs=[x]∧LenV X.K x H n∧Q (.int n) H):=by
 intro pins s σ H xs us Q I r h;obtain ⟨x,n,rfl,e,q⟩:=h;obtain ⟨u,rfl,rx⟩:=Zdx r;have hl:=ZeB;have hs:sizeLine=16777216:=sizeLine_eq
 cases x with
 | str y =>
   obtain ⟨t,rfl⟩:=rx;obtain ⟨hy,e'⟩:y.length≤sizeLine∧n=y.length:=e;subst e';exact len_str (by omega) ⟨.int _,H,I.tok _,⟨_,rfl⟩,q⟩
 | byt y =>
   obtain ⟨t,rfl⟩:=rx;obtain ⟨hy,e'⟩:y.size≤sizeLine∧n=y.size:=e;subst e';exact PySem.W.len_bytes (by omega) ⟨.int _,H,I.tok _,⟨_,rfl⟩,q⟩
 | ref p =>
   cases rx;have e':(∃ xs,SqL X.K H p xs∧n=xs.length)∨∃ xs,SqT X.K H p xs∧n=xs.length:=e
   rcases e' with ⟨xs,hx,e'⟩ | ⟨xs,hx,e'⟩
   · subst e'
     obtain ⟨its,r',pl,hz⟩:=I.list hx;have hlen:=r'.length;exact Calls.call_len_list pl.isList (by simp only [Xak];omega) ⟨.int xs.length,H,I.tok _,⟨_,by simp only [Xak];rw [hlen]⟩,q⟩
   · subst e'
     obtain ⟨its,r',pl,hz⟩:=I.tuple hx;have hlen:=r'.length;exact len_tuple pl (by simp only [Xak];omega) ⟨.int xs.length,H,I.tok _,⟨_,by simp only [Xak];rw [hlen]⟩,q⟩
 | _=>exact (show False from e).elim
end
section
variable {prog:Program} {w:World} {A:Around} {E:Value→Shared→Prop} {s:Shared} {K:XFg} {x dx C f:Addr} {mA:Str→Option Value} {name:Str} {v:Value}
end
theorem RelO.some_of {v:V}{o:Option Value} (r:RelO (some v) o):∃ u,o=some u∧RelV v u:=by
 cases o with
 | none=>exact (show False from r).elim
 | some u=>exact ⟨u,rfl,r⟩
section
variable {P:Program} {w:World} {H H':Hp} {h h':Heap} {a C dx:Addr} {fs fs':List (Str×V)}
end
section
variable {X:Cx} {pins:List (Addr×Obj)} {σ:St} {H:Hp} {s:Shared} {a C dx:Addr} {fs:List (Str×V)} {f:Str} {v:V} {A:Around} {E:Value→Shared→Prop}
end
section
variable {X:Cx} {o e value:Expr} {f:Str} {pos pos' tpos:Pos} {ta tv:TE}
end
section
variable {X:Cx} {pins:List (Addr×Obj)} {σ:St} {H:Hp} {s:Shared} {A:Around} {E:Value→Shared→Prop} {Q:Value→Shared→Prop} {c:Value} {b:Bool}
end
structure Room (k:Nat) (A:Around):Prop where
 hd:A.handled=none
 dp:A.depth+3 * k+5<recursionLimit
 un:A.units+16 * k+200<cLine
 gd:A.guards=some []
theorem Room.mono {j k:Nat}{A:Around} (r:Room k A) (h:j≤k):Room j A:=⟨r.hd,by have:=r.dp;omega,by have:=r.un;omega,r.gd⟩
theorem Room.deeper {k:Nat}{A:Around} (r:Room (k+1) A) (env:Env):Room k (A.deeper env) :=
 ⟨r.hd,by have:=r.dp;show A.depth+1+3 * k+5<_;omega,by have:=r.un;show A.units+3+16 * k+200<_;omega,by first | exact r.gd | (simpa [Around.deeper] using r.gd)⟩
theorem ZiJ {A:Around}{C:Addr}{us:List Value}{kw:List (Str×Value)}:(A.under (.builtin "type.__call__" ⟨.ref C :: us,kw⟩)).depth=A.depth+1:=by
 first | rfl | simp [Around.under,Code.weight,Code.isCreation,Code.isGuard,Code.isCaller,Code.frames,Code.isFrame,guardIds]
theorem ZiK {A:Around}{C:Addr}{us:List Value}{kw:List (Str×Value)}:(A.under (.builtin "type.__call__" ⟨.ref C :: us,kw⟩)).units=A.units+1:=by
 first | rfl | simp [Around.under,Code.cUnits,Code.frames,Code.isFrame]
theorem Room.make {k:Nat}{A:Around} (r:Room (k+1) A) (C:Addr) (us:List Value) (kw:List (Str×Value)):Room k (A.under (.builtin "type.__call__" ⟨.ref C :: us,kw⟩)) :=
 ⟨r.hd,by have:=r.dp;rw [ZiJ];omega,by have:=r.un;rw [ZiK];omega,by first | exact r.gd | (simpa [Around.under,Code.isGuard,guardIds] using r.gd)⟩
theorem Room.depth {k:Nat}{A:Around} (r:Room k A):A.depth<recursionLimit:=by have:=r.dp;omega
theorem Room.units {k:Nat}{A:Around} (r:Room k A):A.units+64<cLine:=by have:=r.un;omega
def tNil:TA:=fun _ H Q=>Q [] H
def Zhq (ta:TE) (tr:TA):TA:=fun σ H Q=>ta σ H fun x H1=>tr σ H1 fun xs H2=>Q (x :: xs) H2
section
variable {X:Cx} {e:Expr} {es:List Expr} {te:TE} {t:TA} {pos:Pos}
theorem Zab:PA X [] tNil:=fun _ _ _ _ H Q I h=>Calls.spliced_nil ⟨[],H,I,.nil,h⟩
theorem Zaa (ha:PE X e te) (hr:PA X es t) (hs:starEach (e :: es) X.env=(false,eval e X.env) :: starEach es X.env:=by rfl):PA X (e :: es) (Zhq te t):=by
 intro pos pins s σ H Q I h;rw [hs];show wpAny _ _ (spliced ((false,eval e X.env) :: backTo pos (starEach es X.env))) _ _ s;refine Calls.spliced_cons (thn (ha pins s σ H _ I h) fun u s1 ⟨x,H1,I1,r1,q1⟩=>?_);exact thn (hr pos pins s1 σ H1 _ I1 q1) fun us s2 ⟨xs,H2,I2,r2,q2⟩=>⟨x :: xs,H2,I2,.cons r1 r2,q2⟩
def tTup (t:TA):TE:=fun σ H Q=>t σ H fun xs H1=>xs.length≤sizeLine∧∀ p,H1 p=none→Q (.ref p) (upd H1 p (.tup xs))
def tLst (t:TA):TE:=fun σ H Q=>t σ H fun xs H1=>xs.length≤sizeLine∧∀ p,H1 p=none→Q (.ref p) (upd H1 p (.lst xs))
theorem ZcO {x1} (h:PA X es t):PE X (.Tuple es x1 pos) (tTup t):=by
 intro pins s σ H Q I hq;refine wpAny_Tuple_spliced (thn (h pos pins s σ H _ I hq) fun us s1 ⟨xs,H1,I1,r,z,q⟩=>⟨by rw [←r.length];exact z,?_⟩);have hf:H1 s1.heap.objs.size=none:=I1.hok.fresh (XaS _);refine ⟨.ref s1.heap.objs.size,upd H1 s1.heap.objs.size (.tup xs),I1.laid (t':=s1.toks) (fun b u e=>Xbk _ e) (XaS _) ?_,rfl,q _ hf⟩;exact ⟨z,us,r,⟨_,Xbm _ rfl,rfl,_,rfl⟩⟩
theorem Zaz (h:PA X es t):PE X (.List es pos) (tLst t):=by
 intro pins s σ H Q I hq;refine wpAny_List_spliced (thn (h pos pins s σ H _ I hq) fun us s1 ⟨xs,H1,I1,r,z,q⟩=>⟨by rw [←r.length];exact z,?_⟩);have hf:H1 s1.heap.objs.size=none:=I1.hok.fresh (XaS _);refine ⟨.ref s1.heap.objs.size,upd H1 s1.heap.objs.size (.lst xs),I1.laid (t':=s1.toks) (fun b u e=>Xbk _ e) (XaS _) ?_,rfl,q _ hf⟩;exact ⟨z,us,0,r,Xbm _ rfl⟩
end
abbrev Sp:=List V→Hp→VK→XK→Prop
abbrev CXT:=List Env→Hp→Shared→XK→Value→Shared→Prop
structure Env0 (P:Program) (w:World) (K:XFg) (mg:Str→Option Value) (base:Heap) (A:Around) (outer:List Env) (s:Shared) (H:Hp):Prop where
 frames:A.frames=some outer
 mod:Mod K mg base
 bs:∀ b o,base.get? b=some o→s.heap.get? b=some o∧H b=none
 bsz:base.objs.size≤s.heap.objs.size
 funs:s.heap.FunFrames base outer
 frf:∀ b∈frs outer,H b=none
 hok:HOk P w H s.heap
 bare:AllBare s.gens
def CE (outer:List Env) (P:Program) (w:World) (H:Hp) (s:Shared) (Q:VK) (u:Value) (s':Shared):Prop :=
 ∃ v H',s'.os=s.os∧AllBare s'.gens∧Un (frs outer) [] H H' s.heap s'.heap∧HOk P w H' s'.heap∧RelV v u∧Q v H'
def CR (CX:CXT) (outer:List Env) (P:Program) (w:World) (H:Hp) (s:Shared) (Q:VK) (E:XK) (r:Result) (s':Shared):Prop :=
 match r with
 | .ok (.ret u)=>CE outer P w H s Q u s'
 | .ok _=>False
 | .error e=>CX outer H s E e s'
structure FnOk (P:Program) (w:World) (K:XFg) (mg:Str→Option Value) (base:Heap) (CX:CXT) (k:Nat) (f:Addr) (fd:FuncData) (ps:List Str) (sp:Sp):Prop where
 len:∀ vs H Q E,sp vs H Q E→vs.length=ps.length
 run:∀ (A:Around) (outer:List Env) (s:Shared) (H:Hp) (args:Args) (us:List Value) (vs:List V) (Q:VK) (E:XK),Room k A→Env0 P w K mg base A outer s H→BindsTo s fd args (ps.zip us)→Vals vs us→sp vs H Q E →
  codeAny (model P w) A (.call (.ref f) args) (CR CX outer P w H s Q E) s
theorem Env0.make {P:Program}{w:World}{K:XFg}{mg:Str→Option Value}{base:Heap}{A:Around}{outer:List Env}{s:Shared}{H:Hp} (e:Env0 P w K mg base A outer s H) (C:Addr) (us:List Value) (kw:List (Str×Value)) :
 Env0 P w K mg base (A.under (.builtin "type.__call__" ⟨.ref C :: us,kw⟩)) outer s H:=⟨by first | exact e.frames | (simpa [Around.under,Code.envs,Code.isFrame,pushEnvs] using e.frames),e.mod,e.bs,e.bsz,e.funs,e.frf,e.hok,e.bare⟩
section
variable {X:Cx} {pins:List (Addr×Obj)} {σ:St} {H:Hp} {s s':Shared}
theorem Inv.env0 (I:Inv X pins σ H s):Env0 X.prog X.w X.K X.mg X.base X.A X.stack s H :=
 ⟨I.ok.frames,I.ok.mod,I.bs,Xbc I.ok.bsz I.sz,I.stack,I.stkFree,I.hok,I.bare⟩
theorem Inv.after {Q:VK}{u:Value} (I:Inv X pins σ H s) (h:CE X.stack X.prog X.w H s Q u s'):EP X pins σ Q u s':=by
 obtain ⟨v,H',os,bare,un,hok,r,q⟩:=h;obtain ⟨hh,g,d,t,os'⟩:=s';obtain rfl:os'=s.os:=os;exact ⟨v,H',I.call (h':=hh) (g':=g) (d':=d) (t':=t) (ch:=[]) un hok bare (fun b z=>absurd z (by simp)),r,q⟩
end
def ZkE (sp:Sp) (dvs:List V) (E:XK) (t:TA):TE:=fun σ H Q=>t σ H fun vs H1=>sp (vs++dvs) H1 Q E
def Binds (K:XFg) (fd:FuncData) (ps:List Str) (ds:List Value):Prop :=
 ∀ (s:Shared) (us:List Value),K.In s.heap→(us++ds).length=ps.length→BindsTo s fd ⟨us,[]⟩ (ps.zip (us++ds))
theorem Binds.all {K:XFg}{fd:FuncData}{ps:List Str} (h:∀ us:List Value,us.length=ps.length→bindArgs fd ⟨us,[]⟩=pure (ps.zip us)):Binds K fd ps []:=fun s us _ hl=>by
 rw [XaH] at hl ⊢;exact .of_eq (h us hl)
def ZhV (CX:CXT) (X:Cx) (E:XK):Prop:=∀ (pins:List (Addr×Obj)) (σ:St) (H:Hp) (s:Shared) (e:Value) (s':Shared),Inv X pins σ H s→CX X.stack H s E e s'→X.xe e s'
section
variable {X:Cx} {CX:CXT} {k:Nat} {f C:Addr} {fd:FuncData} {ps:List Str} {sp:Sp} {dvs:List V} {ds:List Value} {E:XK} {x m:Str} {p pos apos:Pos} {e o:Expr} {es:List Expr} {ta:TE} {t:TA}
theorem run_fn {pins:List (Addr×Obj)} {σ:St} {H:Hp} {s:Shared} {Q:VK} {us:List Value} {vs:List V} (F:FnOk X.prog X.w X.K X.mg X.base CX k f fd ps sp) (hr:Room k X.A) (hb:Binds X.K fd ps ds) (hd:Vals dvs ds) (hx:ZhV CX X E)
 (I:Inv X pins σ H s) (r:Vals vs us) (h:sp (vs++dvs) H Q E):wpAny (model X.prog X.w) X.A (call (.ref f) us) (EP X pins σ Q) X.xe s:=by
 have r2:Vals (vs++dvs) (us++ds):=r.append hd
 have hl:(us++ds).length=ps.length:=by rw [←r2.length];exact F.len _ _ _ _ h
 refine wpAny_call (codeAny_mono (F.run X.A X.stack s H ⟨us,[]⟩ (us++ds) (vs++dvs) Q E hr I.env0 (hb s us I.kIn hl) r2 h) fun r s' hq=>?_)
 cases r with
 | error e=>exact hx pins σ H s e s' I hq
 | ok fl =>
   cases fl with
   | ret u=>exact I.after hq
   | next=>exact False.elim hq
   | brk=>exact False.elim hq
   | cont=>exact False.elim hq
theorem Zju (F:FnOk X.prog X.w X.K X.mg X.base CX k f fd ps sp) (hr:Room k X.A) (hg:Gl X x) (hm:X.mg x=some (.ref f)) (hk:PySem.W.keepIn X.K (.ref f)=true) (hb:Binds X.K fd ps ds) (hd:Vals dvs ds) (hx:ZhV CX X E)
 (ha:PA X (e :: es) t) (hdb:(x == ("__debug__" : Str))=false:=by decide) (he:starEach (e :: es) X.env=(false,eval e X.env) :: starEach es X.env:=by rfl) (hpl:(backTo pos (starEach es X.env)).any (·.1)=false:=by rfl) :
 PE X (.Call (.Name x p) (e :: es) [] pos) (ZkE sp dvs E t):=by
 intro pins s σ H Q I h;refine wpAny_Call_Name_kw (Zdw I hg hm ?_ hdb);refine PySem.W.callWith_K (h₀:=X.base) I.ok.mod.kin hk (thn (ha pos pins s σ H _ I h) fun us s1 ⟨vs,H1,I1,r,q⟩=>⟨I1.kIn,?_⟩) he hpl;exact run_fn F hr hb hd hx I1 r q
end
section
variable {X:Cx} {CX:CXT} {k:Nat} {f C:Addr} {fd:FuncData} {ps ks:List Str} {sp:Sp} {E:XK} {x m:Str} {p pos apos kpos:Pos} {e o:Expr} {es:List Expr} {kws:List Keyword} {te ta:TE} {t tk:TA} {nm:Option Str}
variable {g:List Value→List Value→List Value} {gV:List V→List V→List V}
end
structure FnScope (N P:List Str) (sc:Scope):Prop where
 kind:sc.kind=.function
 co:sc.isCoroutine=false
 gen:sc.isGenerator=false
 nd:N.Nodup
 pre:N.take P.length=P
 par:∀ x∈P,sc.names.lookup x=some .local∨sc.names.lookup x=some .cell
 nofree:∀ y∈sc.names,y.2≠.free
theorem ZgA {kindOf:Str→Option NameKind}{x:Str}:∀ {binds:List (Str×Value)} {m:Str→Option Value},(∀ v,(x,v) ∉ binds)→bindL kindOf binds m x=m x
 | [],_,_=>rfl
 | (n,v) :: r,m,h=>by
   unfold bindL;rw [ZgA fun w hw=>h w (Xap _ hw)]
   split
   · have:x≠n:=by rintro rfl;exact h v Xal
     simp [this]
   · rfl
theorem ZgB {kindOf:Str→Option NameKind}{x:Str}:∀ {binds:List (Str×Value)} {m:Str→Option Value},(∀ v,(x,v) ∉ binds)→bindC kindOf binds m x=m x
 | [],_,_=>rfl
 | (n,v) :: r,m,h=>by
   unfold bindC;rw [ZgB fun w hw=>h w (Xap _ hw)]
   split
   · rfl
   · have:x≠n:=by rintro rfl;exact h v Xal
     simp [this]
theorem ZgC {kindOf:Str→Option NameKind}{x:Str}{v:Value}:∀ {P:List Str}{vs:List Value}{i:Nat}{m:Str→Option Value},P.Nodup→P[i]?=some x→vs[i]?=some v→kindOf x=some .local →
 bindL kindOf (P.zip vs) m x=some v
 | [],_,_,_,_,h,_,_=>by simp at h
 | _ :: _,[],_,_,_,_,h,_=>by simp at h
 | p :: P,w :: vs,0,m,nd,h1,h2,hk=>by
   simp at h1 h2;subst h1;subst h2;show bindL kindOf ((p,w) :: P.zip vs) m p=_;unfold bindL;rw [ZgA fun v hv=>(XaC.mp nd).1 (List.of_mem_zip hv).1,Xba hk]
   simp
 | p :: P,w :: vs,i+1,m,nd,h1,h2,hk=>by
   show bindL kindOf ((p,w) :: P.zip vs) m x=_;unfold bindL;exact ZgC (i:=i) (XaC.mp nd).2 (by simpa using h1) (by simpa using h2) hk
theorem ZgD {kindOf:Str→Option NameKind}{x:Str}{v:Value}:∀ {P:List Str}{vs:List Value}{i:Nat}{m:Str→Option Value},P.Nodup→P[i]?=some x→vs[i]?=some v→kindOf x≠some .local →
 bindC kindOf (P.zip vs) m x=some v
 | [],_,_,_,_,h,_,_=>by simp at h
 | _ :: _,[],_,_,_,_,h,_=>by simp at h
 | p :: P,w :: vs,0,m,nd,h1,h2,hk=>by
   simp at h1 h2;subst h1;subst h2;show bindC kindOf ((p,w) :: P.zip vs) m p=_;unfold bindC;rw [ZgB fun v hv=>(XaC.mp nd).1 (List.of_mem_zip hv).1,Xa9 hk]
   simp
 | p :: P,w :: vs,i+1,m,nd,h1,h2,hk=>by
   show bindC kindOf ((p,w) :: P.zip vs) m x=_;unfold bindC;exact ZgD (i:=i) (XaC.mp nd).2 (by simpa using h1) (by simpa using h2) hk
def start (N:List Str) (vs:List V):St:=vs.map some++List.replicate (N.length - vs.length) none
def cxOf (CX:CXT) (P:Program) (w:World) (K:XFg) (mg:Str→Option Value) (base:Heap) (N:List Str) (qual:Str) (scope:Scope) (f:Addr) (cd:Value) (A:Around) (outer:List Env) (s:Shared) (H:Hp) (E:XK):Cx where
 prog:=P
 w:=w
 K:=K
 mg:=mg
 base:=base
 A:=A.deeper (envOfC qual scope s.heap.objs.size f cd)
 N:=N
 s₀:=s
 H₀:=H
 env:=envOfC qual scope s.heap.objs.size f cd
 outer:=outer
 stack:=envOfC qual scope s.heap.objs.size f cd :: outer
 ex:=[]
 calm:=true
 fn:=fun _=>true
 pn:=[]
 xe:=fun e s'=>wpAny (model P w) (A.deeper (envOfC qual scope s.heap.objs.size f cd)) (leaving (envOfC qual scope s.heap.objs.size f cd) e) (fun _ s''=>CX outer H s E e s'') (fun e' s''=>CX outer H s E e' s'') s'
theorem ZhW {sc:Scope}{n:Nat}{x:Str} (h:sc.names.lookup x=some .cell):∃ c,(cellsFrom n sc.names []).lookup x=some c:=by
 have q:=PySem.W.cellsFrom_some sc.names n [] (.inl h);exact Option.isSome_iff_exists.mp q
theorem Zjv {CX:CXT}{P:Program}{w:World}{K:XFg}{mg:Str→Option Value}{base:Heap}{N ps:List Str}{qual:Str}{scope:Scope}{f:Addr}{cd:Value}{A:Around}{outer:List Env}{s s1:Shared}{H:Hp}{E:XK}{us:List Value}{vs:List V}
 (S:FnScope N ps scope) (hd:A.handled=none) (e0:Env0 P w K mg base A outer s H) (hl:vs.length=ps.length) (r:Vals vs us)
 (x:InCallC s s.heap.objs.size (bindL (envOfC qual scope s.heap.objs.size f cd).kindOf (ps.zip us) fun _=>none) (cellsFrom (s.heap.objs.size+1) scope.names []) (bindC (envOfC qual scope s.heap.objs.size f cd).kindOf (ps.zip us) fun _=>none) s1) :
 Inv (cxOf CX P w K mg base N qual scope f cd A outer s H E) [] (start N vs) H s1:=by
 have hpl:ps.length≤N.length:=by have:=Xbf List.length S.pre;rw [Xaw] at this;omega
 obtain ⟨h1,tk,rfl,hk⟩:=x.done;have noA:∀ b:Addr,b ∉ (cxOf CX P w K mg base N qual scope f cd A outer s H E).ex:=fun b z=>absurd (show b∈([]:List Addr) from z) (by simp)
 refine ⟨⟨e0.mod,S.kind,rfl,rfl,XaS _,fun y z c h1 h2=>?_,fun y hy=>?_,fun y c _ h=>?_,fun _=>hd,Around.frames_deeper e0.frames,.inr ⟨rfl,rfl⟩,fun b z=>absurd z (noA b),e0.bs,e0.bsz,fun b _ _=>noA b,fun b z=>absurd z (noA b),e0.funs,e0.frf⟩,
  rfl,e0.bare,Un.kept hk,⟨_,x.toInCall.ns,fun i y v h1 h2 h3=>?_⟩,fun y c h=>⟨_,x.cell y c h⟩,e0.hok.fresh (XaS _),fun y c h=>?_,fun p hp=>absurd (show p∈([]:List (Addr×Obj)) from hp) (by simp),e0.hok.kept hk,?_⟩
 · exact name_of_addr x.apart (Xbp h1) (Xbp h2)
 · have hy:scope.names.lookup y=some .cell∨scope.names.lookup y=some .free:=hy
   rcases hy with hy | hy
   · exact ZhW hy
   · exact absurd rfl (S.nofree _ (Xbp hy))
 · exact XaU (x.above y c (Xbp h))
 · have hi:i<vs.length:=by
    unfold start at h2
    by_cases hi:i<vs.length
    · exact hi
    · rw [Xay (by simpa using hi)] at h2
      rw [List.getElem?_replicate] at h2
      split at h2 <;> cases h2
   have ha:vs[i]?=some v:=by
    unfold start at h2;rw [Xat (by simpa using hi),Xag] at h2
    cases e:vs[i]? with
    | none=>rw [e] at h2;cases h2
    | some a=>rw [e] at h2;cases h2;rfl
   obtain ⟨u,hu,rv⟩:=r.get ha
   have hp:ps[i]?=some y:=by
    rw [←S.pre,List.getElem?_take_of_lt (by omega)];exact h1
   have ndP:ps.Nodup:=by rw [←S.pre];exact S.nd.sublist (List.take_sublist _ _)
   refine ⟨u,rv,?_⟩
   rcases S.par y (Xah hp) with k | k
   · exact .inl ⟨k,ZgC ndP hp hu k⟩
   · obtain ⟨c,e⟩:=ZhW (n:=s.heap.objs.size+1) k
     refine .inr ⟨.inl k,c,e,?_⟩;have q:=x.cell y c e;rw [ZgD ndP hp hu (by show scope.names.lookup y≠_;rw [k];decide)] at q;exact q
 · exact e0.hok.fresh (XaU (x.above y c (Xbp h)))
 · unfold start
   show _=N.length;rw [Xac,Xaa,List.length_replicate];omega
theorem fn_of {CX:CXT}{P:Program}{w:World}{K:XFg}{mg:Str→Option Value}{base:Heap}{k:Nat}{f:Addr}{name qual:Str}{params:Arguments}{body:List Stmt}{scope:Scope}{dV kV doc pm cdv ct oc:Value}{an od:Option Addr}
 {osl:Array (Option Value)} {N ps:List Str} {sp:Sp} (lk:K.lookup f=some ⟨oc,od,.func (PySem.W.fnOf name qual params body scope dV kV doc pm an cdv ct),osl⟩) (hcd:PySem.W.codeIn K cdv qual=true) (S:FnScope N ps scope)
 (len:∀ vs H Q E,sp vs H Q E→vs.length=ps.length)
 (hbody:∀ (A:Around) (outer:List Env) (s:Shared) (H:Hp) (vs:List V) (Q:VK) (E:XK),Room k (A.deeper (envOfC qual scope s.heap.objs.size f cdv))→sp vs H Q E →
  ∃ t,PSs (cxOf CX P w K mg base N qual scope f cdv A outer s H E) body t∧t { nx:=fun _ H'=>Q .non H',rt:=Q } (start N vs) H) :
 FnOk P w K mg base CX (k+1) f (PySem.W.fnOf name qual params body scope dV kV doc pm an cdv ct) ps sp:=by
 refine ⟨len,fun A outer s H args us vs Q E hr e0 hb r hsp=>?_⟩;have hl:=len _ _ _ _ hsp;have KX:K.In s.heap:=e0.mod.kin.keeps fun b o e=>(e0.bs b o e).1;have lim:s.heap.NoLimit:=e0.mod.nolimit.keeps fun b o e=>(e0.bs b o e).1
 have hkind:∀ y∈ps.zip us,scope.names.lookup y.1=some .local∨(scope.names.lookup y.1=some .cell∧((cellsFrom (s.heap.objs.size+1) scope.names []).lookup y.1).isSome=true):=fun ⟨n,v⟩ hy=>by
  rcases S.par n (List.of_mem_zip hy).1 with q | q
  · exact .inl q
  · exact .inr ⟨q,PySem.W.cellsFrom_some _ _ _ (.inl q)⟩
 refine codeAny_call_function hr.depth (KX _ _ lk) rfl S.co S.gen rfl (PySem.W.codeRec_of KX hcd) (hb _ _ _ _ ?_);refine wpAny_newFunctionEnv_cells S.kind hkind fun env he s1 x=>?_;subst he;refine ⟨lim.keeps x.toInCall.keep,codeAny_func ?_⟩;obtain ⟨t,ht,hq⟩:=hbody A outer s H vs Q E (hr.deeper _) hsp;have I:Inv (cxOf CX P w K mg base N qual scope f cdv A outer s H E) [] (start N vs) H s1:=Zjv S hr.hd e0 hl r x;refine Xbq (ht [] s1 (start N vs) H _ I hq) (fun fl s' hs=>?_) fun e s' hs=>hs
 have fin:∀ {σ':St} {H':Hp} {v:V} {u:Value},Inv (cxOf CX P w K mg base N qual scope f cdv A outer s H E) [] σ' H' s'→RelV v u→Q v H'→CE outer P w H s Q u s' :=
  fun {σ' H' v u} J rv q=>⟨v,H',J.os,J.bare,J.base,J.hok,rv,q⟩
 cases fl with
 | ret u =>
   obtain ⟨v,σ',H',J,rv,q⟩:=hs;exact fin J rv q
 | next =>
   obtain ⟨σ',H',J,q⟩:=hs;exact fin (v:=V.non) (u:=Value.none) J rfl q
 | brk =>
   obtain ⟨_,_,_,q⟩:=hs;exact False.elim q
 | cont =>
   obtain ⟨_,_,_,q⟩:=hs;exact False.elim q
section
variable {X:Cx} {x:Str} {p pos:Pos} {e:Expr} {es:List Expr} {t:TA} {id T:String} {r:List V→Hp→VK→Prop}
def tCB (r:List V→Hp→VK→Prop) (t:TA):TE:=fun σ H Q=>t σ H fun vs H1=>r vs H1 Q
theorem Zan (hc:CallR X (.builtin id) r) (hm:X.mg x=none) (ha:PA X (e :: es) t) (hg:Gl X x:=by rfl) (hv:bootBuiltins x=some (.builtin id):=by decide +kernel) (hn:x ≠ "__name__" := by decide) (hdb:(x == ("__debug__" : Str))=false:=by decide)
 (he:starEach (e :: es) X.env=(false,eval e X.env) :: starEach es X.env:=by rfl) (hpl:(backTo pos (starEach es X.env)).any (·.1)=false:=by rfl):PE X (.Call (.Name x p) (e :: es) [] pos) (tCB r t):=by
 intro pins s σ H Q I h;refine wpAny_Call_Name_kw (ZhS I hg hm hv ?_ hn hdb);exact PyProof.Rows.callWith_builtin1 (thn (ha pos pins s σ H _ I h) fun us s1 ⟨vs,H1,I1,r1,q1⟩=>hc pins s1 σ H1 vs us Q I1 r1 q1) he hpl
theorem Zcu (hc:CallR X (.type T) r) (hm:X.mg x=none) (ha:PA X (e :: es) t) (hg:Gl X x:=by rfl) (hv:bootBuiltins x=some (.type T):=by decide +kernel) (hn:x ≠ "__name__" := by decide) (hdb:(x == ("__debug__" : Str))=false:=by decide)
 (he:starEach (e :: es) X.env=(false,eval e X.env) :: starEach es X.env:=by rfl) (hpl:(backTo pos (starEach es X.env)).any (·.1)=false:=by rfl):PE X (.Call (.Name x p) (e :: es) [] pos) (tCB r t):=by
 intro pins s σ H Q I h;refine wpAny_Call_Name_kw (ZhS I hg hm hv ?_ hn hdb);exact PyProof.Rows.callWith_type1 (thn (ha pos pins s σ H _ I h) fun us s1 ⟨vs,H1,I1,r1,q1⟩=>hc pins s1 σ H1 vs us Q I1 r1 q1) he hpl
end
end L2
namespace HT
open PySem PyProof.Rows
section
open PySem.SeqAt
open PySem.AutoSeq1 (wpAny_loadPart')
open PySem.MeetsSeq PySem.MeetsSeq2 PySem.MeetsSeq3
end
section
variable {prog:Program} {w:World} {A:Around} {E:Value→Shared→Prop} {s:Shared}
def sIx (n d:Nat):Option Int→Nat
 | none=>d
 | some v=>if v<0 then (v+(n:Int)).toNat else min v.toNat n
theorem sIx_none (n d:Nat):sIx n d none=d:=rfl
theorem sIx_nat (n d k:Nat):sIx n d (some (k:Int))=min k n:=by
 show (if (k:Int)<0 then ((k:Int)+(n:Int)).toNat else min (k:Int).toNat n)=min k n;rw [Xa9 (by omega),Xa0]
end
end HT
namespace L2
open PySem PySem.Spec PyProof.Rows
abbrev TO:=St→Hp→(Option Int→Hp→Prop)→Prop
def PO (X:Cx) (e:Option Expr) (t:TO):Prop :=
 ∀ (pins:List (Addr×Obj)) (s:Shared) (σ:St) (H:Hp) (Q:Option Int→Hp→Prop),Inv X pins σ H s→t σ H Q →
  wpAny (model X.prog X.w) X.A (evalPart e X.env) (fun u s'=>∃ o H',Inv X pins σ H' s'∧IsPart u o∧Q o H') X.xe s
def Zjw:TO:=fun _ H Q=>Q none H
def tPart (t:TE):TO:=fun σ H Q=>t σ H fun x H1=>∃ i,x=.int i∧Q (some i) H1
section
variable {X:Cx} {e:Expr} {te:TE} {lo hi:Option Expr} {tl th:TO} {pos p2:Pos}
theorem Zdy:PO X none Zjw:=by
 intro pins s σ H Q I h;rw [evalPart_none];exact Xbh ⟨none,H,I,.none,h⟩
theorem ZcT (h:PE X e te):PO X (some e) (tPart te):=by
 intro pins s σ H Q I hw;rw [evalPart_some];refine thn (h pins s σ H _ I hw) fun u s1 ⟨x,H1,I1,r1,q1⟩=>?_;obtain ⟨i,rfl,q⟩:=q1;obtain ⟨t,rfl⟩:=r1;exact ⟨some i,H1,I1,.int i t,q⟩
def SlR (X:Cx) (r:V→Option Int→Option Int→Hp→VK→Prop):Prop :=
 ∀ (pins:List (Addr×Obj)) (s:Shared) (σ:St) (H:Hp) (x:V) (v vl vu:Value) (lo hi:Option Int) (sl:Addr) (Q:VK),Inv X pins σ H s→RelV x v→s.heap.IsSliceOf sl vl vu .none→IsPart vl lo→IsPart vu hi→r x lo hi H Q →
  ∃ T id,typeLookup (.type T) "__getitem__" = pure (some (.builtin id))∧s.TypeIs v T∧wpAny (model X.prog X.w) X.A (getItem v (.ref sl)) (EP X pins σ Q) X.xe s
def tSl (r:V→Option Int→Option Int→Hp→VK→Prop) (te:TE) (tl th:TO):TE:=fun σ H Q=>te σ H fun x H1=>tl σ H1 fun l H2=>th σ H2 fun u H3=>r x l u H3 Q
theorem ZcF {r:V→Option Int→Option Int→Hp→VK→Prop} (hr:SlR X r) (he:PE X e te) (hl:PO X lo tl) (hu:PO X hi th):PE X (.Subscript e (.Slice lo hi none p2) pos) (tSl r te tl th):=by
 intro pins s σ H Q I h;refine Subscript_ (thn (he pins s σ H _ I h) fun v s1 ⟨x,H1,I1,r1,q1⟩=>?_);refine wpAny_Slice (thn (hl pins s1 σ H1 _ I1 q1) fun vl s2 ⟨l,H2,I2,pl,q2⟩=>thn (hu pins s2 σ H2 _ I2 q2) fun vu s3 ⟨u,H3,I3,pu,q3⟩=>?_);rw [evalPart_none];refine Xbh ?_
 have I4:Inv X pins σ H3 { s3 with heap:=s3.heap.push { cls:=.type "slice",data:=.fields #[vl,vu,.none] } }:=I3.kept (t':=s3.toks) fun b ob q=>Xbk _ q
 obtain ⟨T,id,hT,ht,hg⟩:=hr pins { s3 with heap:=s3.heap.push { cls:=.type "slice",data:=.fields #[vl,vu,.none] } } σ H3 x v vl vu l u s3.heap.objs.size Q I4 r1 (Heap.IsSliceOf.new ..) pl pu q3
 show wpAny (model X.prog X.w) X.A (subscriptTail e (.Slice lo hi none p2) v (.ref s3.heap.objs.size)) (EP X pins σ Q) X.xe { s3 with heap:=s3.heap.push { cls:=.type "slice",data:=.fields #[vl,vu,.none] } }
 exact tail_any (ops:=[.ref s3.heap.objs.size,v]) ht hT hg (by with_unfolding_all rfl)
def cutV (xs:List V) (lo hi:Option Int):List V:=(xs.drop (HT.sIx xs.length 0 lo)).take (HT.sIx xs.length xs.length hi - HT.sIx xs.length 0 lo)
theorem Zhr (xs:List V) (lo hi:Option Int):(cutV xs lo hi).length≤xs.length:=by
 unfold cutV;rw [Xaw,XaF];omega
end
def ixN (n:Nat) (i:Int):Option Nat:=if 0≤i then (if i<n then some i.toNat else none) else if -(n:Int)≤i then some (i+n).toNat else none
def atI {α:Type} (xs:List α) (i:Int):Option α:=(ixN xs.length i).bind fun j=>xs[j]?
theorem Zjx {n:Nat}{i:Int}{j:Nat} (h:ixN n i=some j):seqIndex? i n=some j∧j<n∧-(n:Int)≤i∧i<n:=by
 unfold ixN at h
 by_cases h0:0≤i
 · rw [Xba h0] at h
   by_cases h1:i<n
   · rw [Xba h1] at h
     have e:i.toNat=j:=Xa8 h;exact ⟨by rw [seqIndex_of h0 h1,e],by omega,by omega,h1⟩
   · rw [Xa9 h1] at h;cases h
 · rw [Xa9 h0] at h
   by_cases h1:-(n:Int)≤i
   · rw [Xba h1] at h
     have e:(i+n).toNat=j:=Xa8 h;exact ⟨by rw [seqIndex_neg (by omega) h1,e],by omega,h1,by omega⟩
   · rw [Xa9 h1] at h;cases h
theorem Zhs {α:Type}{xs:List α}{i:Int}{v:α} (h:atI xs i=some v):∃ j,seqIndex? i xs.length=some j∧xs[j]?=some v∧j<xs.length∧-(xs.length:Int)≤i∧i<xs.length:=by
 unfold atI at h
 cases e:ixN xs.length i with
 | none=>rw [e] at h;cases h
 | some j =>
   rw [e] at h;obtain ⟨h1,h2,h3,h4⟩:=Zjx e;exact ⟨j,h1,h,h2,h3,h4⟩
theorem Zbw {α:Type}{xs:List α}{j:Nat}{v:α} (h:xs[j]?=some v):atI xs (j:Int)=some v:=by
 have hj:j<xs.length:=(Xae.mp h).1
 have e:ixN xs.length (j:Int)=some j:=by
  unfold ixN;rw [Xba (by omega),Xba (by omega)];simp
 unfold atI;rw [e];exact h
theorem ZhX {α:Type} (xs:List α) (v:α):atI (xs++[v]) (-1)=some v:=by
 have hl:(xs++[v]).length=xs.length+1:=by simp
 have e:ixN (xs++[v]).length (-1)=some xs.length:=by
  unfold ixN;rw [hl,Xa9 (by decide),Xba (by omega)];congr 1;omega
 unfold atI;rw [e];show (xs++[v])[xs.length]?=some v
 simp
def PlainIx (b:Expr):Prop:=∀ o i,subscripted b false o i=operate [o,i] (getItem o i)
def IxR (X:Cx) (r:R2):Prop :=
 ∀ (value slice:Expr) (pins:List (Addr×Obj)) (s:Shared) (σ:St) (H:Hp) (x y:V) (v u:Value) (Q:VK),Inv X pins σ H s→RelV x v→RelV y u→r x y H Q →
  subscripted slice false v u=operate [v,u] (getItem v u)→wpAny (model X.prog X.w) X.A (subscriptTail value slice v u) (EP X pins σ Q) X.xe s
def MtR (X:Cx) (id:String) (r:V→List V→Hp→VK→Prop):Prop :=
 ∀ (pins:List (Addr×Obj)) (s:Shared) (σ:St) (H:Hp) (x:V) (xs:List V) (v:Value) (us:List Value) (Q:VK),Inv X pins σ H s→RelV x v→Vals xs us→r x xs H Q →
  wpAny (model X.prog X.w) X.A (call (.builtin id) (v :: us)) (EP X pins σ Q) X.xe s
section
variable {X:Cx} {a b:Expr} {ta tb:TE} {pos:Pos}
theorem IxR.or {r r':R2} (h:IxR X r) (h':IxR X r'):IxR X (fun x y H Q=>r x y H Q∨r' x y H Q):=by
 intro value slice pins s σ H x y v u Q I rx ry q hs
 rcases q with q | q
 · exact h value slice pins s σ H x y v u Q I rx ry q hs
 · exact h' value slice pins s σ H x y v u Q I rx ry q hs
theorem ZaZ {r:R2} (hr:IxR X r) (ha:PE X a ta) (hb:PE X b tb) (hs:PlainIx b:=by exact fun _ _=>rfl):PE X (.Subscript a b pos) (tOp r ta tb):=by
 intro pins s σ H Q I h;exact Subscript_ (binT ha hb I h fun v u s2 x y H2 I2 rx ry q=>hr a b pins s2 σ H2 x y v u Q I2 rx ry q (hs _ _))
def rIxL (K:XFg):R2:=fun x y H Q=>∃ p xs i v,x=.ref p∧y=.int i∧SqL K H p xs∧atI xs i=some v∧Q v H
def rIxT (K:XFg):R2:=fun x y H Q=>∃ p xs i v,x=.ref p∧y=.int i∧SqT K H p xs∧atI xs i=some v∧Q v H
def rIxS:R2:=fun x y H Q=>∃ z i c,x=.str z∧y=.int i∧z.length≤sizeLine∧atI z.cps.toList i=some c∧Q (.str ⟨#[c]⟩) H
theorem ix_list:IxR X (rIxL X.K):=by
 intro value slice pins s σ H x y v u Q I rx ry h hs;obtain ⟨p,xs,i,z,rfl,rfl,hq,he,q⟩:=h;cases rx;obtain ⟨t,rfl⟩:=ry;obtain ⟨its,r,pl,hz⟩:=I.list hq;obtain ⟨j,h1,h2,h3,h4,h5⟩:=Zhs he;obtain ⟨w,ew,rw'⟩:=r.get h2;have hl:=r.length;have hn:=ZeB;have fin:EP X pins σ Q w s:=⟨z,H,I,rw',q⟩
 by_cases h0:0≤i
 · have hj:i.toNat=j:=by
    rw [seqIndex_of h0 h5] at h1;exact Xa8 h1
   exact item_listR pl.isList h0 (by omega) (by rw [hj];simpa using ew) fin hs
 · have hj:(i+(its.toArray.size:Int)).toNat=j:=by
    rw [seqIndex_neg (by omega) h4] at h1;rw [Xak,←hl];exact Xa8 h1
   exact subscriptTail_builtinR (x:=w) pl.isList.typeIs slot_list_getitem.lookup
    (wpAny_getItem_list_neg (Q:=fun r s'=>r=w∧EP X pins σ Q r s') pl.isList (by omega) (by rw [Xak] <;> omega) (by omega) (by rw [hj];simpa using ew) ⟨rfl,fin⟩) hs
theorem ix_tup:IxR X (rIxT X.K):=by
 intro value slice pins s σ H x y v u Q I rx ry h hs;obtain ⟨p,xs,i,z,rfl,rfl,hq,he,q⟩:=h;cases rx;obtain ⟨t,rfl⟩:=ry;obtain ⟨its,r,pl,hz⟩:=I.tuple hq;obtain ⟨j,h1,h2,h3,h4,h5⟩:=Zhs he;obtain ⟨w,ew,rw'⟩:=r.get h2;have hl:=r.length;have hn:=ZeB;have fin:EP X pins σ Q w s:=⟨z,H,I,rw',q⟩
 exact subscriptTail_builtinR (x:=w) pl.typeIs slot_tuple_getitem.lookup
  (getItem_tuple (j:=j) (Q:=fun r s'=>r=w∧EP X pins σ Q r s') pl (by omega) (by omega) (by rw [Xak,←hl];exact h1) (by simpa using ew) ⟨rfl,fin⟩) hs
theorem ix_str:IxR X rIxS:=by
 intro value slice pins s σ H x y v u Q I rx ry h hs;obtain ⟨z,i,c,rfl,rfl,hz,he,q⟩:=h;obtain ⟨t,rfl⟩:=rx;obtain ⟨t',rfl⟩:=ry;obtain ⟨j,h1,h2,h3,h4,h5⟩:=Zhs he
 have hl:z.cps.toList.length=z.length:=by simp [Str.length]
 rw [hl] at h1 h4 h5;have hn:=ZeB
 exact tail_any (typeIs_str s z t) slot_str_getitem.lookup (getItem_str (c:=c) (by
  have e1:decide (i < -(2 ^ 63:Int))=false:=Xa2 (by omega);have e2:decide (i ≥ 2 ^ 63)=false:=Xa2 (by omega)
  rw [e1,e2,Bool.or_false]) (by rw [h1];simpa using h2) ⟨.str ⟨#[c]⟩,H,I.tok _,⟨_,rfl⟩,q⟩) hs
def rIx (K:XFg):R2:=fun x y H Q=>rIxL K x y H Q∨rIxT K x y H Q∨rIxS x y H Q
theorem ZaE:IxR X (rIx X.K):=ix_list.or (ix_tup.or ix_str)
theorem ZiL (its:List Value) (n j:Nat) (u:Value):Obj.mapSeq (·.setIfInBounds j u) { cls:=.type "list",data:=.seq its.toArray n }={ cls:=.type "list",data:=.seq (its.set j u).toArray n }:=by
 simp [Obj.mapSeq]
theorem Inv.lst {pins:List (Addr×Obj)} {σ:St} {H:Hp} {s:Shared} {p:Addr} {xs:List V} (I:Inv X pins σ H s) (h:H p=some (.lst xs)) :
 ∃ (its:List Value) (n:Nat),Vals xs its∧s.heap.get? p=some { cls:=.type "list",data:=.seq its.toArray n }∧xs.length≤sizeLine:=by
 obtain ⟨z,its,n,r,e⟩:=I.hok p _ h;exact ⟨its,n,r,e,z⟩
theorem Inv.lstUpd {pins:List (Addr×Obj)} {σ:St} {H:Hp} {s:Shared} {p:Addr} {xs ys:List V} {its its':List Value} {n n':Nat} {f:Obj→Obj} (I:Inv X pins σ H s) (h:H p=some (.lst xs))
 (ho:s.heap.get? p=some { cls:=.type "list",data:=.seq its.toArray n }) (hf:f { cls:=.type "list",data:=.seq its.toArray n }={ cls:=.type "list",data:=.seq its'.toArray n' }) (r:Vals ys its') (hz:ys.length≤sizeLine) (t:Nat) :
 Inv X pins σ (upd H p (.lst ys)) { s with heap:=s.heap.update p f,toks:=t }:=by
 have e:(s.heap.update p f).get? p=some { cls:=.type "list",data:=.seq its'.toArray n' }:=by
  rw [Heap.get?_update_self f ho (by rw [hf] <;> rfl),hf]
 refine I.write (x:=p) (e:=p) (by rw [h];trivial) (.inl rfl) (fun b u hb q=>(Heap.get?_update_other _ _ (Ne.symm hb)).trans q) ⟨_,e⟩ ?_;exact ⟨hz,its',n',r,e⟩
def rSetL:V→V→V→Hp→(Hp→Prop)→Prop:=fun o i v H Q=>∃ p xs k j,o=.ref p∧i=.int k∧H p=some (.lst xs)∧ixN xs.length k=some j∧Q (upd H p (.lst (xs.set j v)))
theorem ZhY:PSet X rSetL:=by
 intro pins s σ H o i v ov iv u Q I ro ri rv h;obtain ⟨p,xs,k,j,rfl,rfl,hp,hj,q⟩:=h;cases ro;obtain ⟨t,rfl⟩:=ri;obtain ⟨its,n,r,ho,hz⟩:=I.lst hp;obtain ⟨h1,h2,h3,h4⟩:=Zjx hj;have hl:=r.length;have hn:=ZeB
 have I':Inv X pins σ (upd H p (.lst (xs.set j v))) { s with heap:=s.heap.update p (Obj.mapSeq (·.setIfInBounds j u)) } :=
  I.lstUpd hp ho (ZiL its n j u) (r.set rv j) (by rw [XaD];exact hz) s.toks
 by_cases h0:0≤k
 · have hk:k.toNat=j:=by
    rw [seqIndex_of h0 h4] at h1;exact Xa8 h1
   exact PySem.W.ki_setAt ho h0 (by omega) (by rw [Xak,←hl];exact h4) (by rw [hk];exact ⟨_,I',q⟩)
 · have hk:(k+(its.toArray.size:Int)).toNat=j:=by
    rw [seqIndex_neg (by omega) h3] at h1;rw [Xak,←hl];exact Xa8 h1
   exact PySem.W.ki_setBack ho (by omega) (by rw [Xak,←hl];exact h3) (by omega) (by rw [hk];exact ⟨_,I',q⟩)
theorem ZgE (lo hi:Option Int) (n:Nat):(sliceBounds lo hi none n).1=((HT.sIx n 0 lo:Nat):Int)∧(sliceBounds lo hi none n).2.1=((HT.sIx n n hi:Nat):Int)∧(sliceBounds lo hi none n).2.2=1:=by
 refine ⟨?_,?_,rfl⟩
 · cases lo with
   | none=>simp [sliceBounds,HT.sIx]
   | some i =>
     simp only [sliceBounds,HT.sIx,Option.getD_none,show (1:Int) > 0 by decide,if_true]
     by_cases h:i<0
     · simp only [h,if_true] <;> omega
     · simp only [h,if_false] <;> omega
 · cases hi with
   | none=>simp [sliceBounds,HT.sIx]
   | some i =>
     simp only [sliceBounds,HT.sIx,Option.getD_none,show (1:Int) > 0 by decide,if_true]
     by_cases h:i<0
     · simp only [h,if_true] <;> omega
     · simp only [h,if_false] <;> omega
theorem ZfN (its:List Value) (lo hi:Option Int):slicePick its.toArray lo hi none=((its.drop (HT.sIx its.length 0 lo)).take (HT.sIx its.length its.length hi - HT.sIx its.length 0 lo)).toArray:=by
 obtain ⟨h1,h2,h3⟩:=ZgE lo hi its.toArray.size;unfold slicePick;rw [h1,h2,h3]
 simp only [sliceRange_one,pick_run,Xak] <;> rfl
def rSlL (K:XFg):V→Option Int→Option Int→Hp→VK→Prop:=fun x lo hi H Q=>∃ a xs,x=.ref a∧SqL K H a xs∧∀ p,H p=none→Q (.ref p) (upd H p (.lst (cutV xs lo hi)))
theorem Zc4:SlR X (rSlL X.K):=by
 intro pins s σ H x v vl vu lo hi sl Q I rx hs pl pu h;obtain ⟨a,xs,rfl,hx,q⟩:=h;cases rx;obtain ⟨its,r,ht,hz⟩:=I.list hx;have hlen:=r.length
 refine ⟨"list",_,slot_list_getitem.lookup,ht.isList.typeIs,?_⟩
 refine wpAny_getItem_list_slice ht.isList hs pl pu .none (by simp) ?_ (by rw [Xak] <;> omega)
 rw [ZfN,←hlen];refine ⟨.ref s.heap.objs.size,_,I.laid (t':=s.toks) (o:=.lst (cutV xs lo hi)) (fun b ob q=>Xbk _ q) (XaS _) ?_,rfl,q _ (I.hok.fresh (XaS _))⟩;exact ⟨Xbc (Zhr xs lo hi) hz,_,0,(r.drop (HT.sIx xs.length 0 lo)).take (HT.sIx xs.length xs.length hi - HT.sIx xs.length 0 lo),Xbm _ rfl⟩
def ZfO:V→Bool
 | .non=>true
 | .bl _=>true
 | .int _=>true
 | .str _=>true
 | _=>false
def eqV:V→V→Bool
 | .non,.non=>true
 | .bl a,.bl b=>a == b
 | .bl a,.int b=>(if a then 1 else 0) == b
 | .int a,.bl b=>a == (if b then 1 else 0)
 | .int a,.int b=>a == b
 | .str a,.str b=>a == b
 | _,_=>false
theorem eqAt_V {A:Around}{s:Shared}{y x:V}{u v:Value} (ry:RelV y u) (rx:RelV x v) (fy:ZfO y=true) (fx:ZfO x=true):SeqAt.EqAt A s u v (eqV y x):=by
 cases y with
 | non =>
   cases ry
   cases x with
   | non=>cases rx;exact SeqAt.EqAt.same _
   | bl b=>cases rx;exact SeqAt.EqAt.none_bool b
   | int b=>obtain ⟨t,rfl⟩:=rx;exact SeqAt.EqAt.none_int b t
   | str b=>obtain ⟨t,rfl⟩:=rx;exact SeqAt.EqAt.none_str b t
   | _=>exact absurd (show false=true from fx) Xa7
 | bl a =>
   cases ry
   cases x with
   | non=>cases rx;exact SeqAt.EqAt.bool_none a
   | bl b=>cases rx;exact SeqAt.EqAt.bool_bool a b
   | int b=>obtain ⟨t,rfl⟩:=rx;exact SeqAt.EqAt.bool_int a b t
   | str b=>obtain ⟨t,rfl⟩:=rx;exact SeqAt.EqAt.bool_str a b t
   | _=>exact absurd (show false=true from fx) Xa7
 | int a =>
   obtain ⟨t',rfl⟩:=ry
   cases x with
   | non=>cases rx;exact SeqAt.EqAt.int_none a t'
   | bl b=>cases rx;exact SeqAt.EqAt.int_bool a t' b
   | int b=>obtain ⟨t,rfl⟩:=rx;exact SeqAt.EqAt.int_int a t' b t
   | str b=>obtain ⟨t,rfl⟩:=rx;exact SeqAt.EqAt.int_str a t' b t
   | _=>exact absurd (show false=true from fx) Xa7
 | str a =>
   obtain ⟨t',rfl⟩:=ry
   cases x with
   | non=>cases rx;exact SeqAt.EqAt.str_none a t'
   | bl b=>cases rx;exact SeqAt.EqAt.str_bool a t' b
   | int b=>obtain ⟨t,rfl⟩:=rx;exact SeqAt.EqAt.str_int a t' b t
   | str b=>obtain ⟨t,rfl⟩:=rx;exact SeqAt.EqAt.str_str a t' b t
   | _=>exact absurd (show false=true from fx) Xa7
 | _=>exact absurd (show false=true from fy) Xa7
def eqU (x:V) (u:Value):Bool:=match u with
 | .none=>eqV .non x
 | .bool b=>eqV (.bl b) x
 | .int i _=>eqV (.int i) x
 | .str z _=>eqV (.str z) x
 | _=>false
theorem eqU_of {x y:V}{u:Value} (r:RelV y u) (f:ZfO y=true):eqU x u=eqV y x:=by
 cases y with
 | non=>cases r;rfl
 | bl b=>cases r;rfl
 | int i=>obtain ⟨t,rfl⟩:=r;rfl
 | str z=>obtain ⟨t,rfl⟩:=r;rfl
 | _=>exact absurd (show false=true from f) Xa7
theorem Zht {x:V}:∀ {xs:List V}{us:List Value},Vals xs us→xs.all ZfO=true→us.any (eqU x)=xs.any fun y=>eqV y x
 | _,_,.nil,_=>rfl
 | y :: xs,u :: us,.cons r t,f=>by
   rw [List.all_cons,Bool.and_eq_true] at f;rw [List.any_cons,List.any_cons,eqU_of r f.1,Zht t f.2]
theorem ZfP {A:Around}{s:Shared}{x:V}{v:Value} (rx:RelV x v) (fx:ZfO x=true):∀ {xs:List V} {us:List Value},Vals xs us→xs.all ZfO=true→∀ u∈us,SeqAt.EqAt A s u v (eqU x u)
 | _,_,.nil,_=>fun u hu=>by cases hu
 | y :: xs,u :: us,.cons r t,f=>fun u' hu=>by
   rw [List.all_cons,Bool.and_eq_true] at f
   rcases Xam.mp hu with rfl | hu
   · rw [eqU_of r f.1];exact eqAt_V r rx f.1 fx
   · exact ZfP rx fx t f.2 u' hu
def inV (x:V) (xs:List V):Bool:=xs.any fun y=>eqV y x
def rIn (K:XFg) (neg:Bool):R2:=fun x y H Q=>∃ p xs,y=.ref p∧(SqL K H p xs∨SqT K H p xs)∧ZfO x=true∧xs.all ZfO=true∧Q (.bl (if neg then !inV x xs else inV x xs)) H
theorem ZgF:OpR X (compareOp .In) (rIn X.K false):=by
 intro pins s σ H x y v u Q I rx ry h;obtain ⟨p,xs,rfl,hq,fx,fs,q⟩:=h;cases ry
 rcases hq with hq | hq
 · obtain ⟨its,r,pl,hz⟩:=I.list hq
   refine SeqAt.in_listAt (eqU x) pl.isList (fun w hw=>ZfP rx fx r fs w (by simpa using hw)) ⟨.bl _,H,I,rfl,?_⟩;rw [show its.toArray.any (eqU x)=its.any (eqU x) by simp,Zht r fs];exact q
 · obtain ⟨its,r,pl,hz⟩:=I.tuple hq
   refine SeqAt.in_tupleAt (eqU x) pl (fun w hw=>ZfP rx fx r fs w (by simpa using hw)) ⟨.bl _,H,I,rfl,?_⟩;rw [show its.toArray.any (eqU x)=its.any (eqU x) by simp,Zht r fs];exact q
theorem ZgG:CallR X (.type "list") (fun xs H Q=>∃ p ys,xs=[.ref p]∧(SqL X.K H p ys∨SqT X.K H p ys)∧∀ l,H l=none→Q (.ref l) (upd H l (.lst ys))):=by
 intro pins s σ H xs us Q I r h;obtain ⟨p,ys,rfl,hq,q⟩:=h;obtain ⟨u,rfl,rx⟩:=Zdx r;cases rx
 have fin:∀ (its:List Value),Vals ys its→ys.length≤sizeLine→∀ (h':Heap) (c':Nat),(∀ b o',s.heap.get? b=some o'→h'.get? b=some o') →
  h'.get? s.heap.objs.size=some { cls:=.type "list",dict:=none,data:=.seq its.toArray c',slots:=#[] }→EP X pins σ Q (.ref s.heap.objs.size) { s with heap:=h' }:=fun its r' hz h' c' kp e =>
  ⟨.ref s.heap.objs.size,_,I.laid (t':=s.toks) kp (XaS _) (show ObjOk X.prog X.w _ h' _ (.lst ys) from ⟨hz,its,c',r',e⟩),rfl,q _ (I.hok.fresh (XaS _))⟩
 rcases hq with hq | hq
 · obtain ⟨its,r',pl,hz⟩:=I.list hq
   have hlen:=r'.length;obtain ⟨o,ho,hc,n,hd⟩:=pl.isList
   exact call_list_seq p (.inl rfl) ho hc hd (fun h' c' kp e=>fin its r' hz h' c' kp e) (by simp only [Xak] <;> omega)
 · obtain ⟨its,r',pl,hz⟩:=I.tuple hq
   have hlen:=r'.length;obtain ⟨o,ho,hc,n,hd⟩:=pl
   exact call_list_seq p (.inr rfl) ho hc hd (fun h' c' kp e=>fin its r' hz h' c' kp e) (by simp only [Xak] <;> omega)
theorem ZfQ:CallR X (.type "tuple") (fun xs H Q=>∃ p ys,xs=[.ref p]∧((SqL X.K H p ys∧∀ l,H l=none→Q (.ref l) (upd H l (.tup ys)))∨(SqT X.K H p ys∧Q (.ref p) H))):=by
 intro pins s σ H xs us Q I r h;obtain ⟨p,ys,rfl,h⟩:=h;obtain ⟨u,rfl,rx⟩:=Zdx r;cases rx
 rcases h with ⟨hq,q⟩ | ⟨hq,q⟩
 · obtain ⟨its,r',pl,hz⟩:=I.list hq
   have hlen:=r'.length
   refine call_tuple_list pl.isList (fun h' kp=>?_) (by simp only [Xak] <;> omega)
   have I1:Inv X pins σ H { s with heap:=h' }:=I.kept (t':=s.toks) kp
   have I2:Inv X pins σ (upd H h'.objs.size (.tup ys)) { s with heap:=h'.push { cls:=.type "tuple",data:=.seq its.toArray } } :=
    I1.laid (t':=s.toks) (fun b o e=>Xbk _ e) (XaS _) (show ObjOk X.prog X.w _ _ _ (.tup ys) from ⟨hz,its,r',IsTup.new _ _⟩)
   exact ⟨.ref h'.objs.size,_,I2,rfl,q _ (I1.hok.fresh (XaS _))⟩
 · obtain ⟨its,r',pl,hz⟩:=I.tuple hq
   exact call_tuple_same pl ⟨.ref p,H,I,rfl,q⟩
def tyV (K:XFg) (T:String) (x:V) (H:Hp):Prop:=match x with
 | .str _=>T = "str"
 | .int _=>T = "int"
 | .ref p=>(T = "list" ∧ ∃ xs,SqL K H p xs)∨(T = "tuple" ∧ ∃ o,K.lookup p=some o∧o.cls=.type "tuple" ∧ o.dict=none) ∨
  (T = "dict" ∧ ((∃ kvs,H p=some (.dK kvs))∨∃ kvs,H p=some (.dT kvs)))∨(T = "set" ∧ ∃ S n,H p=some (.set S n))
 | _=>False
theorem tyV_is {pins : List (Addr × Obj)} {σ : St} {H : Hp} {s : Shared} {T : String} {x : V} {v : Value} (I : Inv X pins σ H s) (r : RelV x v) (ty : tyV X.K T x H) :
 s.TypeIs v T∧∀ a,v=.ref a→∃ ob,s.heap.get? a=some ob∧ob.dict=none:=by
 cases x with
 | str z =>
   obtain ⟨t,rfl⟩:=r
   cases (show T = "str" from ty)
   exact ⟨typeIs_str s z t,fun _ e=>nomatch e⟩
 | int i =>
   obtain ⟨t,rfl⟩:=r
   cases (show T = "int" from ty)
   exact ⟨typeIs_int s i t,fun _ e=>nomatch e⟩
 | ref p =>
   cases r
   rcases ty with ⟨rfl,xs,hq⟩ | ⟨rfl,o,hk,hc,hd⟩ | ⟨rfl,hk⟩ | ⟨rfl,S,n,hk⟩
   · obtain ⟨its,_,pl,_⟩:=I.list hq
     refine ⟨pl.isList.typeIs,fun a e=>?_⟩;cases e;obtain ⟨o,n,e,c,hd,_⟩:=pl;exact ⟨o,e,hd⟩
   · refine ⟨⟨o,I.kIn p o hk,hc⟩,fun a e=>?_⟩
     cases e;exact ⟨o,I.kIn _ o hk,hd⟩
   · have z:∃ o,s.heap.get? p=some o∧o.ExactDict:=by
      rcases hk with ⟨kvs,hk⟩ | ⟨kvs,hk⟩
      · obtain ⟨_,_,_,_,o,_,_,e,ex,_⟩:=I.hok p _ hk
        exact ⟨o,e,ex⟩
      · obtain ⟨_,_,_,_,o,_,_,e,ex,_⟩:=I.hok p _ hk
        exact ⟨o,e,ex⟩
     obtain ⟨o,e,ex⟩:=z;refine ⟨⟨o,e,ex.1⟩,fun a e2=>?_⟩;cases e2;exact ⟨o,e,ex.2.1⟩
   · obtain ⟨o,_,_,_,e,ex,_⟩:=I.hok p _ hk
     refine ⟨⟨o,e,ex.1⟩,fun a e2=>?_⟩;cases e2;exact ⟨o,e,ex.2.1⟩
 | _=>exact False.elim ty
def tBM0 (K:XFg) (T:String) (r:V→List V→Hp→VK→Prop) (to:TE):TE:=fun σ H Q=>to σ H fun x H1=>tyV K T x H1∧r x [] H1 Q
def tBM (K:XFg) (T:String) (r:V→List V→Hp→VK→Prop) (to:TE) (t:TA):TE:=fun σ H Q=>to σ H fun x H1=>tyV K T x H1∧t σ H1 fun xs H2=>r x xs H2 Q
variable {o e:Expr} {es:List Expr} {to:TE} {t:TA} {name:Str} {apos cpos:Pos} {T id:String} {r:V→List V→Hp→VK→Prop}
theorem pe_bm0 (pa:PlainAttrs T) (slot:Slot T name id) (hty:typeOf (.builtin id)=pure (.type "method_descriptor")) (hm:MtR X id r) (ho:PE X o to)
 (hbase:attributeBase o name X.env (eval o X.env)=eval o X.env:=by rfl) (hline:(apos.endLine == cpos.line)=true:=by rfl):PE X (.Call (.Attribute o name apos) [] [] cpos) (tBM0 X.K T r to):=by
 intro pins s σ H Q I h;refine wpAny_Call_method0_late hbase hline (thn (ho pins s σ H _ I h) fun v s1 ⟨x,H1,I1,r1,ty,q1⟩=>?_);obtain ⟨h1,h2⟩:=tyV_is I1 r1 ty;exact ⟨T,id,pa,slot,hty,h1,h2,Calls.callWith_builtin rfl (PySem.evalArgs_none (hm pins s1 σ H1 x [] v [] Q I1 r1 .nil q1))⟩
theorem Za9 (pa:PlainAttrs T) (slot:Slot T name id) (hty:typeOf (.builtin id)=pure (.type "method_descriptor")) (hm:MtR X id r) (ho:PE X o to) (ha:PA X (e :: es) t)
 (hbase:attributeBase o name X.env (eval o X.env)=eval o X.env:=by rfl)
 (hfew:((backTo cpos (starEach (e :: es) X.env)).all (fun x=>!x.1) && (backToKw cpos (keywordEach [] X.env)).all (fun x=>x.1.isSome)
  && decide ((e :: es).length+([]:List Keyword).length+(if ([]:List Keyword).isEmpty then 0 else 1)<30))=true:=by rfl)
 (hline:(apos.endLine == cpos.line)=true:=by rfl) (hs:starEach (e :: es) X.env=(false,eval e X.env) :: starEach es X.env:=by rfl) (hplain:(backTo cpos (starEach es X.env)).any (·.1)=false:=by rfl) :
 PE X (.Call (.Attribute o name apos) (e :: es) [] cpos) (tBM X.K T r to t):=by
 intro pins s σ H Q I h;refine wpAny_Call_method_late hbase hfew hline rfl (thn (ho pins s σ H _ I h) fun v s1 ⟨x,H1,I1,r1,ty,q1⟩=>?_);obtain ⟨h1,h2⟩:=tyV_is I1 r1 ty;refine ⟨T,id,pa,slot,hty,h1,h2,?_⟩;have hA:=ha cpos pins s1 σ H1 _ I1 q1;rw [hs] at hA ⊢
 refine Calls.callWith_builtin (by show (false || (backTo cpos (starEach es X.env)).any (·.1))=false;rw [hplain] <;> rfl) (Calls.evalArgs_plain ?_)
 exact thn hA fun us s2 ⟨vs,H2,I2,r2,q2⟩=>hm pins s2 σ H2 x vs v us Q I2 r1 r2 q2
end
def MtM (X:Cx) (id:String) (r:V→List V→Hp→VK→Prop):Prop :=
 ∀ (pins:List (Addr×Obj)) (s:Shared) (σ:St) (H:Hp) (x:V) (xs:List V) (v:Value) (us:List Value) (Q:VK),Inv X pins σ H s→RelV x v→Vals xs us→r x xs H Q →
  wpAny (model X.prog X.w) X.A (call (.builtin id) (v :: us)) (EP X pins σ Q) X.xe s
theorem Vals.one:∀ {x:V}{us:List Value},Vals [x] us→∃ u,us=[u]∧RelV x u
 | _,_,.cons r .nil=>⟨_,rfl,r⟩
theorem Vals.zero:∀ {us:List Value},Vals [] us→us=[]
 | _,.nil=>rfl
theorem Vals.reverse {xs:List V}{us:List Value} (h:Vals xs us):Vals xs.reverse us.reverse:=by
 induction h with
 | nil=>exact .nil
 | cons r t ih=>rw [List.reverse_cons,List.reverse_cons];exact Vals.append ih (.cons r .nil)
section
variable {X:Cx} {pins:List (Addr×Obj)} {σ:St} {H:Hp} {s:Shared} {l b:Addr} {xs ys zs:List V}
theorem Inv.lset {its its':List Value}{n:Nat}{f:Array Value→Array Value}{t':Nat} (I:Inv X pins σ H s) (hH:H l=some (.lst xs))
 (e:s.heap.get? l=some { cls:=.type "list",data:=.seq its.toArray n }) (hf:f its.toArray=its'.toArray) (hv:Vals ys its') (hz:ys.length≤sizeLine) :
 Inv X pins σ (upd H l (.lst ys)) { s with heap:=s.heap.update l (Obj.mapSeq f),toks:=t' }:=by
 have q:=PySem.IsL.update e f;rw [hf] at q;refine I.write (x:=l) (e:=l) (by rw [hH];exact trivial) (.inl rfl) (fun b' u hb hu=>(Heap.get?_update_other s.heap (Obj.mapSeq f) (Ne.symm hb)).trans hu) ⟨_,q⟩ ?_;exact ⟨hz,its',_,hv,q⟩
theorem Inv.lnew {its:List Value}{t':Nat} (I:Inv X pins σ H s) (hv:Vals ys its) (hz:ys.length≤sizeLine) :
 Inv X pins σ (upd H s.heap.objs.size (.lst ys)) { s with heap:=s.heap.push { cls:=.type "list",data:=.seq its.toArray },toks:=t' } :=
 I.laid (fun _ _ q=>Xbk _ q) (XaS _) ⟨hz,its,0,hv,Xbm _ rfl⟩
theorem Inv.fresh (I:Inv X pins σ H s):H s.heap.objs.size=none:=I.hok.fresh (XaS _)
theorem Inv.lstM (I:Inv X pins σ H s) (hH:H l=some (.lst xs)):xs.length≤sizeLine∧∃ (its:List Value) (n:Nat),Vals xs its∧xs.length=its.length∧s.heap.get? l=some { cls:=.type "list",data:=.seq its.toArray n }:=by
 obtain ⟨z,its,n,r,e⟩:=I.hok l _ hH;exact ⟨z,its,n,r,r.length,e⟩
theorem ZkF {n:Nat} (h:n≤sizeLine):Builtin.List.listTooLong n=false:=by
 unfold Builtin.List.listTooLong;exact Xa2 (by omega)
end
section
variable {X:Cx}
def Zjy:V→List V→Hp→VK→Prop:=fun x vs H Q=>∃ l xs y,x=.ref l∧vs=[y]∧H l=some (.lst xs)∧xs.length<sizeLine∧Q .non (upd H l (.lst (xs++[y])))
theorem ZeC:MtM X "list.append" Zjy:=by
 intro pins s σ H x vs v us Q I rx rv h;obtain ⟨l,xs,y,rfl,rfl,hH,hz,q⟩:=h;cases rx;obtain ⟨u,rfl,ru⟩:=rv.one;obtain ⟨z,its,n,r,hl,e⟩:=I.lstM hH;refine call_meets F.slot_list_append ⟨_,e,rfl⟩ F.entry_list_append (F.args_list_append_2 _ _) (PySem.list_append l its.toArray n u (by rw [Xak];omega)) ⟨e,?_⟩;refine ⟨.non,_,I.lset (its':=its++[u]) hH e (by simp) (r.append (.cons ru .nil)) ?_,rfl,q⟩;rw [Xac,Xau];omega
def Zjz:V→List V→Hp→VK→Prop:=fun x vs H Q=>∃ l b xs zs,x=.ref l∧vs=[.ref b]∧H l=some (.lst xs)∧H b=some (.lst zs)∧xs.length+zs.length≤sizeLine∧Q .non (upd H l (.lst (xs++zs)))
theorem ZjA:MtM X "list.extend" Zjz:=by
 intro pins s σ H x vs v us Q I rx rv h;obtain ⟨l,b,xs,zs,rfl,rfl,hH,hB,hz,q⟩:=h;cases rx;obtain ⟨u,rfl,ru⟩:=rv.one;cases ru;obtain ⟨z,its,n,r,hl,e⟩:=I.lstM hH;obtain ⟨z2,its2,n2,r2,hl2,e2⟩:=I.lstM hB
 have hsz:its.toArray.size+its2.toArray.size≤sizeLine:=by rw [Xak,Xak];omega
 have hlong:¬(!its.toArray.isEmpty && Builtin.List.listTooLong (its.toArray.size+its2.toArray.size))=true:=by
  rw [ZkF hsz,Bool.and_false];exact Xa7
 refine call_meets F.slot_list_extend ⟨_,e,rfl⟩ F.entry_list_extend (F.args_list_extend_2 _ _)
  (AutoSeq1.list_extend_list_list_0 l its.toArray n b its2.toArray n2 hlong (by rw [Xak];omega) (by omega)) ⟨e,e2,?_⟩
 refine ⟨.non,_,I.lset (its':=its++its2) hH e (by simp) (r.append r2) ?_,rfl,q⟩;rw [Xac];omega
def ZhZ:V→List V→Hp→VK→Prop:=fun x vs H Q=>∃ l xs,x=.ref l∧vs=[]∧H l=some (.lst xs)∧Q .non (upd H l (.lst xs.reverse))
theorem ZiM:MtM X "list.reverse" ZhZ:=by
 intro pins s σ H x vs v us Q I rx rv h;obtain ⟨l,xs,rfl,rfl,hH,q⟩:=h;cases rx;have hus:=rv.zero;subst hus;obtain ⟨z,its,n,r,hl,e⟩:=I.lstM hH;refine call_meets F.slot_list_reverse ⟨_,e,rfl⟩ F.entry_list_reverse (F.args_list_reverse_1 _) (AutoSeq1.list_reverse_list_0 l its.toArray n (by rw [Xak];omega)) ⟨e,?_⟩;refine ⟨.non,_,I.lset (its':=its.reverse) hH e (by simp) r.reverse ?_,rfl,q⟩;rw [List.length_reverse];omega
def rCat:R2:=fun x y H Q=>∃ l b xs zs,x=.ref l∧y=.ref b∧H l=some (.lst xs)∧H b=some (.lst zs)∧xs.length+zs.length≤sizeLine∧∀ p,H p=none→Q (.ref p) (upd H p (.lst (xs++zs)))
theorem Zcv:OpR X (binaryOp .Add) rCat:=by
 intro pins s σ H x y v u Q I rx ry h;obtain ⟨l,b,xs,zs,rfl,rfl,hH,hB,hz,q⟩:=h;cases rx;cases ry;obtain ⟨z,its,n,r,hl,e⟩:=I.lstM hH;obtain ⟨z2,its2,n2,r2,hl2,e2⟩:=I.lstM hB;refine PySem.P.add_list e e2 ?_ (by rw [Xak,Xak];omega)
 have ea:its.toArray++its2.toArray=(its++its2).toArray:=by simp
 rw [ea];exact ⟨.ref _,_,I.lnew (t':=s.toks) (r.append r2) (by rw [Xac];omega),rfl,q _ I.fresh⟩
end
section
variable {prog:Program} {w:World} {A:Around} {E:Value→Shared→Prop} {s:Shared}
end
section
variable {X:Cx}
end
section
variable {κ:Type} [DecidableEq κ]
def valV (kvs:List (κ×V)) (k:κ):Option V:=(kvs.find? fun kv=>decide (kv.1=k)).map (·.2)
def putK (kvs:List (κ×V)) (k:κ) (v:V):List (κ×V) :=
 if (kvs.any fun kv=>decide (kv.1=k))=true then kvs.map (fun kv=>if kv.1=k then (kv.1,v) else kv) else kvs++[(k,v)]
theorem Zet {p:κ×V}{r:List (κ×V)} {k:κ} (e:p.1=k):valV (p :: r) k=some p.2:=by simp [valV,XaP,e]
theorem Zeu {p:κ×V}{r:List (κ×V)} {k:κ} (e:¬p.1=k):valV (p :: r) k=valV r k:=by simp [valV,XaP,e]
theorem ZfR (k:κ):∀ kvs:List (κ×V),(kvs.any fun kv=>decide (kv.1=k))=(valV kvs k).isSome
 | []=>rfl
 | p :: r=>by
   rw [List.any_cons]
   by_cases e:p.1=k
   · simp only [Zet e,Xa1 e,Bool.true_or,Option.isSome_some]
   · rw [Zeu e,Xa2 e,Bool.false_or];exact ZfR k r
theorem Zdz (kvs:List (κ×V)) (k:κ) (v:V):(putK kvs k v).length≤kvs.length+1:=by
 unfold putK
 split
 · rw [Xaa];omega
 · rw [Xac,XaB,XaL];omega
theorem Zh0 {kvs:List (κ×V)} {k:κ} (v:V) (h:valV kvs k=none):putK kvs k v=kvs++[(k,v)]:=by
 unfold putK;rw [ZfR,h];exact Xa9 (by decide)
theorem RelO.isSome_eq {o:Option V}{u:Option Value} (r:RelO o u):o.isSome=u.isSome:=by
 cases o with
 | none=>cases u with
   | none=>rfl
   | some _=>exact (show False from r).elim
 | some _=>cases u with
   | none=>exact (show False from r).elim
   | some _=>rfl
theorem RelO.getD {o:Option V}{u:Option Value}{d:V}{d':Value} (r:RelO o u) (rd:RelV d d'):RelV (o.getD d) (u.getD d'):=by
 cases o with
 | none=>cases u with
   | none=>exact rd
   | some _=>exact (show False from r).elim
 | some _=>cases u with
   | none=>exact (show False from r).elim
   | some _=>exact r
theorem KV.val {kvs:List (κ×V)} {vs:List (κ×Value)} (r:KV kvs vs) (k:κ):RelO (valV kvs k) (valueAt vs k):=by
 unfold KV at r
 induction r with
 | nil=>exact True.intro
 | @cons p q ps qs h t ih =>
   obtain ⟨h1,h2⟩:=h
   by_cases e:p.1=k
   · have e':q.1=k:=h1.symm.trans e
     have b:valueAt (q :: qs) k=some q.2:=by simp [valueAt,XaP,e']
     rw [Zet e,b];exact h2
   · have e':¬q.1=k:=fun z=>e (h1.trans z)
     have b:valueAt (q :: qs) k=valueAt qs k:=by simp [valueAt,XaP,e']
     rw [Zeu e,b];exact ih
theorem KV.any {kvs:List (κ×V)} {vs:List (κ×Value)} (r:KV kvs vs) (k:κ):(kvs.any fun kv=>decide (kv.1=k))=vs.any fun kv=>decide (kv.1=k):=by
 unfold KV at r
 induction r with
 | nil=>rfl
 | cons h t ih=>rw [List.any_cons,List.any_cons,ih,h.1]
theorem KV.repl {kvs:List (κ×V)} {vs:List (κ×Value)} (r:KV kvs vs) (k:κ) {y:V} {u:Value} (ry:RelV y u) :
 KV (kvs.map fun kv=>if kv.1=k then (kv.1,y) else kv) (vs.map fun kv=>if kv.1=k then (kv.1,u) else kv):=by
 unfold KV at r ⊢
 induction r with
 | nil=>exact .nil
 | @cons p q ps qs h t ih =>
   rw [Xao,Xao];refine .cons ?_ ih;obtain ⟨h1,h2⟩:=h
   by_cases e:p.1=k
   · rw [Xba e,Xba (h1.symm.trans e)];exact ⟨h1,ry⟩
   · rw [Xa9 e,Xa9 (fun z=>e (h1.trans z))];exact ⟨h1,h2⟩
theorem KV.put {kvs:List (κ×V)} {vs:List (κ×Value)} (r:KV kvs vs) (k:κ) {y:V} {u:Value} (ry:RelV y u):KV (putK kvs k y) (stored vs k u):=by
 unfold putK stored;rw [r.any k]
 by_cases e:(vs.any fun kv=>decide (kv.1=k))=true
 · rw [Xba e,Xba e];exact r.repl k ry
 · rw [Xa9 e,Xa9 e];exact Paired.snoc r ⟨rfl,ry⟩
theorem KV.keys {kvs:List (κ×V)} {vs:List (κ×Value)} (r:KV kvs vs):kvs.map (·.1)=vs.map (·.1):=by
 unfold KV at r
 induction r with
 | nil=>rfl
 | cons h t ih=>rw [Xao,Xao,ih,h.1]
theorem KV.length {kvs:List (κ×V)} {vs:List (κ×Value)} (r:KV kvs vs):kvs.length=vs.length:=Paired.length r
end
theorem ZiN {P:Program}{w:World}{k:Key}{u:Value} (r:RelV (kV k) u):(Zbt P w).is k u=true:=by
 cases k with
 | inl i=>obtain ⟨t,e⟩:=(show ∃ t,u=Value.int i t from r);subst e;exact Zhn P w i t
 | inr x=>obtain ⟨t,e⟩:=(show ∃ t,u=Value.str x t from r);subst e;exact Zho P w x t
theorem ZgH {P:Program}{w:World}:∀ {ks:List Key}{us:List Value},Vals (ks.map kV) us→ItemsAre (Zbt P w) ks us
 | [],_,r=>by rw [XaM] at r;cases r;exact .nil
 | k :: ks,_,r=>by
   rw [Xao] at r
   cases r with
   | cons h t=>exact .cons (ZiN h) (ZgH t)
abbrev KT (H:Hp):List (List Key×V)→List (List Key×Addr×Value)→Prop:=Paired fun p q=>p.1=q.1∧H q.2.1=some (.tup (p.1.map kV))∧RelV p.2 q.2.2
theorem KT.val {H:Hp}{kvs:List (List Key×V)} {xs:List (List Key×Addr×Value)} (r:KT H kvs xs) (k:List Key):RelO (valV kvs k) ((atKey xs k).map (·.2)):=by
 induction r with
 | nil=>exact True.intro
 | @cons p q ps qs h t ih =>
   obtain ⟨h1,_,h2⟩:=h
   by_cases e:p.1=k
   · have e':q.1=k:=h1.symm.trans e
     have b:atKey (q :: qs) k=some q.2:=by simp [atKey,XaP,e']
     rw [Zet e,b];exact h2
   · have e':¬q.1=k:=fun z=>e (h1.trans z)
     have b:atKey (q :: qs) k=atKey qs k:=by simp [atKey,XaP,e']
     rw [Zeu e,b];exact ih
theorem KT.repl {H:Hp}{kvs:List (List Key×V)} {xs:List (List Key×Addr×Value)} (r:KT H kvs xs) (k:List Key) {y:V} {u:Value} (ry:RelV y u) :
 KT H (kvs.map fun kv=>if kv.1=k then (kv.1,y) else kv) (xs.map (putAt k u)):=by
 induction r with
 | nil=>exact .nil
 | @cons p q ps qs h t ih =>
   rw [Xao,Xao];refine .cons ?_ ih;obtain ⟨h1,h2,h3⟩:=h;unfold putAt
   by_cases e:p.1=k
   · rw [Xba e,Xba (h1.symm.trans e)];exact ⟨h1,h2,ry⟩
   · rw [Xa9 e,Xa9 (fun z=>e (h1.trans z))];exact ⟨h1,h2,h3⟩
theorem KT.put {H:Hp}{kvs:List (List Key×V)} {xs:List (List Key×Addr×Value)} (r:KT H kvs xs) (k:List Key) {b:Addr} {y:V} {u:Value} (hb:H b=some (.tup (k.map kV))) (ry:RelV y u) :
 KT H (putK kvs k y) (storedH xs k b u):=by
 have e:(kvs.any fun kv=>decide (kv.1=k))=(atKey xs k).isSome:=by
  rw [ZfR,(r.val k).isSome_eq,Option.isSome_map]
 unfold putK storedH;rw [e]
 by_cases q:(atKey xs k).isSome=true
 · rw [Xba q,Xba q];exact r.repl k ry
 · rw [Xa9 q,Xa9 q];exact Paired.snoc r ⟨rfl,hb,ry⟩
theorem KT.keeps {H H':Hp}{kvs:List (List Key×V)} {xs:List (List Key×Addr×Value)} (r:KT H kvs xs) (ht:∀ b ys,H b=some (.tup ys)→H' b=some (.tup ys)):KT H' kvs xs :=
 Paired.mapP r fun _ _ z=>⟨z.1,ht _ _ z.2.1,z.2.2⟩
section
variable {P:Program} {w:World} {H:Hp} {h:Heap} {a:Addr}
theorem rd_of {u:HO} (ok:HOk P w H h) (e:Rd H a u):ObjOk P w H h a u:=e.ok ok
theorem ZjB {kvs:List (Key×V)} (ok:HOk P w H h) (e:Rd H a (.dK kvs)):kvs.length≤sizeLine∧(a == sysModules)=false∧∃ vs,KV kvs vs∧h.DictOf (Zbt P w) a vs :=
 show ObjOk P w H h a (.dK kvs) from rd_of ok e
theorem dk_of {kvs:List (Key×V)} (ok:HOk P w H h) (e:H a=some (.dK kvs)):kvs.length≤sizeLine∧(a == sysModules)=false∧∃ vs,KV kvs vs∧h.DictOf (Zbt P w) a vs:=ZjB ok (.inl e)
theorem ZgI {ks:List Key} (ok:HOk P w H h) (e:H a=some (.tup (ks.map kV))):(tupleKind (Zbt P w)).is h ks a:=by
 obtain ⟨_,its,r,o,h1,h2,n,h3⟩:=(show ObjOk P w H h a (.tup (ks.map kV)) from ok a _ e);exact ⟨o,its.toArray,n,h1,h2,h3,by simpa using ZgH r⟩
theorem ZjC {kvs:List (List Key×V)} (ok:HOk P w H h) (e:Rd H a (.dT kvs)):kvs.length≤sizeLine∧(a == sysModules)=false ∧
 ∃ xs,KT H kvs xs∧h.DictOfH (tupleKind (Zbt P w)) a xs:=by
 obtain ⟨z,y,xs,r,o,es,ep,h1,h2,h3,h4,h5⟩:=(show ObjOk P w H h a (.dT kvs) from rd_of ok e);refine ⟨z,y,xs,r,o,es,ep,h1,h2,h3,h4,fun x hx=>?_,h5⟩
 have all : ∀ {l : List (List Key × V)} {m : List (List Key × Addr × Value)}, KT H l m → ∀ x ∈ m, (tupleKind (Zbt P w)).is h x.1 x.2.1 := by
  intro l m q
  induction q with
  | nil=>intro x hx;exact nomatch hx
  | @cons p q ps qs hq t ih =>
    intro x hx
    rcases Xam.mp hx with e | hx
    · subst e
      exact ZgI ok (by rw [←hq.1];exact hq.2.1)
    · exact ih x hx
 exact all r x hx
theorem dt_of {kvs:List (List Key×V)} (ok:HOk P w H h) (e:H a=some (.dT kvs)):kvs.length≤sizeLine∧(a == sysModules)=false ∧
 ∃ xs,KT H kvs xs∧h.DictOfH (tupleKind (Zbt P w)) a xs:=ZjC ok (.inl e)
end
def DGet (H:Hp) (a:Addr) (y:V) (r:Option V):Prop :=
 (∃ kvs k,Rd H a (.dK kvs)∧y=kV k∧r=valV kvs k)∨∃ kvs k b,Rd H a (.dT kvs)∧y=.ref b∧H b=some (.tup (k.map kV))∧r=valV kvs k
def DPut (H:Hp) (a:Addr) (y v:V) (H':Hp):Prop :=
 (∃ kvs k,H a=some (.dK kvs)∧y=kV k∧kvs.length<sizeLine∧H'=upd H a (.dK (putK kvs k v))) ∨
 ∃ kvs k b,H a=some (.dT kvs)∧y=.ref b∧H b=some (.tup (k.map kV))∧kvs.length<sizeLine∧H'=upd H a (.dT (putK kvs k v))
theorem DGet.k {H:Hp}{a:Addr}{kvs:List (Key×V)} {k:Key} (e:H a=some (.dK kvs)):DGet H a (kV k) (valV kvs k):=.inl ⟨kvs,k,.inl e,rfl,rfl⟩
theorem DPut.k {H:Hp}{a:Addr}{kvs:List (Key×V)} {k:Key} {v:V} (e:H a=some (.dK kvs)) (hl:kvs.length<sizeLine):DPut H a (kV k) v (upd H a (.dK (putK kvs k v))):=.inl ⟨kvs,k,e,rfl,hl,rfl⟩
section
variable {X:Cx} {pins:List (Addr×Obj)} {σ:St} {H:Hp} {s:Shared} {a:Addr} {y v:V} {u r:Value} {o:Option V} {A:Around} {E:Value→Shared→Prop}
theorem Inv.big (I:Inv X pins σ H s):sysModules<s.heap.objs.size:=by
 have h:mainGlobals<s.heap.objs.size:=(I.mod.glob.keeps I.bk).lt;exact Nat.lt_trans (by decide) h
theorem ZjD {Q:Value→Shared→Prop} (hu:A.units+1<cLine) (I:Inv X pins σ H s) (g:DGet H a y (some v)) (ry:RelV y u) (h:∀ w' s',Inv X pins σ H s'→RelV v w'→Q w' s') :
 wpAny (model X.prog X.w) A (getItem (.ref a) u) Q E s:=by
 rcases g with ⟨kvs,k,e,ey,l⟩ | ⟨kvs,k,b,e,ey,eb,l⟩
 · subst ey
   obtain ⟨z,hd,vs,rel,dd⟩:=ZjB I.hok e;obtain ⟨w',hw,rw'⟩:=RelO.some_of (v:=v) (o:=valueAt vs k) (by rw [l];exact rel.val k);exact wpAny_getItem_of (ZiN ry) dd.mapOf hw (h w' _ (I.tok _) rw')
 · subst ey
   cases (show u=Value.ref b from ry);obtain ⟨z,hd,xs,rel,dd⟩:=ZjC I.hok e;obtain ⟨w',hw,rw'⟩:=RelO.some_of (v:=v) (o:=(atKey xs k).map (·.2)) (by rw [l];exact rel.val k);obtain ⟨p,hp,hp2⟩:=XaR.mp hw;refine wpAny_getItem_heap (tupleKind_room_in1 hu) (ZgI I.hok eb) dd hp ?_;rw [hp2];exact h w' _ (I.tok _) rw'
theorem d_notIn {Q:Value→Shared→Prop} (hu:A.units+1<cLine) (I:Inv X pins σ H s) (g:DGet H a y o) (ry:RelV y u) (h:∀ s',Inv X pins σ H s'→Q (.bool (!o.isSome)) s') :
 wpAny (model X.prog X.w) A (compareOp .NotIn u (.ref a)) Q E s:=by
 rcases g with ⟨kvs,k,e,ey,l⟩ | ⟨kvs,k,b,e,ey,eb,l⟩
 · subst ey
   obtain ⟨z,hd,vs,rel,dd⟩:=ZjB I.hok e;refine wpAny_notIn_of (ZiN ry) hd dd.mapOf ?_;rw [←(rel.val k).isSome_eq,←l];exact h _ (I.tok _)
 · subst ey
   cases (show u=Value.ref b from ry);obtain ⟨z,hd,xs,rel,dd⟩:=ZjC I.hok e;refine wpAny_notIn_heap (tupleKind_room_in1 hu) (ZgI I.hok eb) hd dd ?_;have q:=(rel.val k).isSome_eq;rw [Option.isSome_map] at q;rw [←q,←l];exact h _ (I.tok _)
theorem Zhu {h':Heap}{t':Nat}{ob:HO} (I:Inv X pins σ H s) (mu:Mut (H a)) (hs:Heap.SameBut a s.heap h') (he:∃ q,h'.get? a=some q) (new:ObjOk X.prog X.w (upd H a ob) h' a ob) :
 Inv X pins σ (upd H a ob) { s with heap:=h',toks:=t' } :=
 I.write (x:=a) (e:=a) mu (.inl rfl) (fun b q hb z=>(hs.2 b hb).trans z) he new
theorem dk_new {P:Program}{w:World}{H':Hp}{h':Heap}{kvs:List (Key×V)} {vs:List (Key×Value)} (z:kvs.length≤sizeLine) (hd:(a == sysModules)=false) (rel:KV kvs vs) (dd:h'.DictOf (Zbt P w) a vs) :
 ObjOk P w H' h' a (.dK kvs):=⟨z,hd,vs,rel,dd⟩
theorem ZjE {H':Hp}{Q:Unit→Shared→Prop} (hu:A.units+1<cLine) (I:Inv X pins σ H s) (g:DPut H a y v H') (ry:RelV y u) (rv:RelV v r) (h:∀ s',Inv X pins σ H' s'→Q () s') :
 wpAny (model X.prog X.w) A (setItem (.ref a) u r) Q E s:=by
 rcases g with ⟨kvs,k,e,ey,l,eH⟩ | ⟨kvs,k,b,e,ey,eb,l,eH⟩
 · subst ey eH
   obtain ⟨z,hd,vs,rel,dd⟩:=dk_of I.hok e
   have hz:vs.length≤sizeLine:=by rw [←rel.length];exact z
   have hl:(putK kvs k v).length≤sizeLine:=by have:=Zdz kvs k v;omega
   refine wpAny_setItem_pairs (hsz:=hz) (ZiN ry) dd fun h' dd' hs=>h _ ?_;have he:∃ q,h'.get? a=some q:=let ⟨q,_,_,hq,_⟩:=dd';⟨q,hq⟩;exact Zhu I (by rw [e];exact True.intro) hs he (dk_new hl hd (rel.put k rv) dd')
 · subst ey eH
   cases (show u=Value.ref b from ry);obtain ⟨z,hd,xs,rel,dd⟩:=dt_of I.hok e
   have hz:xs.length≤sizeLine:=by rw [←Paired.length rel];exact z
   have hl:(putK kvs k v).length≤sizeLine:=by have:=Zdz kvs k v;omega
   refine wpAny_setItem_heap (hsz:=hz) (tupleKind_room_in1 hu) (ZgI I.hok eb) dd fun h' dd' hs=>h _ ?_;obtain ⟨q,es,ep,hq,h2,h3,h4,_,h5⟩:=dd';refine Zhu I (by rw [e];exact True.intro) hs ⟨q,hq⟩ ⟨hl,hd,_,(rel.put k eb rv).keeps fun c ys ec=>?_,q,es,ep,hq,h2,h3,h4,h5⟩
   rw [Zaf (ZfI ec e (fun z=>nomatch z))]
   exact ec
end
section
variable {X:Cx} {pins:List (Addr×Obj)} {σ:St} {H:Hp} {s:Shared} {a:Addr} {kvs:List (Key×V)} {k:Key} {u:Value} {A:Around} {E:Value→Shared→Prop}
end
def NoSl (i:Expr):Prop:=∀ ov iv,subscripted i false ov iv=operate [ov,iv] (getItem ov iv)
theorem subD_of {prog:Program}{w:World}{A:Around}{E:Value→Shared→Prop}{s:Shared}{env:Env}{value slice:Expr}{pos:Pos}{T id:String}{Q:Value→Shared→Prop}
 (hl:typeLookup (.type T) "__getitem__" = pure (some (.builtin id))) (hs:NoSl slice)
 (h:wpAny (model prog w) A (eval value env) (fun o s₁=>wpAny (model prog w) A (eval slice env) (fun i s₂=>s₂.TypeIs o T∧wpAny (model prog w) A (getItem o i) Q E s₂) E s₁) E s) :
 wpAny (model prog w) A (eval (.Subscript value slice pos) env) Q E s:=by
 refine Subscript_ (Xbq h (fun o s₁ h₁=>Xbq h₁ (fun i s₂ h₂=>?_) fun _ _ x=>x) fun _ _ x=>x);obtain ⟨hT,h₂⟩:=h₂;unfold subscriptTail;refine Xbg ?_;rw [getitemInPython_of_ne hT.not_modules];refine Xbg (wpAny_specialOf hT hl ?_)
 have fin:wpAny (model prog w) A (subscripted slice false o i) (fun r s₃=>wpAny (model prog w) A (letTemporaryGo value o r >>= fun _=>pure r) Q E s₃) E s₂:=by
  rw [hs o i];exact wpAny_operating (Xbq h₂ (fun r s₃ h₃=>Xbg (wpAny_letTemporaryGo (Xbh h₃))) fun _ _ x=>x)
 first
  | exact Xbh (Xbg fin)
  | exact Xbg (Xbh (Xbg fin))
  | exact Xbg fin
theorem Zhv {X:Cx}{pins:List (Addr×Obj)} {σ:St} {H:Hp} {s:Shared} {a:Addr} {y:V} {o:Option V} (I:Inv X pins σ H s) (g:DGet H a y o):s.TypeIs (.ref a) "dict" := by
 rcases g with ⟨kvs,k,e,_,_⟩ | ⟨kvs,k,b,e,_,_,_⟩
 · obtain ⟨_,_,vs,_,dd⟩:=ZjB I.hok e
   exact dd.typeIs
 · obtain ⟨_,_,xs,_,dd⟩:=ZjC I.hok e
   exact dd.typeIs
def tDGet (td ty:TE):TE:=fun σ H Q=>td σ H fun x H1=>ty σ H1 fun y H2=>∃ a v,x=.ref a∧DGet H2 a y (some v)∧Q v H2
section
variable {X:Cx} {o i e value:Expr} {pos pos' tpos:Pos} {td ty tv:TE}
theorem ZjF (hu:X.A.units+1<cLine) (ho:PE X o td) (hi:PE X i ty) (hs:NoSl i):PE X (.Subscript o i pos) (tDGet td ty):=by
 intro pins s σ H Q I h;refine subD_of PySem.F.slot_dict_getitem.lookup hs (thn (ho pins s σ H _ I h) fun u s1 ⟨x,H1,I1,rx,q1⟩=>thn (hi pins s1 σ H1 _ I1 q1) fun iv s2 ⟨y,H2,I2,ry,a,v,ex,g,q2⟩=>?_);subst ex;obtain rfl:u=Value.ref a:=rx;exact ⟨Zhv I2 g,ZjD hu I2 g ry fun w' s3 I3 rw'=>⟨v,H2,I3,rw',q2⟩⟩
end
theorem ZkG {P:Program}{w:World}{H:Hp} (h:Heap) (hb:sysModules<h.objs.size):ObjOk P w H (h.push { cls:=.type "dict",data:=.dict #[] }) h.objs.size (.dK []) :=
 ⟨XaW _,beq_eq_false_iff_ne.mpr (Ne.symm (XaV hb)),[],.nil,Heap.DictOf.new h⟩
def tDNewK:TE:=fun _ H Q=>∀ p,H p=none→Q (.ref p) (upd H p (.dK []))
section
variable {X:Cx} {pos:Pos}
theorem Zh1:PE X (.Dict [] [] pos) tDNewK:=fun pins s σ H Q I h =>
 wpAny_Dict_empty ⟨.ref s.heap.objs.size,_,I.laid (a:=s.heap.objs.size) (o:=.dK []) (t':=s.toks) (fun _ _ q=>Xbk _ q) (XaS _) (ZkG s.heap I.big),rfl,h _ (I.hok.fresh (XaS _))⟩
end
section
variable {X:Cx} {pins:List (Addr×Obj)} {σ:St} {H:Hp} {s:Shared} {a:Addr} {y d:V} {u r:Value} {o:Option V} {A:Around} {E:Value→Shared→Prop}
theorem d_get2 {Q:Value→Shared→Prop} (hu:A.units+1<cLine) (I:Inv X pins σ H s) (g:DGet H a y o) (ry:RelV y u) (rd:RelV d r) (h:∀ w' s',Inv X pins σ H s'→RelV (o.getD d) w'→Q w' s') :
 wpAny (model X.prog X.w) A (call (.builtin "dict.get") [.ref a,u,r]) Q E s:=by
 rcases g with ⟨kvs,k,e,ey,l⟩ | ⟨kvs,k,b,e,ey,eb,l⟩
 · subst ey
   obtain ⟨z,hd,vs,rel,dd⟩:=ZjB I.hok e;refine call_meetsIn PySem.F.slot_dict_get dd.typeIs PySem.F.entry_dict_get (PySem.F.args_dict_get_3 _ _ _) (meets_dict_get_default (Zbt X.prog X.w) a (ZiN ry) hd r) ⟨_,dd.mapOf,h _ _ (I.tok _) ?_⟩;rw [l];exact (rel.val k).getD rd
 · subst ey
   cases (show u=Value.ref b from ry);obtain ⟨z,hd,xs,rel,dd⟩:=ZjC I.hok e;refine call_meetsIn PySem.F.slot_dict_get dd.typeIs PySem.F.entry_dict_get (PySem.F.args_dict_get_3 _ _ _) (meetsH_dict_get_default (tupleKind (Zbt X.prog X.w)) a b hd r) ⟨tupleKind_room_in1 hu,k,xs,ZgI I.hok eb,dd,h _ _ (I.tok _) ?_⟩;rw [l];exact (rel.val k).getD rd
end
section
variable {X:Cx} {o e f:Expr} {apos cpos:Pos} {td ty tx:TE}
end
section
variable {X:Cx} {pins:List (Addr×Obj)} {σ:St} {H:Hp} {s:Shared} {a:Addr} {kvs:List (Key×V)} {A:Around} {E:Value→Shared→Prop}
end
section
variable {X:Cx} {pins:List (Addr×Obj)} {σ:St} {H:Hp} {s:Shared} {a:Addr} {y:V} {u:Value} {A:Around} {E:Value→Shared→Prop}
end
end L2
namespace Att
open PySem PySem.W PySem.Calls PyProof.Rows
theorem ZeD {P:Params}{h:Heap}:∀ (ns:List Int) (vs:List Value),WellAll P h vs (ns.map WData.int)→IntsAre vs ns:=by
 intro ns
 induction ns with
 | nil =>
   intro vs w;rw [XaM] at w;cases w;exact .nil
 | cons n ns ih =>
   intro vs w;rw [Xao] at w
   cases w with
   | cons a b =>
     cases a;exact .cons _ _ (ih _ b)
theorem ZjG {l:OpenLaw}{n:Nat} (hn:l.most=some n) {P:Params} {h:Heap} {args:List WData} {vals:List Value}
 (hpre:l.row.toRowW.claim.pre args=true) (hwl:WellAll P h vals args) :
 ∃ a vs ns,vals=[Value.ref a]∧args=[WData.list (ns.map WData.int)]∧h.get? a=some { cls:=.type "list",data:=.seq vs.toArray }∧IntsAre vs ns∧ns.length≤n:=by
 have hsh:WShape.hasAll [] args [.list .int]=true:=(pre_splitW hpre).1;have hc:l.pre.holds [] { args:=args }=true:=(pre_splitW hpre).2;obtain ⟨d,r,rfl,h1,h2⟩:=hasAllW_cons hsh;obtain rfl:=hasAllW_nil h2;obtain ⟨xs,rfl,h3⟩:=hasW_list h1;obtain ⟨ns,rfl⟩:=items_int h3
 have hlen:ns.length≤n:=by
  unfold OpenLaw.pre at hc
  have h4:(WTm.not (.lt (.lit (.int (n:Int))) (.len (.arg 0)))).holds [] { args:=[.list (ns.map .int)] }=true:=by
   have h4:=(holds_andW hc).1;rw [hn] at h4;exact h4
  have h5:=condW_of h4 (w_not (w_lt w_lit (w_len_list (w_arg rfl))));rw [Xaa] at h5;refine Nat.le_of_not_lt fun q=>?_
  have q':(n:Int)<((ns.length:Nat):Int):=by omega
  first
   | (rw [Xa1 q'] at h5;exact absurd h5 (by decide))
   | (simp at h5;omega)
 cases hwl with
 | cons w1 w2 =>
   cases w2
   cases w1 with
   | list ho hall=>exact ⟨_,_,ns,rfl,rfl,ho,ZeD ns _ hall,hlen⟩
theorem ZjH (l:OpenLaw) (args:List WData):l.row.toRowW.claim.post args (.bool true) args=true :=
 postW_of (r:=l.row.toRowW) (X:=(true == true))
  (show WShape.has [] (.bool true) .bool=true by first | rfl | decide | simp [WShape.has,WShape.arms,WShape.armsAll])
  (show (WTm.eq .res (.lit (.bool true))).value [] { args:=args,res:=some (.bool true),after:=args }=some (.bool (true == true)) from w_eq_bool (w_res rfl) w_lit) rfl
theorem attach_call {l:OpenLaw}{n:Nat}{q:Program}{loose:List Str}{XP:(Str→Option Value)→Heap→Prop} {YP:World→Heap→Prop} {d:DefRec}
 (hn:l.most=some n) (hdf:d.params.defaults=[])
 (call:∀ (w:World) (s₀ s₁:Shared) (mg mb:Str→Option Value) (fa:Addr) (o:Obj) (pm cd doc:Value) (a:Addr) (vs:List Value) (ns:List Int),
  Ground q loose [] XP w s₀ mg mb s₁.heap→YP w s₁.heap →
  s₁.heap.get? fa=some o→o.data=.func (docDef d.name d.params d.body d.scope pm cd doc)→s₁.heap.CodeRec cd d.name→mg d.name=some (.ref fa) →
  s₁.heap.get? a=some { cls:=.type "list",data:=.seq vs.toArray }→IntsAre vs ns→ns.length≤n→s₁.gens=#[] →
  codeAny (model l.prog w) callerA (.call (.ref fa) ⟨[.ref a],[]⟩) (fun r s'=>r=.ok (.ret (.bool true))∧OldK s₁.heap s'.heap∧s'.os=s₁.os∧AllBare s'.gens) s₁) :
 WalkO q loose XP YP l.row.toRowW d [] (fun f vs=>PySem.call f vs):=by
 intro w s₀ s₁ mg mb G Y fa o pm cd doc dV kV ho hd hcd hD hmg hg args vals as hpre hlay hrd hwl hlo;obtain rfl:dV=.none:=Dflts.none hD hdf;obtain rfl:kV=.none:=Dflts.noKw hD;obtain ⟨a,vs,ns,rfl,rfl,hobj,hints,hlen⟩:=ZjG hn hpre hwl;refine enter_call (codeAny_mono (call w s₀ s₁ mg mb fa o pm cd doc a vs ns G Y ho (fd_plain hd) hcd hmg hobj hints hlen hg) fun r s' hq=>?_);obtain ⟨rfl,h2,h3,h4⟩:=hq
 exact ⟨.inl ⟨.bool true,.bool true,[],rfl,fun _=>rfl,.bool true,ZjH l _,fun _=>⟨List.Pairwise.nil,fun _ hm=>(nomatch hm)⟩⟩,h2,h3,h4⟩
section
variable {prog:Program} {w:World} {A:Around} {E:Value→Shared→Prop} {s:Shared} {K:Frag}
end
end Att
namespace L2
open PySem PySem.Spec PyProof.Rows
theorem ZgJ:∀ {vs:List Value}{ns:List Int},IntsAre vs ns→Vals (ns.map V.int) vs
 | _,_,.nil=>.nil
 | _,_,.cons n t h=>.cons ⟨t,rfl⟩ (ZgJ h)
def Only (H:Hp):Prop:=∀ b,H b=none∨∃ o xs,H b=some (.frz o (.lst xs))
theorem ZkH {P : Program} {w : World} {K : XFg} {mg mb : Str → Option Value} {CX : CXT} {k : Nat} {fa a : Addr} {fd : FuncData} {x : Str} {sp : Sp} {s₁ : Shared} {vs : List Value} {ns : List Int}
 (KX:K.In s₁.heap) (hns:s₁.heap.Ns mainGlobals mg) (hb:s₁.heap.Ns builtinsNs mb) (hbb:∀ x:Str,x ≠ "__name__" → mb x=bootBuiltins x) (hlim:s₁.heap.NoLimit) (hg:s₁.gens=#[])
 (ha:s₁.heap.get? a=some { cls:=.type "list",data:=.seq vs.toArray }) (hi:IntsAre vs ns) (hl:ns.length≤sizeLine) (hr:Room k callerA)
 (F:∀ base:Heap,K.In base→base.Ns mainGlobals mg→FnOk P w K mg base CX k fa fd [x] sp) (hbind:∀ (s:Shared) (u:Value),BindsTo s fd ⟨[u],[]⟩ [(x,u)])
 (hsp:∀ H:Hp,Only H→SqL K H a (ns.map V.int)→sp [.ref a] H (fun v _=>v=.bl true) fun _ _ _=>False)
 (hCX:∀ H e s',CX [] H s₁ (fun _ _ _=>False) e s'→False) :
 codeAny (model P w) callerA (.call (.ref fa) ⟨[.ref a],[]⟩) (fun r s'=>r=.ok (.ret (.bool true))∧OldK s₁.heap s'.heap∧s'.os=s₁.os∧AllBare s'.gens) s₁:=by
 have rv:=ZgJ hi;have lenV:=hi.length
 have core : ∀ H : Hp, Only H → SqL K H a (ns.map V.int) → HOk P w H s₁.heap → (∀ b, H b ≠ none → b = a) → (H a ≠ none → K.lookup a = none) →
  codeAny (model P w) callerA (.call (.ref fa) ⟨[.ref a],[]⟩) (fun r s'=>r=.ok (.ret (.bool true))∧OldK s₁.heap s'.heap∧s'.os=s₁.os∧AllBare s'.gens) s₁:=by
  intro H hO hS hok hA hK;have base_of:∀ {b:Addr} {o:Obj},s₁.heap.get? b=some o→H b=none→(hidT s₁.heap H).get? b=some o:=fun e n=>ZkA e n
  have noA:∀ {b:Addr} {o:Obj} {es:Array DictEntry} {ep:Nat},s₁.heap.get? b=some o→o.data=.dict es ep→H b=none:=fun {b o es ep} e d=>by
   cases q:H b with
   | none=>rfl
   | some u =>
     have e':b=a:=hA b (by rw [q];simp);subst e';rw [ha] at e;cases e;have d':Data.seq vs.toArray _=Data.dict es ep:=d;cases d'
  have nsK:∀ {b:Addr} {m:Str→Option Value},s₁.heap.Ns b m→(hidT s₁.heap H).Ns b m:=fun {b m} ⟨o,es,ep,e,d,r⟩=>⟨o,es,ep,base_of e (noA e d),d,r⟩
  have hKb:K.In (hidT s₁.heap H):=fun b o e=>base_of (KX b o e) (by
   cases q:H b with
   | none=>rfl
   | some u =>
     have e':b=a:=hA b (by rw [q];simp);subst e'
     rw [hK (by rw [q];simp)] at e;cases e)
  have hM:Mod K mg (hidT s₁.heap H):=⟨hKb,nsK hns,⟨mb,nsK hb,hbb⟩,let ⟨mc,h1,h2⟩:=hlim;⟨mc,nsK h1,h2⟩⟩;have e0:Env0 P w K mg (hidT s₁.heap H) callerA [] s₁ H:=⟨rfl,hM,fun b o e=>of_hidT e,Nat.le_of_eq (Zjd _ _),trivial,fun b hb=>absurd (show b∈([]:List Addr) from hb) (by simp),hok,.of_eq hg⟩;refine codeAny_mono ((F _ hKb (nsK hns)).run callerA [] s₁ H ⟨[.ref a],[]⟩ [.ref a] [.ref a] _ _ hr e0 (hbind s₁ (.ref a)) (.cons rfl .nil) (hsp H hO hS)) fun r s' h=>?_
  cases r with
  | error e=>exact (hCX H e s' h).elim
  | ok fl =>
    cases fl with
    | next=>exact False.elim h
    | brk=>exact False.elim h
    | cont=>exact False.elim h
    | ret u =>
      obtain ⟨v,H',os,bare,un,hok',r',q⟩:=h;have q':v=.bl true:=q;subst q';obtain rfl:u=Value.bool true:=r';refine ⟨rfl,OldK.of_keep fun b o e=>?_,os,bare⟩
      cases q:H b with
      | none=>exact un.keep b o e q (by intro z;exact absurd (show b∈([]:List Addr) from z) (by simp)) (by simp)
      | some u =>
        rcases hO b with z | ⟨ob,xs,z⟩
        · rw [q] at z;cases z
        · have z2:=un.frzs b ob _ z
          obtain ⟨e1,_⟩:=hok b _ z;obtain ⟨e2,_⟩:=hok' b _ z2;rw [e] at e1;cases e1;exact e2
 cases hk:K.lookup a with
 | some o =>
   have e:=KX a o hk;rw [ha] at e;cases e;refine core (fun _=>none) (fun _=>.inl rfl) (.inr ⟨_,vs.toArray,_,hk,rfl,rfl,rfl,by rw [Xak,lenV];exact hl,by simpa using rv⟩) (fun b u z=>by have z':(none:Option HO)=some u:=z;cases z') (fun b z=>absurd rfl z) fun z=>absurd rfl z
 | none =>
   refine core (fun b=>if b=a then some (.frz { cls:=.type "list",data:=.seq vs.toArray } (.lst (ns.map V.int))) else none) (fun b=>?_) (.inl (.inr ⟨{ cls:=.type "list",data:=.seq vs.toArray },Xba rfl⟩)) (fun b u z=>?_) (fun b z=>?_) fun _=>hk
   · by_cases hb:b=a
     · exact .inr ⟨_,_,Xba hb⟩
     · exact .inl (Xa9 hb)
   · by_cases hb:b=a
     · have z':=(Xba hb).symm.trans z
       cases z';subst hb;exact ⟨ha,by rw [Xaa];exact hl,vs,_,rv,ha⟩
     · have z':=(Xa9 hb).symm.trans z
       cases z'
   · by_cases hb:b=a
     · exact hb
     · exact absurd (Xa9 hb) z
theorem walk_of {l:PySem.W.OpenLaw}{n k:Nat}{q:Program}{loose:List Str}{XP:(Str→Option Value)→Heap→Prop} {YP:World→Heap→Prop} {d:DefRec} {K:Params→XFg} {CX:World→CXT} {sp:World→Sp} {x:Str}
 (hn:l.most=some n) (hn2:n≤sizeLine) (hdf:d.params.defaults=[]) (hr:Room k callerA)
 (hY:∀ (w:World) (h:Heap),YP w h→(K w.params).In h)
 (F:∀ (w:World) (mg:Str→Option Value) (fa:Addr) (h:Heap),(K w.params).In h→h.Ns mainGlobals mg→mg d.name=some (.ref fa) →
  ∃ fd:FuncData,(∀ (s:Shared) (u:Value),BindsTo s fd ⟨[u],[]⟩ [(x,u)]) ∧
   ∀ base:Heap,(K w.params).In base→base.Ns mainGlobals mg→FnOk l.prog w (K w.params) mg base (CX w) k fa fd [x] (sp w))
 (hsp:∀ (w:World) (H:Hp) (a:Addr) (ns:List Int),ns.length≤n→Only H→SqL (K w.params) H a (ns.map V.int)→sp w [.ref a] H (fun v _=>v=.bl true) fun _ _ _=>False)
 (hCX:∀ (w:World) (H:Hp) (s:Shared) (e:Value) (s':Shared),CX w [] H s (fun _ _ _=>False) e s'→False) :
 PySem.W.WalkO q loose XP YP l.row.toRowW d [] (fun f vs=>PySem.call f vs):=by
 refine Att.attach_call hn hdf fun w s₀ s₁ mg mb fa o pm cd doc a vs ns G Y ho hd hcd hmg hobj hints hlen hg=>?_;have KX:=hY w _ Y;obtain ⟨fd,hb,hF⟩:=F w mg fa _ KX G.T.g hmg;exact ZkH KX G.T.g G.T.b G.T.builtins G.T.nolimit hg hobj hints (Xbc hlen hn2) hr hF hb (fun H hO hS=>hsp w H a ns hlen hO hS) fun H e s'=>hCX w H s₁ e s'
abbrev CX0:CXT:=fun _ _ _ _ _ _=>False
abbrev E0:XK:=fun _ _ _=>False
theorem pass0 {X:Cx}:ZhV CX0 X E0:=fun _ _ _ _ _ _ _ h=>h.elim
structure Fun (K:XFg) (x qual:Str) (st:Stmt) (f:Addr) (fd:FuncData):Prop where
 ex:∃ (oc:Value) (od:Option Addr) (kV doc pm:Value) (an:Option Addr) (cdv ct:Value) (osl:Array (Option Value)),
  fd=PySem.W.fnOf x qual (Zaw st) (Zav st) (Zae st) .none kV doc pm an cdv ct∧K.lookup f=some ⟨oc,od,.func fd,osl⟩∧PySem.W.codeIn K cdv qual=true
 kp:PySem.W.keepIn K (.ref f)=true
section
variable {P:Program} {w:World} {K:XFg} {mg:Str→Option Value} {base:Heap}
theorem Fun.ok {x qual:Str}{st:Stmt}{f:Addr}{fd:FuncData}{N ps:List Str}{k:Nat}{sp:Sp} (F:Fun K x qual st f fd) (S:FnScope N ps (Zae st)) (len:∀ vs H Q E,sp vs H Q E→vs.length=ps.length)
 (hbody:∀ (cdv:Value) (A:Around) (outer:List Env) (s:Shared) (H:Hp) (vs:List V) (Q:VK) (E:XK),Room k (A.deeper (envOfC qual (Zae st) s.heap.objs.size f cdv))→sp vs H Q E →
  ∃ t,PSs (cxOf CX0 P w K mg base N qual (Zae st) f cdv A outer s H E).nox (Zav st) t∧t { nx:=fun _ H'=>Q .non H',rt:=Q } (start N vs) H):FnOk P w K mg base CX0 (k+1) f fd ps sp:=by
 obtain ⟨oc,od,kV,doc,pm,an,cdv,ct,osl,rfl,lk,hcd⟩:=F.ex;refine fn_of lk hcd S len fun A outer s H vs Q E hr hsp=>?_;obtain ⟨t,h,q⟩:=hbody cdv A outer s H vs Q E hr hsp;exact ⟨t,h.nox,q⟩
theorem Fun.binds {x qual:Str}{st:Stmt}{f:Addr}{fd:FuncData}{ps:List Str} (F:Fun K x qual st f fd)
 (h:∀ (kV doc pm:Value) (an:Option Addr) (cdv ct:Value) (us:List Value),us.length=ps.length→bindArgs (PySem.W.fnOf x qual (Zaw st) (Zav st) (Zae st) .none kV doc pm an cdv ct) ⟨us,[]⟩=pure (ps.zip us)):Binds K fd ps []:=by
 obtain ⟨oc,od,kV,doc,pm,an,cdv,ct,osl,rfl,lk,hcd⟩:=F.ex;exact .all (h kV doc pm an cdv ct)
theorem ZaM {x qual:Str}{st:Stmt}{f:Addr}{oc:Value}{od an:Option Addr}{osl:Array (Option Value)} {kV doc pm cdv ct:Value} (l:K.lookup f=some ⟨oc,od,.func (PySem.W.fnOf x qual (Zaw st) (Zav st) (Zae st) .none kV doc pm an cdv ct),osl⟩)
 (c:PySem.W.codeIn K cdv qual=true) (k:PySem.W.keepIn K (.ref f)=true):Fun K x qual st f (PySem.W.fnOf x qual (Zaw st) (Zav st) (Zae st) .none kV doc pm an cdv ct):=⟨⟨oc,od,kV,doc,pm,an,cdv,ct,osl,rfl,l,c⟩,k⟩
end
theorem ZiO {A:Around}{k:Nat} (hr:Room k A):A.units+1<cLine:=Nat.lt_of_le_of_lt (Nat.add_le_add_left (by decide:1≤64) _) hr.units
theorem Zak {n:Nat} (h:n≤1000):n<sizeLine:=Nat.lt_of_le_of_lt h (by decide)
section
variable {X:Cx}
theorem pv (i:Nat) {x:Str} {pos:Pos} (hN:X.N[i]?=some x:=by rfl) (hv:Vis X.env.scope x:=by first | exact Or.inl rfl | exact Or.inr (Or.inl rfl) | exact Or.inr (Or.inr rfl)) (hd:(x == ("__debug__" : Str))=false:=by decide)
 (hcd:(x == ("__classdict__" : Str))=false:=by decide):PE X (.Name x pos) (tVar i):=pe_var hN hv hd hcd
end
theorem iteF {A B:Prop} (h:B):if false=true then A else B:=by
 rw [Xa9 Xa7];exact h
theorem iteT {A B:Prop} (h:A):if true=true then A else B:=by
 rw [Xba rfl];exact h
theorem ite2 {c A B:Prop} [Decidable c] (h1:c→A) (h2:¬c→B):if c then A else B:=by
 by_cases h:c
 · rw [Xba h]
   exact h1 h
 · rw [Xa9 h]
   exact h2 h
def Same (H H':Hp):Prop:=∀ b o,H b=some o→H' b=some o
theorem Same.refl (H:Hp):Same H H:=fun _ _ h=>h
theorem Same.trans {H H1 H2:Hp} (a:Same H H1) (b:Same H1 H2):Same H H2:=fun c o h=>b c o (a c o h)
theorem Same.free {H H':Hp} (e:Same H H') {l:Addr} (h:H' l=Option.none):H l=Option.none:=by
 cases q:H l with
 | none=>rfl
 | some o =>
   rw [e l o q] at h;cases h
theorem Same.seq {K:XFg}{H H':Hp}{a:Addr}{xs:List V} (e:Same H H') (h:SqL K H a xs):SqL K H' a xs:=by
 rcases h with (h | ⟨o,h⟩) | h
 · exact .inl (.inl (e _ _ h))
 · exact .inl (.inr ⟨o,e _ _ h⟩)
 · exact .inr h
section
variable {κ:Type} [DecidableEq κ]
end
inductive Ty where
 | int | bool | str | non | lst | tup | dct
 deriving DecidableEq
def Ty.name:Ty→String
 | .int => "int" | .bool => "bool" | .str => "str" | .non => "NoneType" | .lst => "list" | .tup => "tuple" | .dct => "dict"
inductive TyN (K:XFg) (H:Hp):V→Ty→Prop where
 | int (i:Int):TyN K H (.int i) .int
 | bl (b:Bool):TyN K H (.bl b) .bool
 | str (x:Str):TyN K H (.str x) .str
 | non:TyN K H .non .non
 | lst {a:Addr} {xs:List V} (h:SqL K H a xs):TyN K H (.ref a) .lst
 | tup {a:Addr} {xs:List V} (h:SqT K H a xs):TyN K H (.ref a) .tup
 | dk {a:Addr} {kvs:List (Key×V)} (h:H a=some (.dK kvs)):TyN K H (.ref a) .dct
def isiB:Ty→Ty→Bool
 | .int,.int=>true | .bool,.bool=>true | .bool,.int=>true | .str,.str=>true | .non,.non=>true | .lst,.lst=>true | .tup,.tup=>true | .dct,.dct=>true | _,_=>false
def rIsi (K:XFg):List V→Hp→VK→Prop:=fun vs H Q=>∃ x T T',vs=[x,.ty (Ty.name T)]∧TyN K H x T'∧Q (.bl (isiB T' T)) H
theorem Zdg {X:Cx}:CallR X (.builtin "isinstance") (rIsi X.K):=by
 intro pins s σ H vs us Q I r h;obtain ⟨x,T,T',rfl,ty,q⟩:=h;obtain ⟨u,u2,rfl,ru,ru2⟩:=Zjt r;have e2:u2=Value.type (Ty.name T):=ru2;subst e2
 cases ty with
 | int i =>
   obtain ⟨t,rfl⟩:=ru
   cases T with
   | int=>exact IsiPair.int_int ⟨.bl true,H,I,rfl,q⟩
   | bool=>exact IsiPair.int_bool ⟨.bl false,H,I.tok _,rfl,q⟩
   | str=>exact IsiPair.int_str ⟨.bl false,H,I.tok _,rfl,q⟩
   | non=>exact IsiPair.int_NoneType ⟨.bl false,H,I.tok _,rfl,q⟩
   | lst=>exact IsiPair.int_list ⟨.bl false,H,I.tok _,rfl,q⟩
   | tup=>exact IsiPair.int_tuple ⟨.bl false,H,I.tok _,rfl,q⟩
   | dct=>exact IsiPair.int_dict ⟨.bl false,H,I.tok _,rfl,q⟩
 | bl b =>
   obtain rfl:u=Value.bool b:=ru
   cases T with
   | int=>exact IsiPair.bool_int ⟨.bl true,H,I,rfl,q⟩
   | bool=>exact IsiPair.bool_bool ⟨.bl true,H,I,rfl,q⟩
   | str=>exact IsiPair.bool_str ⟨.bl false,H,I.tok _,rfl,q⟩
   | non=>exact IsiPair.bool_NoneType ⟨.bl false,H,I.tok _,rfl,q⟩
   | lst=>exact IsiPair.bool_list ⟨.bl false,H,I.tok _,rfl,q⟩
   | tup=>exact IsiPair.bool_tuple ⟨.bl false,H,I.tok _,rfl,q⟩
   | dct=>exact IsiPair.bool_dict ⟨.bl false,H,I.tok _,rfl,q⟩
 | str y =>
   obtain ⟨t,rfl⟩:=ru
   cases T with
   | int=>exact IsiPair.str_int ⟨.bl false,H,I.tok _,rfl,q⟩
   | bool=>exact IsiPair.str_bool ⟨.bl false,H,I.tok _,rfl,q⟩
   | str=>exact IsiPair.str_str ⟨.bl true,H,I,rfl,q⟩
   | non=>exact IsiPair.str_NoneType ⟨.bl false,H,I.tok _,rfl,q⟩
   | lst=>exact IsiPair.str_list ⟨.bl false,H,I.tok _,rfl,q⟩
   | tup=>exact IsiPair.str_tuple ⟨.bl false,H,I.tok _,rfl,q⟩
   | dct=>exact IsiPair.str_dict ⟨.bl false,H,I.tok _,rfl,q⟩
 | non =>
   obtain rfl:u=Value.none:=ru
   cases T with
   | int=>exact IsiPair.NoneType_int ⟨.bl false,H,I.tok _,rfl,q⟩
   | bool=>exact IsiPair.NoneType_bool ⟨.bl false,H,I.tok _,rfl,q⟩
   | str=>exact IsiPair.NoneType_str ⟨.bl false,H,I.tok _,rfl,q⟩
   | non=>exact IsiPair.NoneType_NoneType ⟨.bl true,H,I,rfl,q⟩
   | lst=>exact IsiPair.NoneType_list ⟨.bl false,H,I.tok _,rfl,q⟩
   | tup=>exact IsiPair.NoneType_tuple ⟨.bl false,H,I.tok _,rfl,q⟩
   | dct=>exact IsiPair.NoneType_dict ⟨.bl false,H,I.tok _,rfl,q⟩
 | lst hq =>
   obtain rfl:u=Value.ref _:=ru;obtain ⟨its,rv,⟨o,n,e,hc,hd,hs⟩,hz⟩:=I.list hq
   cases T with
   | int=>exact IsiPair.list_int e hc ⟨.bl false,H,I.tok _,rfl,q⟩
   | bool=>exact IsiPair.list_bool e hc ⟨.bl false,H,I.tok _,rfl,q⟩
   | str=>exact IsiPair.list_str e hc ⟨.bl false,H,I.tok _,rfl,q⟩
   | non=>exact IsiPair.list_NoneType e hc ⟨.bl false,H,I.tok _,rfl,q⟩
   | lst=>exact IsiPair.list_list e hc ⟨.bl true,H,I,rfl,q⟩
   | tup=>exact IsiPair.list_tuple e hc ⟨.bl false,H,I.tok _,rfl,q⟩
   | dct=>exact IsiPair.list_dict e hc ⟨.bl false,H,I.tok _,rfl,q⟩
 | tup hq =>
   obtain rfl:u=Value.ref _:=ru;obtain ⟨its,rv,⟨o,e,hc,n,hs⟩,hz⟩:=I.tuple hq
   cases T with
   | int=>exact IsiPair.tuple_int e hc ⟨.bl false,H,I.tok _,rfl,q⟩
   | bool=>exact IsiPair.tuple_bool e hc ⟨.bl false,H,I.tok _,rfl,q⟩
   | str=>exact IsiPair.tuple_str e hc ⟨.bl false,H,I.tok _,rfl,q⟩
   | non=>exact IsiPair.tuple_NoneType e hc ⟨.bl false,H,I.tok _,rfl,q⟩
   | lst=>exact IsiPair.tuple_list e hc ⟨.bl false,H,I.tok _,rfl,q⟩
   | tup=>exact IsiPair.tuple_tuple e hc ⟨.bl true,H,I,rfl,q⟩
   | dct=>exact IsiPair.tuple_dict e hc ⟨.bl false,H,I.tok _,rfl,q⟩
 | dk hq =>
   obtain rfl:u=Value.ref _:=ru;obtain ⟨hz,hm,vs,rel,o,es,ep,e,ex,hr⟩:=I.hok _ _ hq;have hc:=ex.1
   cases T with
   | int=>exact IsiPair.dict_int e hc ⟨.bl false,H,I.tok _,rfl,q⟩
   | bool=>exact IsiPair.dict_bool e hc ⟨.bl false,H,I.tok _,rfl,q⟩
   | str=>exact IsiPair.dict_str e hc ⟨.bl false,H,I.tok _,rfl,q⟩
   | non=>exact IsiPair.dict_NoneType e hc ⟨.bl false,H,I.tok _,rfl,q⟩
   | lst=>exact IsiPair.dict_list e hc ⟨.bl false,H,I.tok _,rfl,q⟩
   | tup=>exact IsiPair.dict_tuple e hc ⟨.bl false,H,I.tok _,rfl,q⟩
   | dct=>exact IsiPair.dict_dict e hc ⟨.bl true,H,I,rfl,q⟩
theorem Zh2 {P:Program}{w:World}{A:Around}{bs:List Bool}{its:List Value} (r:Vals (bs.map V.bl) its):TruthOf P w A (fun i v=>its.toArray[i]?=some v) (fun i=>bs.getD i false):=by
 intro i v s Q E hv hq
 have hv':its[i]?=some v:=by simpa using hv
 have hl:=r.length;rw [Xaa] at hl;have hi:i<its.length:=(Xae.mp hv').1
 have hb:(bs.map V.bl)[i]?=some (V.bl (bs.getD i false)):=by
  rw [Xag,Xaq]
  have:bs[i]?=some bs[i]:=Xab (by omega)
  rw [this];rfl
 obtain ⟨u,hu,ru⟩:=r.get hb;rw [hv'] at hu;cases hu;have e:v=Value.bool (bs.getD i false):=ru;subst e;exact Xbj hq
theorem ZjI {bs:List Bool}:(List.range bs.length).all (fun i=>bs.getD i false)=bs.all id:=by
 rw [Bool.eq_iff_iff,List.all_eq_true,List.all_eq_true]
 constructor
 · intro h b hb
   obtain ⟨i,hi,e⟩:=XaG.mp hb
   have:=h i (List.mem_range.mpr hi)
   rw [Xaq,Xab hi] at this;rw [←e];exact this
 · intro h i hi
   have hi':=List.mem_range.mp hi;rw [Xaq,Xab hi'];exact h _ (Xav hi')
def rAll (K:XFg):List V→Hp→VK→Prop:=fun vs H Q=>∃ (a:Addr) (bs:List Bool),vs=[.ref a]∧SqL K H a (bs.map V.bl)∧Q (.bl (bs.all id)) H
theorem ZgK {X:Cx} (hc:X.calm=true):CallR X (.builtin "all") (rAll X.K):=by
 intro pins s σ H vs us Q I r h;obtain ⟨a,bs,rfl,hq,q⟩:=h;obtain ⟨u,rfl,ru⟩:=Zdx r;obtain rfl:u=Value.ref a:=ru;obtain ⟨its,rv,p,hz⟩:=I.list hq;have hl:=rv.length;rw [Xaa] at hl
 have hlt:a<s.heap.objs.size:=by obtain ⟨_,e,_⟩:=p.isList;exact Xbl e
 refine call_all_walk (wpAny_pyIter_list p.isList ?_);refine ⟨s.heap.objs.size,[s.heap.objs.size,a],[s.heap.objs.size],its.toArray.size,(fun i v=>its.toArray[i]?=some v),(fun i h=>h.IsListIter s.heap.objs.size a i∧h.IsList a its.toArray),(fun i=>bs.getD i false),rfl,Walks.list (A:=X.A.in1) (I.ok.hd hc) s.heap.objs.size a (XaV hlt) its.toArray,⟨⟨_,Xbm _ rfl,rfl,rfl⟩,p.isList.push _⟩,Zh2 rv,fun h' tk hk=>?_⟩;refine ⟨.bl (bs.all id),H,I.kept fun b o e=>hk b o (fun z=>?_) (Xbk _ e),?_,q⟩
 · have z':b=s.heap.objs.size:=by simpa using z
   exact absurd (Xbl e) (by rw [z'];exact XaT _)
 · have e:its.toArray.size=bs.length:=by rw [Xak,hl]
   show Value.bool _=Value.bool _;rw [e,ZjI]
def rS (g:Str→Str→Bool):R2:=fun x y H Q=>∃ a b,x=.str a∧y=.str b∧Q (.bl (g a b)) H
theorem Zh3 {X:Cx}:OpR X (compareOp .LtE) (rS fun a b=>!decide (b.cps.toList<a.cps.toList)):=by
 intro pins s σ H x y v u Q I rx ry h;obtain ⟨a,b,rfl,rfl,q⟩:=h;obtain ⟨t,rfl⟩:=rx;obtain ⟨t',rfl⟩:=ry;exact P.le_str ⟨.bl _,H,I,rfl,q⟩
theorem ZgL:∀ {xs:List Str}{its:List Value},Vals (xs.map V.str) its→∃ l:List (Str×Tok),its=strValues l∧l.map (·.1)=xs
 | [],_,.nil=>⟨[],rfl,rfl⟩
 | x :: xs,_,.cons r t=>by
   obtain ⟨tk,rfl⟩:=r;obtain ⟨l,rfl,rfl⟩:=ZgL t;exact ⟨(x,tk) :: l,rfl,rfl⟩
def rJoin (K:XFg):V→List V→Hp→VK→Prop:=fun x vs H Q=>∃ sep a xs,x=.str sep∧vs=[.ref a]∧SqL K H a (xs.map V.str)∧JoinOk sep xs=true∧Q (.str (Txt.join sep xs)) H
theorem ZfS {X:Cx}:MtR X "str.join" (rJoin X.K):=by
 intro pins s σ H x vs v us Q I rx rv h;obtain ⟨sep,a,xs,rfl,rfl,hq,hok,q⟩:=h;obtain ⟨t,rfl⟩:=rx;obtain ⟨u,rfl,ru⟩:=Zdx rv;obtain rfl:u=Value.ref a:=ru;obtain ⟨its,r,p,hz⟩:=I.list hq;obtain ⟨l,rfl,hl⟩:=ZgL r;exact SC.join p.isList hl hok fun t' k=>⟨.str _,H,I.tok k,⟨t',rfl⟩,q⟩
def Its (x:Str):It:=⟨fun i _=>i<x.cps.size,fun i H v H'=>H'=H∧∃ c,x.cps[i]?=some c∧v=.str ⟨#[c]⟩,fun i _=>i=x.cps.size⟩
theorem Zh4 {P:Program}{w:World}{K:XFg}{tg:Expr}{x:Str}{t:Tok}{ty:String} (it:Addr) (hn:["enumerate", "zip", "dict_itemiterator", "dict_reverseitemiterator", "odict_iterator", "itertools.zip_longest", "itertools.pairwise"].contains ty=false)
 (W:∀ A:Around,A.handled=none→Walks P w A it [it] [it] x.cps.size (SignAt x) (fun i h=>h.IsStrIter it ty x t i))
 (hself:∀ (A:Around) (i:Nat) (s:Shared) (Q:Value→Shared→Prop) (E:Value→Shared→Prop),s.heap.IsStrIter it ty x t i→Q (.ref it) s→wpAny (model P w) A (pyIter (.ref it)) Q E s):Turn P w K tg (Its x) [it] it (fun i h=>h.IsStrIter it ty x t i) where
 mem:=by simp
 obj:=fun i h st b hb=>by
  have e:b=it:=by simpa using hb
  subst e;obtain ⟨o,e,c,d⟩:=st;exact ⟨o,e,fun v z=>by rw [d] at z;cases z⟩
 keep:=fun i h h' st k=>by
  obtain ⟨o,e,r⟩:=st;exact ⟨o,k it (by simp) o e,r⟩
 item:=by
  intro X hP hw hK hc i pins s σ H E I hf st hg;subst hP hw hK;obtain ⟨f0,f1,f2,f3,f4,f5⟩:=hf it (by simp);refine (W X.A (I.ok.hd hc)).item i s _ _ hg st fun v h' tk hv st' kk=>?_;obtain ⟨c,u,hc',rfl⟩:=hv;have I1:Inv X pins σ H { s with heap:=h',toks:=tk }:=I.turned (fun b o hb e=>kk b o (by simpa using hb) e) f0 f1 f3 f4 f5;obtain ⟨o,e,c1,d⟩:=id st';exact ⟨_,rfl,go_of (s:={ s with heap:=h',toks:=tk }) e c1 d hn ⟨.str ⟨#[c]⟩,H,I1,⟨u,rfl⟩,⟨rfl,c,hc',rfl⟩,st',fun b hb=>(hf b hb).1⟩⟩
 done:=by
  intro X hP hw hK hc i pins s σ H E I hf st hg;subst hP hw hK;obtain ⟨f0,f1,f2,f3,f4,f5⟩:=hf it (by simp);have hg':i=x.cps.size:=hg;subst hg';exact (W X.A (I.ok.hd hc)).done s _ _ st fun h' tk kk=>⟨rfl,I.turned (fun b o hb e=>kk b o (by simpa using hb) e) f0 f1 f3 f4 f5⟩
 self:=hself
def iStr (te:TE):TI:=fun σ H R=>te σ H fun x H1=>∃ y,x=.str y∧R (Its y) H1
theorem pi_str {X:Cx}{tg e:Expr}{te:TE} (he:PE X e te):PI X tg e (iStr te):=by
 intro pins s σ H R I h;refine thn (he pins s σ H _ I h) fun v s1 ⟨x,H1,I1,r1,q1⟩=>?_;obtain ⟨y,rfl,q⟩:=q1;obtain ⟨t,rfl⟩:=r1
 have fin:∀ b∈[s1.heap.objs.size],FpOk X pins H1 b:=fun b hb=>by
  have e:b=s1.heap.objs.size:=by simpa using hb
  subst e;exact I1.fpOk (XaS _) (I1.hok.fresh (XaS _))
 cases ha:y.cps.all (· < 128)
 · refine wpAny_pyIter_wide ha ⟨s1.heap.objs.size,[s1.heap.objs.size],_,_,H1,rfl,I1.kept (t':=s1.toks) fun b o e=>Xbk _ e,Zh4 (ty := "str_iterator") (t:=t) _ (by decide) (fun A hA=>Walks.strWide hA _ y t) (fun A i s Q E st hQ=>wpAny_pyIter_striter_wide st hQ),⟨_,Xbm _ rfl,rfl,rfl⟩,fin,q⟩
 · refine wpAny_pyIter_ascii ha ⟨s1.heap.objs.size,[s1.heap.objs.size],_,_,H1,rfl,I1.kept (t':=s1.toks) fun b o e=>Xbk _ e,Zh4 (ty := "str_ascii_iterator") (t:=t) _ (by decide) (fun A hA=>Walks.strAscii hA _ y t) (fun A i s Q E st hQ=>wpAny_pyIter_striter_ascii st hQ),⟨_,Xbm _ rfl,rfl,rfl⟩,fin,q⟩
def ZbV (env:Env):List (Str×NameKind)→List (Str×Addr)→List (Str×Addr)
 | [],acc=>acc
 | (n,k) :: r,acc=>if k == .free then ZbV env r ((n,(env.cells.lookup n).getD 0) :: acc) else ZbV env r acc
theorem ZdW {env:Env} (f:Str×NameKind→List (Str×Addr)→Sem (ForInStep (List (Str×Addr))))
 (hf:∀ n k cs,f (n,k) cs=if (k == NameKind.free)=true then (cellOf env n >>= fun a=>pure (.yield ((n,a) :: cs))) else pure (.yield cs)) :
 ∀ (names:List (Str×NameKind)) (acc:List (Str×Addr)),(∀ x∈names,x.2=.free→∃ c,env.cells.lookup x.1=some c)→forIn names acc f=pure (ZbV env names acc)
 | [],acc,_=>by rw [List.forIn_nil];rfl
 | (n,k) :: r,acc,h=>by
   rw [List.forIn_cons,hf];unfold ZbV
   by_cases hk:(k == NameKind.free)=true
   · rw [Xba hk,Xba hk]
     obtain ⟨c,hc⟩:=h (n,k) Xal (beq_iff_eq.mp hk)
     have e:cellOf env n=pure c:=by unfold cellOf;rw [hc]
     rw [e,hc];exact ZdW f hf r _ fun x hx=>h x (Xap _ hx)
   · rw [Xa9 hk,Xa9 hk]
     exact ZdW f hf r _ fun x hx=>h x (Xap _ hx)
theorem Zcm {scope:Scope}{env:Env} (h:∀ x∈scope.names,x.2=.free→∃ c,env.cells.lookup x.1=some c):closureFor scope env=pure (ZbV env scope.names []):=by
 simp only [closureFor]
 rw [ZdW (env:=env) _ (fun n k cs=>by cases hk:k == NameKind.free <;> simp [hk]) scope.names [] h]
 rfl
theorem Zdh {env:Env}:∀ {names:List (Str×NameKind)} {acc:List (Str×Addr)} {x:Str} {c:Addr},(x,c)∈ZbV env names acc→(x,c)∈acc∨((x,NameKind.free)∈names∧c=(env.cells.lookup x).getD 0)
 | [],_,_,_,h=>.inl h
 | (n, k) :: r, acc, x, c, h => by
   unfold ZbV at h
   by_cases hk:(k == NameKind.free)=true
   · rw [Xba hk] at h
     rcases Zdh h with h | ⟨h,e⟩
     · rcases Xam.mp h with h | h
       · cases h
         rw [beq_iff_eq.mp hk];exact .inr ⟨Xal,rfl⟩
       · exact .inl h
     · exact .inr ⟨Xap _ h,e⟩
   · rw [Xa9 hk] at h
     rcases Zdh h with h | ⟨h,e⟩
     · exact .inl h
     · exact .inr ⟨Xap _ h,e⟩
theorem ZdX {env:Env}:∀ {names:List (Str×NameKind)} {acc:List (Str×Addr)} {p:Str×Addr},p∈acc→p∈ZbV env names acc
 | [],_,_,h=>h
 | (n,k) :: r,acc,p,h=>by
   unfold ZbV
   by_cases hk:(k == NameKind.free)=true
   · rw [Xba hk];exact ZdX (Xap _ h)
   · rw [Xa9 hk];exact ZdX h
theorem ZcP {env:Env}:∀ {names:List (Str×NameKind)} {acc:List (Str×Addr)} {x:Str},(x,NameKind.free)∈names→∃ c,(x,c)∈ZbV env names acc
 | (n,k) :: r,acc,x,h=>by
   unfold ZbV
   rcases Xam.mp h with h | h
   · cases h
     rw [Xba (show (NameKind.free == NameKind.free)=true by rfl)];exact ⟨_,ZdX Xal⟩
   · by_cases hk:(k == NameKind.free)=true
     · rw [Xba hk];exact ZcP h
     · rw [Xa9 hk];exact ZcP h
theorem Zb5 {α:Type}:∀ {l:List (Str×α)} {x:Str} {c:α},(x,c)∈l→∃ c',l.lookup x=some c'
 | (n, d) :: r, x, c, h => by
   rw [XaI]
   cases hb:x == n with
   | true=>exact ⟨d,rfl⟩
   | false =>
     rcases Xam.mp h with h | h
     · cases h
       simp at hb
     · exact Zb5 h
theorem Zba:∀ (names:List (Str×NameKind)) (n:Nat) (acc:List (Str×Addr)),cellsFrom n names acc=cellsFrom n names []++acc
 | [],_,_=>rfl
 | (x,k) :: r,n,acc=>by
   unfold cellsFrom
   by_cases hk:(k == NameKind.cell)=true
   · rw [Xba hk,Xba hk,Zba r (n+1) ((x,n) :: acc),Zba r (n+1) [(x,n)],XaE]
     rfl
   · rw [Xa9 hk,Xa9 hk];exact Zba r n acc
theorem Zcb:∀ {names:List (Str×NameKind)} {n:Nat} {acc:List (Str×Addr)} {x:Str} {c:Addr},(x,c)∈cellsFrom n names acc→(x,c)∈acc∨(x,NameKind.cell)∈names
 | [],_,_,_,_,h=>.inl h
 | (y, k) :: r, n, acc, x, c, h => by
   unfold cellsFrom at h
   by_cases hk:(k == NameKind.cell)=true
   · rw [Xba hk] at h
     rcases Zcb h with h | h
     · rcases Xam.mp h with h | h
       · cases h
         rw [beq_iff_eq.mp hk];exact .inr Xal
       · exact .inl h
     · exact .inr (Xap _ h)
   · rw [Xa9 hk] at h
     rcases Zcb h with h | h
     · exact .inl h
     · exact .inr (Xap _ h)
section
variable {M:Model} {A:Around} {E:Value→Shared→Prop} {s:Shared}
theorem Zh5 {scope:Scope}{env:Env}{cl:List (Str×Addr)} {Q:Env→Shared→Prop}
 (hQ:Q (newEnv scope s.heap.objs.size env.globals (cellsFrom (s.heap.objs.size+1) scope.names cl) env.qual none .none (some env) builtinsNs) { s with heap:=pushCells (s.heap.push { cls:=.type "dict",data:=.dict #[] }) scope.names }) :
 wpAny M A (newFunctionEnv scope env.globals cl [] env.qual none .none (some env)) Q E s:=by
 simp only [newFunctionEnv,Option.isSome_some,if_true];refine Xbg (wpAny_alloc ?_)
 refine Xbg (wpAny_layCells _ (fun name kind cells=>by cases hkc:kind == NameKind.cell <;> simp [hkc]) _ _ _ _ ?_)
 rw [show ({ s with heap:=s.heap.push { cls:=.type "dict",data:=.dict #[] } }:Shared).heap.objs.size=s.heap.objs.size+1 from Heap.size_push ..]
 exact Xbg (Xbh (Xbh hQ))
end
abbrev ZaG (X:Cx) (N:List Str) (scope:Scope) (cs:List (Str×Addr)) (C:Addr) (s:Shared) (H:Hp) (ex:List Addr):Cx where
 prog:=X.prog
 w:=X.w
 K:=X.K
 mg:=X.mg
 base:=X.base
 A:=X.A
 N:=N
 s₀:=s
 H₀:=H
 env:=compEnvC scope cs C X.env
 outer:=X.stack
 stack:=X.stack
 ex:=ex
 fn:=fun x=>decide (scope.names.lookup x≠some .free)
 calm:=X.calm
 pn:=[]
 xe:=fun _ _=>False
structure CompScope (psc:Scope) (PN:List Str) (scope:Scope) (N:List Str) (k:Nat) (caps:List Nat):Prop where
 kind:scope.kind=.function
 loc:∀ x∈scope.names,x.2=.local→scope.names.lookup x.1=some .local
 ndn:(scope.names.map (·.1)).Nodup
 nd:N.Nodup
 len:N.length=k+caps.length
 free:∀ x∈scope.names,x.2=.free→psc.names.lookup x.1=some .cell∨psc.names.lookup x.1=some .free
 cap:∀ p∈(N.drop k).zip caps,PN[p.2]?=some p.1∧scope.names.lookup p.1=some .free
def Zbo (k:Nat) (caps:List Nat) (σ:St):St:=List.replicate k none++caps.map fun j=>(σ[j]?).getD none
theorem ZgM {k:Nat}{caps:List Nat}{σ:St}{i:Nat}{v:V} (h:(Zbo k caps σ)[i]?=some (some v)):∃ j,k≤i∧caps[i - k]?=some j∧σ[j]?=some (some v):=by
 unfold Zbo at h
 by_cases hi:i<k
 · rw [Xat (by simpa using hi),List.getElem?_replicate,Xba hi] at h
   cases h
 · rw [Xay (by simpa using hi),List.length_replicate,Xag] at h
   cases e:caps[i - k]? with
   | none=>rw [e] at h;cases h
   | some j =>
     rw [e] at h;have h':(σ[j]?).getD none=some v:=Xa8 h;refine ⟨j,by omega,rfl,?_⟩
     cases q:σ[j]? with
     | none=>rw [q] at h';cases h'
     | some o=>rw [q] at h';exact Xbf some h'
theorem Zeb {scope:Scope}{env:Env}{x:Str}{k':NameKind} (h:(relabel scope env).names.lookup x=some k'):∃ k,(x,k)∈scope.names∧(k'=k∨(k=.free∧k'=.cell)):=by
 have hm:=Xbp h;have hm':(x,k')∈scope.names.map (fun (n,k)=>if (k == NameKind.free && env.scope.kind == .function && env.kindOf n == some .cell) then (n,NameKind.cell) else (n,k)):=hm;obtain ⟨⟨n,k⟩,h1,h2⟩:=Xai.mp hm';dsimp only at h2
 by_cases hc:(k == NameKind.free && env.scope.kind == .function && env.kindOf n == some .cell)=true
 · rw [Xba hc] at h2
   cases h2;simp only [Bool.and_eq_true,beq_iff_eq] at hc;exact ⟨k,h1,.inr ⟨hc.1.1,rfl⟩⟩
 · rw [Xa9 hc] at h2
   cases h2;exact ⟨k',h1,.inl rfl⟩
theorem Zh6 {f:Str×NameKind→Str×NameKind} (hf:∀ n k,f (n,k)=(n,k)∨(k=.free∧f (n,k)=(n,NameKind.cell))):∀ {names:List (Str×NameKind)} {x:Str},names.lookup x=some .free→(names.map f).lookup x=some .cell∨(names.map f).lookup x=some .free
 | [],_,h=>by simp at h
 | (n,k) :: r,x,h=>by
   have ih:=@Zh6 f hf r x;rw [XaI] at h;rw [Xao]
   cases hx:x == n with
   | true =>
     rw [hx] at h;cases h
     rcases hf n .free with e | ⟨_,e⟩
     · right;rw [e,XaI,hx]
     · left;rw [e,XaI,hx]
   | false =>
     rw [hx] at h;have h':=ih h
     rcases hf n k with e | ⟨_,e⟩
     · rw [e,XaI,hx];exact h'
     · rw [e,XaI,hx];exact h'
theorem Zec {scope:Scope}{env:Env}{x:Str} (h:scope.names.lookup x=some .free):(relabel scope env).names.lookup x=some .cell∨(relabel scope env).names.lookup x=some .free:=by
 refine Zh6 (fun n k=>?_) h
 by_cases hc:(k == NameKind.free && env.scope.kind == .function && env.kindOf n == some .cell)=true
 · right
   refine ⟨?_,Xba hc⟩;simp only [Bool.and_eq_true,beq_iff_eq] at hc;exact hc.1.1
 · left;exact Xa9 hc
theorem ZdF {names:List (Str×NameKind)} (h:(names.map (·.1)).Nodup) {x:Str} {k k':NameKind} (h1:(x,k)∈names) (h2:(x,k')∈names):k=k':=by
 induction names with
 | nil=>simp at h1
 | cons p r ih =>
   rw [Xao] at h;obtain ⟨ha,hb⟩:=XaC.mp h
   rcases Xam.mp h1 with e1 | h1 <;> rcases Xam.mp h2 with e2 | h2
   · rw [←e1] at e2;exact (Prod.mk.inj e2).2.symm
   · exact absurd (Xai.mpr ⟨_,h2,by rw [←e1]⟩) ha
   · exact absurd (Xai.mpr ⟨_,h1,by rw [←e2]⟩) ha
   · exact ih hb h1 h2
theorem Un.but {fs ex:List Addr}{H H':Hp}{h h1 h2:Heap}{C:Addr} (u:Un fs ex H H' h h1) (hs:Heap.SameBut C h1 h2) (hC:h.objs.size≤C):Un fs ex H H' h h2:=by
 have ne:∀ b o,h.get? b=some o→b≠C:=fun b o e=>XaV (Xbb (Xbl e) hC);refine ⟨fun b o e n hb hx=>(hs.2 b (ne b o e)).trans (u.keep b o e n hb hx),fun b o e n hb hx=>?_,u.free,fun b o e hx=>?_,u.tups,u.frzs,u.tbls⟩
 · obtain ⟨sl,q⟩:=u.slot b o e n hb hx
   exact ⟨sl,(hs.2 b (ne b o e)).trans q⟩
 · obtain ⟨o',q⟩:=u.there b o e hx
   exact ⟨o',(hs.2 b (ne b o e)).trans q⟩
theorem HOk.but {P:Program}{w:World}{H:Hp}{h1 h2:Heap}{C:Addr} (x:HOk P w H h1) (hs:Heap.SameBut C h1 h2) (hn:H C=none):HOk P w H h2:=fun b u e=>by
 refine (x b u e).stay (fun c v hc q=>(hs.2 c ?_).trans q) (fun _ q=>q) fun _ _ q=>q;rintro rfl
 rcases hc with rfl | hc
 · rw [hn] at e;cases e
 · rw [hn] at hc;cases hc
section
variable {X:Cx} {scope:Scope} {N:List Str} {k:Nat} {caps:List Nat} {psc:Scope} {PN:List Str} {pins:List (Addr×Obj)} {σ:St} {H:Hp} {s:Shared}
abbrev ZaT (X:Cx) (scope:Scope) (C:Addr):List (Str×Addr):=cellsFrom (C+1) scope.names (ZbV X.env scope.names [])
theorem Zed {C:Addr} (I:Inv X pins σ H s) (S:CompScope X.env.scope X.N scope N k caps) {x:Str} {c:Addr} (h:(x,c)∈ZaT X scope C) :
 (x,c)∈cellsFrom (C+1) scope.names []∨X.env.cells.lookup x=some c:=by
 unfold ZaT at h;rw [Zba] at h
 rcases Xaf.mp h with h | h
 · exact .inl h
 · rcases Zdh h with h | ⟨h,e⟩
   · simp at h
   · obtain ⟨c',hc⟩:=I.ok.has x (S.free _ h rfl)
     rw [hc] at e;exact .inr (by rw [hc];exact Xbf some e.symm)
theorem Zfr {fp:List Addr} (I:Inv X pins σ H s) (S:CompScope X.env.scope X.N scope N k caps) (hf:∀ b∈fp,FpOk X pins H b) (hfo:∀ b∈fp,∃ o,s.heap.get? b=some o) {D C:Nat} {h1:Heap} {t':Nat} (hD:D=s.heap.objs.size) (hC:C=D+1)
 (hh:h1=pushCells ((s.heap.push { cls:=.type "list",data:=.seq #[] }).push { cls:=.type "dict",data:=.dict #[] }) scope.names) :
 Inv (ZaG X N scope (ZaT X scope C) C s H fp) [] (Zbo k caps σ) (upd H D (.lst [])) { s with heap:=h1,toks:=t' }:=by
 have hsz1:(s.heap.push { cls:=.type "list",data:=.seq #[] }).objs.size=C:=by rw [Heap.size_push,hC,hD]
 have hsz2:((s.heap.push { cls:=.type "list",data:=.seq #[] }).push { cls:=.type "dict",data:=.dict #[] }).objs.size=C+1:=by rw [Heap.size_push,hsz1]
 have old:∀ b o,s.heap.get? b=some o→h1.get? b=some o:=fun b o e=>by
  rw [hh];exact pushCells_keeps _ _ b o (Xbk _ (Xbk _ e))
 have hacc:h1.get? D=some { cls:=.type "list",data:=.seq #[] }:=by
  rw [hh,hD];exact pushCells_keeps _ _ _ _ (Xbk _ (Xbm _ rfl))
 have hns:h1.Ns C (fun _=>none):=by
  rw [hh,←hsz1]
  exact (Heap.Ns.new _ (.type "dict")).keeps (pushCells_keeps _ _)
 have ok:=cellsFrom_ok scope.names ((s.heap.push { cls:=.type "list",data:=.seq #[] }).push { cls:=.type "dict",data:=.dict #[] }) (C+1) [] ⟨fun _ _ hm=>(nomatch hm),List.Pairwise.nil⟩ (by rw [hsz2];exact XaS _)
 rw [hsz2] at ok
 have own:∀ x c,(x,c)∈cellsFrom (C+1) scope.names []→h1.IsCell c none∧C+1≤c:=fun x c h=>by rw [hh];exact ok.empty x c h
 have par:∀ x c,X.env.cells.lookup x=some c→c<D:=fun x c e=>by
  obtain ⟨v,q⟩:=I.cell x c e;rw [hD];exact q.lt
 have fpD:∀ b∈fp,b<D:=fun b hb=>by
  obtain ⟨o,e⟩:=hfo b hb;rw [hD];exact Xbl e
 have hCfree:H C=none:=I.hok.fresh (by rw [hC,hD];exact Nat.le_succ _);have split:=fun x c (h:(ZaT X scope C).lookup x=some c)=>Zed (C:=C) I S (Xbp h)
 have updn:∀ b,b≠D→H b=none→(upd H D (.lst [])) b=none:=fun b hb e=>by rw [Zaf hb];exact e
 have capt:∀ x,scope.names.lookup x=some .free→∃ c,X.env.cells.lookup x=some c∧(ZaT X scope C).lookup x=some c:=fun x hx=>by
  have hm:=Xbp hx;obtain ⟨c0,h0⟩:=ZcP (env:=X.env) (acc:=[]) hm;obtain ⟨c,hc⟩:=Zb5 (l:=ZaT X scope C) (x:=x) (c:=c0) (by unfold ZaT;rw [Zba];exact Xan _ h0);refine ⟨c,?_,hc⟩
  rcases split x c hc with q | q
  · rcases Zcb q with z | z
    · simp at z
    · have:=ZdF S.ndn hm z;cases this
  · exact q
 have okX : (ZaG X N scope (ZaT X scope C) C s H fp).Ok := by
  refine ⟨I.ok.mod,S.kind,I.ok.glob,I.ok.blt,?above,?inj,?has,?cab,I.ok.hd,I.ok.frames,.inl rfl,?exf,fun b o e=>I.bs b o e,Xbc I.ok.bsz I.sz,?noex,?exfs,I.stack,I.stkFree⟩
  case above =>
   show s.heap.objs.size≤C;rw [hC,hD];exact Nat.le_succ _
  case inj =>
   intro x y c e1 e2
   rcases split x c e1 with q1 | q1 <;> rcases split y c e2 with q2 | q2
   · exact name_of_addr ok.apart q1 q2
   · have h1:@LE.le Nat _ (C+1) c:=(own x c q1).2
     have h2:@LT.lt Nat _ c D:=par y c q2;exfalso;omega
   · have h1:@LE.le Nat _ (C+1) c:=(own y c q2).2
     have h2:@LT.lt Nat _ c D:=par x c q1;exfalso;omega
   · exact I.ok.inj x y c q1 q2
  case has =>
   intro x hx;have hx':(relabel scope X.env).names.lookup x=some .cell∨(relabel scope X.env).names.lookup x=some .free:=hx
   have hk:∃ k',(x,k')∈scope.names∧(k'=.cell∨k'=.free):=by
    rcases hx' with q | q
    · obtain ⟨k',h1,h2⟩:=Zeb q
      rcases h2 with h2 | ⟨h2,_⟩
      · exact ⟨k',h1,.inl h2.symm⟩
      · exact ⟨k',h1,.inr h2⟩
    · obtain ⟨k',h1,h2⟩:=Zeb q
      rcases h2 with h2 | ⟨_,h2⟩
      · exact ⟨k',h1,.inr h2.symm⟩
      · cases h2
   obtain ⟨k',hm,hk | hk⟩:=hk
   · subst hk
     have q:=PySem.W.cellsFrom_some scope.names (C+1) (ZbV X.env scope.names []) (x:=x) (.inl (by
      obtain ⟨k2,hk2⟩:=Zb5 hm
      rw [hk2,ZdF S.ndn (Xbp hk2) hm]))
     exact Option.isSome_iff_exists.mp q
   · subst hk
     obtain ⟨c0,h0⟩:=ZcP (env:=X.env) (acc:=[]) hm;exact Zb5 (c:=c0) (by show (x,c0)∈ZaT X scope C;unfold ZaT;rw [Zba];exact Xan _ h0)
  case cab =>
   intro x c hx e;have hx':decide (scope.names.lookup x≠some .free)=true:=hx;have hx2:=Xa3 hx';show s.heap.objs.size≤c;have e':(ZaT X scope C).lookup x=some c:=e;have hm:=Xbp e';unfold ZaT at hm;rw [Zba] at hm
   rcases Xaf.mp hm with z | z
   · have h1:@LE.le Nat _ (C+1) c:=(own x c z).2
     have h2:@LE.le Nat _ s.heap.objs.size c:=by omega
     exact h2
   · rcases Zdh z with z | ⟨z,_⟩
     · simp at z
     · obtain ⟨k2,hk2⟩:=Zb5 z
       exact absurd (by rw [hk2,ZdF S.ndn (Xbp hk2) z]) hx2
  case exf =>
   intro b hb;refine ⟨?_,fun x c e z=>?_⟩
   · have h1:@LT.lt Nat _ b D:=fpD b hb
     exact XaV (show @LT.lt Nat _ b C by omega)
   · rcases split x c e with q | q
     · have h1:@LE.le Nat _ (C+1) c:=(own x c q).2
       have h2:@LT.lt Nat _ b D:=fpD b hb;have z':@Eq Nat c b:=z;omega
     · exact (hf b hb).2.2.2.2.1 x c q z
  case noex =>
   intro b o e hb
   rcases (hf b hb).2.2.2.1 with q | q
   · exact I.ok.noex b o e q
   · exact absurd (Xbb (Xbl e) (Xbc I.ok.bsz q)) (XaT _)
  case exfs =>
   intro b hb z;have z':b∈frs X.stack:=z
   rcases Xam.mp (I.stkSub b z') with q | q
   · exact (hf b hb).2.1 q
   · exact (hf b hb).2.2.1 q
 refine ⟨okX,rfl,I.bare,Un.laid old (by rw [hD];exact XaS _) (I.hok.fresh (by rw [hD];exact XaS _)),⟨_,hns,?loc⟩,?cell,updn _ (show @Ne Nat C D by omega) hCfree,?freeC,fun p hp=>absurd hp (by simp),?hok,?len⟩
 case loc =>
  intro i x v e1 e2 e3;obtain ⟨j,hi,hj,hv⟩:=ZgM e2
  have hz:(x,j)∈(N.drop k).zip caps:=by
   refine List.mem_iff_getElem?.mpr ⟨i - k,?_⟩;rw [List.getElem?_zip_eq_some];refine ⟨?_,hj⟩;rw [List.getElem?_drop,show k+(i - k)=i by omega];exact e1
  obtain ⟨hp,hfr⟩:=S.cap (x,j) hz;have hk:=S.free (x,.free) (Xbp hfr) rfl;obtain ⟨m,hn,hl⟩:=I.loc;obtain ⟨u,r,l⟩:=hl j x v hp hv (by rcases hk with q | q;exact .inr (.inl q);exact .inr (.inr q));refine ⟨u,r,?_⟩;obtain ⟨c,hc1,hc2⟩:=capt x hfr
  have hcell:s.heap.IsCell c (some u):=by
   rcases l with ⟨q,_⟩ | ⟨_,c',q1,q2⟩
   · have q':X.env.scope.names.lookup x=some .local:=q
     rcases hk with z | z
     · rw [q'] at z;cases z
     · rw [q'] at z;cases z
   · rw [hc1] at q1;cases q1;exact q2
  exact .inr ⟨Zec hfr,c,hc2,hcell.keeps old⟩
 case cell =>
  intro x c e
  rcases split x c e with q | q
  · exact ⟨_,(own x c q).1⟩
  · obtain ⟨v,z⟩:=I.cell x c q
    exact ⟨v,z.keeps old⟩
 case freeC =>
  intro x c e
  rcases split x c e with q | q
  · have h1:@LE.le Nat _ (C+1) c:=(own x c q).2
    have h2:@LE.le Nat _ s.heap.objs.size c:=by omega
    exact updn c (show @Ne Nat c D by omega) (I.hok.fresh h2)
  · exact updn c (XaV (par x c q)) (I.freeC x c q)
 case hok =>
  exact I.hok.laid old (by rw [hD];exact XaS _) ⟨XaW _,[],0,.nil,hacc⟩
 case len =>
  show (Zbo k caps σ).length=N.length;unfold Zbo;rw [Xac,List.length_replicate,Xaa,S.len]
theorem Zfs {fp:List Addr} (I:Inv X pins σ H s) (S:CompScope X.env.scope X.N scope N k caps) {C:Addr} {pins':List (Addr×Obj)} {σ':St} {H':Hp} {s':Shared} (hfc:∀ x c,X.env.cells.lookup x=some c→c ∉ fp) (hD:s.heap.objs.size≤C)
 (J:Inv (ZaG X N scope (ZaT X scope C) C s H fp) pins' σ' H' s'):Inv (ZaG X N scope (ZaT X scope C) C s H fp) pins' (Zbo k caps σ) H' s':=by
 obtain ⟨m,hn,_⟩:=id J.loc;refine ⟨J.ok,J.os,J.bare,J.base,⟨m,hn,fun i x v e1 e2 e3=>?_⟩,J.cell,J.free,J.freeC,J.pin,J.hok,?_⟩
 · obtain ⟨j,hi,hj,hv⟩:=ZgM e2
   have hz:(x,j)∈(N.drop k).zip caps:=by
    refine List.mem_iff_getElem?.mpr ⟨i - k,?_⟩;rw [List.getElem?_zip_eq_some];refine ⟨?_,hj⟩;rw [List.getElem?_drop,show k+(i - k)=i by omega];exact e1
   obtain ⟨hp,hfr⟩:=S.cap (x,j) hz;have hk:=S.free (x,.free) (Xbp hfr) rfl;obtain ⟨m2,hn2,hl⟩:=I.loc;obtain ⟨u,r,l⟩:=hl j x v hp hv (by rcases hk with q | q;exact .inr (.inl q);exact .inr (.inr q));refine ⟨u,r,?_⟩
   have hcell:∃ c,X.env.cells.lookup x=some c∧s.heap.IsCell c (some u):=by
    rcases l with ⟨q,_⟩ | ⟨_,c',q1,q2⟩
    · have q':X.env.scope.names.lookup x=some .local:=q
      rcases hk with z | z
      · rw [q'] at z;cases z
      · rw [q'] at z;cases z
    · exact ⟨c',q1,q2⟩
   obtain ⟨c,hc1,o,ho,hd⟩:=hcell
   have hc2:(ZaT X scope C).lookup x=some c:=by
    have hm:=Xbp hfr;obtain ⟨c0,h0⟩:=ZcP (env:=X.env) (acc:=[]) hm;obtain ⟨c',hc'⟩:=Zb5 (l:=ZaT X scope C) (x:=x) (c:=c0) (by unfold ZaT;rw [Zba];exact Xan _ h0)
    rcases Zed (C:=C) I S (Xbp hc') with q | q
    · rcases Zcb q with z | z
      · simp at z
      · have:=ZdF S.ndn hm z;cases this
    · rw [hc1] at q;cases q;exact hc'
   obtain ⟨sl,q⟩:=J.base.any ho (I.freeC x c hc1) (hfc x c hc1);exact .inr ⟨Zec hfr,c,hc2,_,q,hd⟩
 · show (Zbo k caps σ).length=N.length
   unfold Zbo;rw [Xac,List.length_replicate,Xaa,S.len]
end
def PF (X:Cx) (ifs:List Expr) (t:TT):Prop :=
 ∀ (pins:List (Addr×Obj)) (s:Shared) (σ:St) (H:Hp) (Q:Bool→Hp→Prop),Inv X pins σ H s→t σ H Q →
  wpAny (model X.prog X.w) X.A (forIn ifs true fun c r=>if r=true then do let ok ←isTrue c X.env (eval c X.env);pure (ForInStep.yield ok) else pure (ForInStep.yield r)) (TP X pins σ Q) X.xe s
def tYes:TT:=fun _ H Q=>Q true H
theorem Zb1 {X:Cx}:PF X [] tYes:=fun _ _ _ H _ I h=>wpAny_tests_nil ⟨H,I,h⟩
theorem pf_one {X:Cx}{c:Expr}{t:TT} (h:PT X c t):PF X [c] t:=fun pins s σ H Q I hw=>wpAny_tests_one (h pins s σ H Q I hw)
theorem ZjJ {prog:Program}{w:World}{A:Around}{R:Result→Shared→Prop}{s:Shared}{elt target iter:Expr}{ifs:List Expr}{scope:Scope}{pos:Pos}{it acc:Value}{env:Env} (I:Nat→Shared→Prop)
 (turn:∀ n s,I n s→wpAny (model prog w) A (pyNext it) (fun r s₁=>match r with
  | none=>R (.ok .next) s₁
  | some v=>wpAny (model prog w) A (letOwnedTupleGo target it v) (fun _ s₁=>wpAny (model prog w) A (assign target env v) (fun _ s₂ =>
   wpAny (model prog w) A (forIn ifs true fun c r=>if r=true then do let ok ←isTrue c env (eval c env);pure (ForInStep.yield ok) else pure (ForInStep.yield r)) (fun ok s₃ =>
    if ok=true then wpAny (model prog w) A (eval elt env) (fun x s₄ =>
     wpAny (model prog w) A (call (.builtin "list.append") [acc,x]) (fun _ s₅=>∃ m,m<n∧I m s₅) (fun _ _=>False) s₄) (fun _ _=>False) s₃
    else ∃ m,m<n∧I m s₃) (fun _ _=>False) s₂) (fun _ _=>False) s₁) (fun _ _=>False) s₁) (fun _ _=>False) s)
 (n:Nat) (h:I n s) :
 codeAny (model prog w) A (.compLoop (.ListComp elt [⟨target,iter,ifs,0⟩] scope pos) 0 it acc env) R s:=by
 refine codeAny_loop rfl I (fun n s hI=>?_) n h
 show wpAny _ A ((compTurn (.ListComp elt [⟨target,iter,ifs,0⟩] scope pos) 0 it acc env).onRaise (fun x=>do noteFrame x env;theTreesLotGoes x)) _ _ s
 refine wpAny_noted ?_;rw [compTurn_list];refine Xbg (wpAny_standAt (Xbg (Xbq (turn n s hI) (fun r s₁ h₁=>?_) fun _ _ h'=>h'.elim)))
 cases r with
 | none=>exact Xbh h₁
 | some v =>
   refine Xbg (Xbq h₁ (fun _ s₁ h₁=>?_) fun _ _ h'=>h'.elim);refine Xbg (Xbq h₁ (fun _ s₂ h₂=>Xbg (Xbq h₂ (fun ok s₃ h₃=>?_) fun _ _ h'=>h'.elim)) fun _ _ h'=>h'.elim)
   cases ok with
   | false=>exact Xbh ⟨rfl,h₃⟩
   | true =>
     exact Xbg (Xbg (Xbq h₃ (fun x s₄ h₄=>Xbg (Xbq h₄ (fun _ s₅ h₅=>Xbh (Xbh ⟨rfl,h₅⟩)) fun _ _ h'=>h'.elim)) fun _ _ h'=>h'.elim))
def ZkI (k:Nat) (caps:List Nat) (wi:TI) (g:TG) (tc:TT) (te:TE):TE:=fun σ H Q=>wi σ H fun J H1=>∀ D,H1 D=none→∃ W:Nat→Nat→List V→Hp→Prop,(∃ m,W 0 m [] (upd H1 D (.lst [])))∧∀ i m ys H2,W i m ys H2 →
 (J.stop i H2∧Q (.ref D) H2)∨(J.go i H2∧∀ x H3,J.yld i H2 x H3→g x (Zbo k caps σ) H3 fun σ4 H4=>tc σ4 H4 fun b H5 =>
  if b=true then te σ4 H5 fun y H6=>H6 D=some (.lst ys)∧ys.length<sizeLine∧∃ m',m' < m∧W (i+1) m' (ys++[y]) (upd H6 D (.lst (ys++[y]))) else ∃ m',m' < m∧W (i+1) m' ys H5)
theorem Zft {X:Cx}{elt iter tg:Expr}{ifs:List Expr}{scope:Scope}{pos:Pos}{N:List Str}{k:Nat}{caps:List Nat}{g:TG}{tc:TT}{te:TE}{pins:List (Addr×Obj)} {σ:St} {H:Hp} {s:Shared} {E:Value→Shared→Prop} {Q:VK}
 {it:Addr} {fp:List Addr} {tn:Nat→Heap→Prop} {J:It} {RR:Value→Addr→Result→Shared→Prop} (hc:X.calm=true) (S:CompScope X.env.scope X.N scope N k caps) (I:Inv X pins σ H s)
 (T:Turn X.prog X.w X.K tg J fp it tn) (st:tn 0 s.heap) (hf:∀ b∈fp,FpOk X pins H b)
 (hg:∀ cs C s H ex,PG (ZaG X N scope cs C s H ex) tg g) (ht:∀ cs C s H ex,PF (ZaG X N scope cs C s H ex) ifs tc) (he:∀ cs C s H ex,PE (ZaG X N scope cs C s H ex) elt te)
 (q:∀ D,H D=none→∃ W:Nat→Nat→List V→Hp→Prop,(∃ m,W 0 m [] (upd H D (.lst [])))∧∀ i m ys H2,W i m ys H2 →
  (J.stop i H2∧Q (.ref D) H2)∨(J.go i H2∧∀ x H3,J.yld i H2 x H3→g x (Zbo k caps σ) H3 fun σ4 H4=>tc σ4 H4 fun b H5 =>
   if b=true then te σ4 H5 fun y H6=>H6 D=some (.lst ys)∧ys.length<sizeLine∧∃ m',m' < m∧W (i+1) m' (ys++[y]) (upd H6 D (.lst (ys++[y]))) else ∃ m',m' < m∧W (i+1) m' ys H5))
 (hRR:∀ D C H' s' m,C≠X.env.locals→(∀ x c,X.env.cells.lookup x=some c→c≠C)→s'.heap.Ns C m→(∀ h',Heap.SameBut C s'.heap h'→Inv X pins σ H' { s' with heap:=h' })→H' C=none→s.heap.objs.size≤C→Q (.ref D) H'→RR (.ref D) C (.ok .next) s') :
 wpAny (model X.prog X.w) X.A (newList []) (fun acc s₃=>wpAny (model X.prog X.w) X.A (newFunctionEnv scope X.env.globals (ZbV X.env scope.names []) [] X.env.qual none .none (some X.env)) (fun cenv s₄ =>
  codeAny (model X.prog X.w) X.A (.compStart (.ListComp elt [⟨tg,iter,ifs,0⟩] scope pos) 0 (.ref it) acc { cenv with scope:=relabel scope X.env }) (RR acc cenv.locals) s₄) E s₃) E s:=by
 refine wpAny_newObj_type (Zh5 ?_);generalize hD:s.heap.objs.size=D
 have hsz1:(s.heap.push { cls:=.type "list",dict:=none,data:=.seq ([]:List Value).toArray }).objs.size=D+1:=by rw [Heap.size_push,hD]
 dsimp only;rw [hsz1];have hfo:∀ b∈fp,∃ o,s.heap.get? b=some o:=fun b hb=>let ⟨o,e,_⟩:=T.obj 0 _ st b hb;⟨o,e⟩;have hHD:H D=none:=I.hok.fresh (by rw [hD];exact XaS _);have J0:=Zfr (t':=s.toks) I S hf hfo (D:=D) (C:=D+1) hD.symm rfl rfl;have hfc:∀ x c,X.env.cells.lookup x=some c→c ∉ fp:=fun x c e hb=>(hf c hb).2.2.2.2.1 x c e rfl
 have fpo:∀ {pins':List (Addr×Obj)} {H':Hp},(∀ b∈fp,H' b=none)→pins'=[]→∀ b∈fp,FpOk (ZaG X N scope (ZaT X scope (D+1)) (D+1) s H fp) pins' H' b:=fun {pins' H'} hn hp b hb=>by
  obtain ⟨o,e⟩:=hfo b hb
  have hlt:@LT.lt Nat _ b D:=by rw [←hD];exact Xbl e
  subst hp;refine ⟨hn b hb,?_,fun z=>?_,.inl hb,fun x c e=>(J0.ok.exf b hb).2 x c e,fun p hp=>absurd hp (by simp)⟩
  · show @Ne Nat b (D+1)
    omega
  · have z':b∈frs X.stack:=z
    rcases Xam.mp (I.stkSub b z') with w | w
    · exact (hf b hb).2.1 w
    · exact (hf b hb).2.2.1 w
 obtain ⟨W,⟨m0,w0⟩,turn⟩:=q D hHD
 have st1:tn 0 (pushCells ((s.heap.push { cls:=.type "list",data:=.seq #[] }).push { cls:=.type "dict",data:=.dict #[] }) scope.names):=T.keep 0 _ _ st fun b hb o e=>pushCells_keeps _ _ b o (Xbk _ (Xbk _ e))
 have fr0:∀ b∈fp,(upd H D (.lst [])) b=none:=fun b hb=>by
  obtain ⟨o,e⟩:=hfo b hb
  have hlt:@LT.lt Nat _ b D:=by rw [←hD];exact Xbl e
  rw [Zaf (show @Ne Nat b D by omega)];exact (hf b hb).1
 have fin:∀ {H':Hp} {s':Shared} {σ':St} {pins':List (Addr×Obj)},Inv (ZaG X N scope (ZaT X scope (D+1)) (D+1) s H fp) pins' σ' H' s'→Q (.ref D) H'→RR (.ref D) (D+1) (.ok .next) s':=fun {H' s' σ' pins'} J q=>by
  obtain ⟨m,hn,_⟩:=id J.loc;refine hRR D (D+1) H' s' m (fun z=>?_) (fun x c e z=>?_) hn (fun h' hs=>?_) J.free (by rw [hD];exact Nat.le_succ _) q
  · have h1:@LT.lt Nat _ X.env.locals D:=by rw [←hD];exact I.lt
    have z':@Eq Nat (D+1) X.env.locals:=z;omega
  · obtain ⟨v,y⟩:=I.cell x c e
    have h1:@LT.lt Nat _ c D:=by rw [←hD];exact y.lt
    have z':@Eq Nat c (D+1):=z;omega
  · refine I.call' (ch:=fp) J.os (J.base.but hs (by rw [hD];exact Nat.le_succ _)) (J.hok.but hs J.free) J.bare fun b hb=>?_
    exact ⟨(hf b hb).2.2.2.1,(hf b hb).2.1,(hf b hb).2.2.2.2.1,(hf b hb).2.2.2.2.2⟩
 have loop : codeAny (model X.prog X.w) X.A (.compLoop (.ListComp elt [⟨tg, iter, ifs, 0⟩] scope pos) 0 (.ref it) (.ref D) (compEnvC scope (ZaT X scope (D + 1)) (D + 1) X.env)) (RR (.ref D) (D + 1))
  { s with heap:=pushCells ((s.heap.push { cls:=.type "list",data:=.seq #[] }).push { cls:=.type "dict",data:=.dict #[] }) scope.names }:=by
  refine ZjJ (fun n s'=>∃ i ys H',Inv (ZaG X N scope (ZaT X scope (D+1)) (D+1) s H fp) [] (Zbo k caps σ) H' s'∧tn i s'.heap∧(∀ b∈fp,H' b=none)∧W i n ys H') ?_ m0 ⟨0,[],_,J0,st1,fr0,w0⟩;rintro n s3 ⟨i,ys,H3,I3,st3,fr3,w3⟩
  rcases turn i n ys H3 w3 with ⟨stop,qn⟩ | ⟨go,step⟩
  · refine thn (T.done (ZaG X N scope (ZaT X scope (D+1)) (D+1) s H fp) rfl rfl rfl hc i [] s3 _ H3 _ I3 (fpo fr3 rfl) st3 stop) fun r s4 ⟨hr,I4⟩=>?_
    subst hr;exact fin I4 qn
  · refine thn (T.item (ZaG X N scope (ZaT X scope (D+1)) (D+1) s H fp) rfl rfl rfl hc i [] s3 _ H3 _ I3 (fpo fr3 rfl) st3 go) fun r s4 ⟨u,hr,h4⟩=>?_
    subst hr;refine thn h4 fun _ s5 ⟨x,H5,I5,r5,y5,st5,fr5⟩=>?_;have I5':=I5.pinned (fpo fr5 rfl) (T.obj _ _ st5)
    have again:∀ {σ7:St} {H7:Hp} {s7:Shared} {m':Nat} {zs:List V},Inv (ZaG X N scope (ZaT X scope (D+1)) (D+1) s H fp) ([]++Zfp fp s5.heap) σ7 H7 s7→m' < n→W (i+1) m' zs H7 →
     ∃ m,m<n∧∃ i ys H',Inv (ZaG X N scope (ZaT X scope (D+1)) (D+1) s H fp) [] (Zbo k caps σ) H' s7∧tn i s7.heap∧(∀ b∈fp,H' b=none)∧W i m ys H':=fun {σ7 H7 s7 m' zs} I7 hm w7=>by
     refine ⟨m',hm,i+1,zs,H7,Zfs I S hfc (by rw [hD];exact Nat.le_succ _) I7.unpinned,T.keep _ _ _ st5 fun b hb o e=>(I7.pin (b,o) (Xan _ (Xan _ (Zcq hb e)))).1,fun b hb=>?_,w7⟩;obtain ⟨o,e,d⟩:=T.obj _ _ st5 b hb;exact (I7.pin (b,o) (Xan _ (Xan _ (Zcq hb e)))).2.1
    refine thn (hg _ _ _ _ _ _ s5 _ H5 x u _ I5' r5 (step x H5 y5)) fun _ s6 ⟨σ6,H6,I6,q6⟩=>?_;refine thn (ht _ _ _ _ _ _ s6 σ6 H6 _ I6 q6) fun b s7 ⟨H7,I7,q7⟩=>?_
    cases b with
    | false =>
      rw [Xa9 Xa7] at q7 ⊢;obtain ⟨m',hm,w7⟩:=q7;exact again I7 hm w7
    | true =>
      rw [Xba rfl] at q7 ⊢;refine thn (he _ _ _ _ _ _ s7 σ6 H7 _ I7 q7) fun y s8 ⟨yv,H8,I8,r8,hD8,hz8,m',hm,w8⟩=>?_;refine thn (ZeC (X:=ZaG X N scope (ZaT X scope (D+1)) (D+1) s H fp) _ s8 σ6 H8 (.ref D) [yv] (.ref D) [y] (fun _ H9=>W (i+1) m' (ys++[yv]) H9) I8 rfl (.cons r8 .nil) ⟨D,ys,yv,rfl,rfl,hD8,hz8,w8⟩) fun _ s9 ⟨_,H9,I9,_,w9⟩=>?_;exact again I9 hm w9
 exact codeAny_compStart_list loop (T.self _ 0 _ _ _ st1 loop)
theorem Zb6 {X:Cx}{elt iter tg:Expr}{ifs:List Expr}{scope:Scope}{pos:Pos}{N:List Str}{k:Nat}{caps:List Nat}{wi:TI}{g:TG}{tc:TT}{te:TE} (hc:X.calm=true) (S:CompScope X.env.scope X.N scope N k caps) (hi:PI X tg iter wi)
 (hg:∀ cs C s H ex,PG (ZaG X N scope cs C s H ex) tg g) (ht:∀ cs C s H ex,PF (ZaG X N scope cs C s H ex) ifs tc) (he:∀ cs C s H ex,PE (ZaG X N scope cs C s H ex) elt te)
 (hs:∀ x,foldedSetIterable iter X.env x=pure x:=by intro _;rfl):PE X (.ListComp elt [⟨tg,iter,ifs,0⟩] scope pos) (ZkI k caps wi g tc te):=by
 intro pins s σ H Q I h;have hcl:closureFor scope X.env=pure (ZbV X.env scope.names []):=Zcm fun x hx hfr=>I.ok.has x.1 (S.free x hx hfr);rw [eval_ListComp];refine wpAny_comprehension_free (use:=none) rfl hs hcl S.kind S.loc (thn (hi pins s σ H _ I h) fun v s1 h1=>thn h1 fun itv s2 h2=>?_);obtain ⟨it,fp,tn,J,H2,e,I2,T,st2,f2,q⟩:=h2;subst e;refine Zft (Q:=Q) hc S I2 T st2 f2 hg ht he q ?_;intro D C H' s' m _ _ hn hI _ _ hq;exact ⟨m,hn,fun h' hs'=>⟨.ref D,H',hI h' hs',rfl,hq⟩⟩
theorem ZjK {X:Cx}{elt iter tg:Expr}{ifs:List Expr}{scope:Scope}{pos spos:Pos}{N:List Str}{k i:Nat}{x:Str}{pos':Pos}{caps:List Nat}{wi:TI}{g:TG}{tc:TT}{te:TE} (hN:X.N.Nodup) (hi':X.N[i]?=some x) (hx:Loc X.env.scope x)
 (hc:X.calm=true) (S:CompScope X.env.scope X.N scope N k caps) (hi:PI X tg iter wi)
 (hg:∀ cs C s H ex,PG (ZaG X N scope cs C s H ex) tg g) (ht:∀ cs C s H ex,PF (ZaG X N scope cs C s H ex) ifs tc) (he:∀ cs C s H ex,PE (ZaG X N scope cs C s H ex) elt te)
 (hsw:swapsWith (.ListComp elt [⟨tg,iter,ifs,0⟩] scope pos) (some (.Name x pos')) spos.line X.env=pure true:=by rfl)
 (hs:∀ x,foldedSetIterable iter X.env x=pure x:=by intro _;rfl) (hfn:X.fn x=true∨X.env.scope.names.lookup x=some .local:=by first | exact .inl rfl | exact .inr rfl | assumption) :
 PS X (.Assign [.Name x pos'] (.ListComp elt [⟨tg,iter,ifs,0⟩] scope pos) spos) (tAsg (ZkI k caps wi g tc te) (Zc2 i)):=by
 intro pins s σ H D I h;have hcl:closureFor scope X.env=pure (ZbV X.env scope.names []):=Zcm fun x hx hfr=>I.ok.has x.1 (S.free x hx hfr);rw [exec_Assign_Name_used _ _ _ _ hsw];refine Xbg (wpAny_standAt (Xbg ?_))
 show wpAny _ _ (do let _ ←comprehension (.ListComp elt [⟨tg,iter,ifs,0⟩] scope pos) scope X.env _ (newList []) false (eval iter X.env) (some (assign (.Name x pos') X.env))) _ _ s
 refine Xbg (Xbq (wpAny_comprehension_free (use:=some (assign (.Name x pos') X.env)) (Q:=fun _ s'=>SP X pins D .next s') rfl hs hcl S.kind S.loc
  (thn (hi pins s σ H _ I h) fun v s1 h1=>thn h1 fun itv s2 h2=>?_)) (fun _ s' hq=>Xbh (Xbh hq)) fun _ _ e=>e)
 obtain ⟨it,fp,tn,J,H2,e,I2,T,st2,f2,q⟩:=h2;subst e;refine Zft (Q:=fun x H1=>Zc2 i x σ H1 D.nx) hc S I2 T st2 f2 hg ht he q ?_;intro D' C H' s' m hCL hCc hn hI hHC hCs hq;have I3:=hI s'.heap (.refl ..);have I3':Inv X pins σ H' s':=I3;refine wpAny_assign_Name (Zey I3' hN hi' hx (show RelV (V.ref D') (.ref D') from rfl) (fun s'' I4 ⟨a,hsb,ha⟩=>?_) hfn)
 have hCa:C≠a:=by
  rcases ha with ha | ha
  · rw [ha];exact hCL
  · exact Ne.symm (hCc x a ha)
 refine ⟨m,hn.sameBut hsb hCa,fun h' hs'=>?_⟩;refine ⟨_,H',?_,hq⟩
 exact I4.turned (t':=s''.toks) (fun b o hb e=>(hs'.2 b hb).trans e) hHC hCL (.inr (Xbc I2.sz hCs)) hCc fun p hp z=>by
  have:=Xbl (I2.pin p hp).1
  rw [z] at this;exact absurd (Xbb this hCs) (XaT _)
def Zbb (P:Program) (w:World) (K:XFg) (mg:Str→Option Value) (base:Heap) (x:Str) (k:Nat) (ps:List Str) (sp:Sp):Prop :=
 ∃ f fd,FnOk P w K mg base CX0 k f fd ps sp∧mg x=some (.ref f)∧PySem.W.keepIn K (.ref f)=true∧Binds K fd ps []
section
variable {X:Cx} {x:Str} {k:Nat} {ps:List Str} {sp:Sp} {e:Expr} {es:List Expr} {t:TA} {p pos:Pos}
theorem ZaU (C:Zbb X.prog X.w X.K X.mg X.base x k ps sp) (ha:PA X (e :: es) t) (hr:Room k X.A:=by exact Room.mono (by assumption) (by decide)) (hg:Gl X x:=by rfl) (hdb:(x == ("__debug__" : Str))=false:=by decide)
 (he:starEach (e :: es) X.env=(false,eval e X.env) :: starEach es X.env:=by rfl) (hpl:(backTo pos (starEach es X.env)).any (·.1)=false:=by rfl):PE X (.Call (.Name x p) (e :: es) [] pos) (ZkE sp [] E0 t):=by
 obtain ⟨f,fd,F,hm,hk,hb⟩:=C;exact Zju F hr hg hm hk hb .nil pass0 ha hdb he hpl
end
theorem Zhw {X:Cx}{x:Str}{pos:Pos} (n:String) (hg:Gl X x) (hm:X.mg x=none) (hv:bootBuiltins x=some (.type n)) (hn:x ≠ "__name__" := by decide) (hd:(x == ("__debug__" : Str))=false:=by decide):PE X (.Name x pos) (tC (.ty n)):=pe_bltn (v:=.ty n) hg hm hv rfl hn hd
theorem Zcw {t u:TS}{D:Ends}{σ:L2.St}{H:Hp} (P:L2.St→Hp→Prop) (hu:∀ σ' H',P σ' H'→u D σ' H') (ht:∀ N:L2.St→Hp→Prop,(∀ σ' H',P σ' H'→N σ' H')→t { D with nx:=N } σ H):tSeq t u D σ H:=ht (u D) hu
theorem Same.upd {H H':Hp}{D:Addr}{o:HO} (h:Same H H') (hn:H D=none):Same H (upd H' D o):=fun b u e=>by
 rw [Zaf (Zag e hn)];exact h b u e
theorem Same.seqT {K:XFg}{H H':Hp}{a:Addr}{xs:List V} (e:Same H H') (h:SqT K H a xs):SqT K H' a xs:=by
 rcases h with (h | ⟨o,h⟩) | h
 · exact .inl (.inl (e _ _ h))
 · exact .inl (.inr ⟨o,e _ _ h⟩)
 · exact .inr h
theorem ZdY {k:Nat}{caps:List Nat}{g:TG}{te:TE}{σ:St}{H1:Hp}{Q:Addr→Hp→Prop}{lo:Int}{n:Nat} (f:Nat→V) (hn:n≤sizeLine)
 (hs:∀ (i:Nat) (H2:Hp) (D:Addr) (R:VK),i<n→Same H1 H2→H1 D=none→(∀ H3,Same H2 H3→R (f i) H3)→g (.int (lo+i)) (Zbo k caps σ) H2 fun σ4 H4=>te σ4 H4 R)
 (hd:∀ (H2:Hp) (D:Addr),Same H1 H2→H1 D=none→H2 D=some (.lst ((List.range n).map f))→Q D H2) :
 ∀ D,H1 D=none→∃ W:Nat→Nat→List V→Hp→Prop,(∃ m,W 0 m [] (upd H1 D (.lst [])))∧∀ i m ys H2,W i m ys H2 →
  ((Itr lo n).stop i H2∧Q D H2)∨((Itr lo n).go i H2∧∀ x H3,(Itr lo n).yld i H2 x H3→g x (Zbo k caps σ) H3 fun σ4 H4=>tYes σ4 H4 fun b H5 =>
   if b=true then te σ4 H5 fun y H6=>H6 D=some (.lst ys)∧ys.length<sizeLine∧∃ m',m' < m∧W (i+1) m' (ys++[y]) (upd H6 D (.lst (ys++[y]))) else ∃ m',m' < m∧W (i+1) m' ys H5):=by
 intro D hD;refine ⟨fun i m ys H2=>m=n - i∧i≤n∧ys=(List.range i).map f∧Same H1 H2∧H2 D=some (.lst ys),⟨n,rfl,XaW _,rfl,(Same.refl _).upd hD,Zac⟩,?_⟩;rintro i m ys H2 ⟨rfl,hi,rfl,s2,e2⟩
 by_cases hlt:i<n
 · refine .inr ⟨hlt,fun x H3 y=>?_⟩
   obtain ⟨rfl,rfl⟩:=y;refine hs i H3 D _ hlt s2 hD fun H4 s4=>?_;refine ⟨s4 _ _ e2,by rw [Xaa,List.length_range];omega,n - (i+1),by omega,rfl,hlt,?_,(s2.trans s4).upd hD,Zac⟩;rw [List.range_succ,Xad];rfl
 · have e:i=n:=by omega
   subst e;exact .inl ⟨XaS _,hd H2 D s2 hD e2⟩
theorem ZjL {K:XFg}{a:Addr}{xs:List V}{k:Nat}{caps:List Nat}{g:TG}{te:TE}{σ:St}{H1:Hp}{Q:Addr→Hp→Prop} (f:V→V) (hn:xs.length≤sizeLine) (hq:SqL K H1 a xs)
 (hs:∀ (i:Nat) (x:V) (H2:Hp) (D:Addr) (R:VK),xs[i]?=some x→Same H1 H2→H1 D=none→(∀ H3,Same H2 H3→R (f x) H3)→g x (Zbo k caps σ) H2 fun σ4 H4=>te σ4 H4 R)
 (hd:∀ (H2:Hp) (D:Addr),Same H1 H2→H1 D=none→H2 D=some (.lst (xs.map f))→Q D H2) :
 ∀ D,H1 D=none→∃ W:Nat→Nat→List V→Hp→Prop,(∃ m,W 0 m [] (upd H1 D (.lst [])))∧∀ i m ys H2,W i m ys H2 →
  ((Itl K a).stop i H2∧Q D H2)∨((Itl K a).go i H2∧∀ x H3,(Itl K a).yld i H2 x H3→g x (Zbo k caps σ) H3 fun σ4 H4=>tYes σ4 H4 fun b H5 =>
   if b=true then te σ4 H5 fun y H6=>H6 D=some (.lst ys)∧ys.length<sizeLine∧∃ m',m' < m∧W (i+1) m' (ys++[y]) (upd H6 D (.lst (ys++[y]))) else ∃ m',m' < m∧W (i+1) m' ys H5):=by
 intro D hD;refine ⟨fun i m ys H2=>m=xs.length - i∧i≤xs.length∧ys=(xs.take i).map f∧Same H1 H2∧H2 D=some (.lst ys),⟨xs.length,rfl,XaW _,rfl,(Same.refl _).upd hD,Zac⟩,?_⟩;rintro i m ys H2 ⟨rfl,hi,rfl,s2,e2⟩;have q2:=s2.seq hq
 by_cases hlt:i<xs.length
 · refine .inr ⟨⟨xs,xs[i],q2,by simp [hlt]⟩,fun x H3 y=>?_⟩
   obtain ⟨rfl,y⟩:=y;have hx:=y xs q2;refine hs i x H3 D _ hx s2 hD fun H4 s4=>?_;refine ⟨s4 _ _ e2,by rw [Xaa,Xaw];omega,xs.length - (i+1),by omega,rfl,hlt,?_,(s2.trans s4).upd hD,Zac⟩;rw [Xar,hx,Xad];rfl
 · have e:i=xs.length:=by omega
   subst e;rw [Xas] at e2;exact .inl ⟨⟨xs,q2,XaS _⟩,hd H2 D s2 hD e2⟩
theorem Zh7 {x:Str}{k:Nat}{caps:List Nat}{g:TG}{te:TE}{σ:St}{H1:Hp}{Q:Addr→Hp→Prop} (f:Nat→V) (hn:x.cps.size≤sizeLine)
 (hs:∀ (i c:Nat) (H2:Hp) (D:Addr) (R:VK),x.cps[i]?=some c→Same H1 H2→H1 D=none→(∀ H3,Same H2 H3→R (f c) H3)→g (.str ⟨#[c]⟩) (Zbo k caps σ) H2 fun σ4 H4=>te σ4 H4 R)
 (hd:∀ (H2:Hp) (D:Addr),Same H1 H2→H1 D=none→H2 D=some (.lst (x.cps.toList.map f))→Q D H2) :
 ∀ D,H1 D=none→∃ W:Nat→Nat→List V→Hp→Prop,(∃ m,W 0 m [] (upd H1 D (.lst [])))∧∀ i m ys H2,W i m ys H2 →
  ((Its x).stop i H2∧Q D H2)∨((Its x).go i H2∧∀ y H3,(Its x).yld i H2 y H3→g y (Zbo k caps σ) H3 fun σ4 H4=>tYes σ4 H4 fun b H5 =>
   if b=true then te σ4 H5 fun y H6=>H6 D=some (.lst ys)∧ys.length<sizeLine∧∃ m',m' < m∧W (i+1) m' (ys++[y]) (upd H6 D (.lst (ys++[y]))) else ∃ m',m' < m∧W (i+1) m' ys H5):=by
 intro D hD;refine ⟨fun i m ys H2=>m=x.cps.size - i∧i≤x.cps.size∧ys=(x.cps.toList.take i).map f∧Same H1 H2∧H2 D=some (.lst ys),⟨x.cps.size,rfl,XaW _,rfl,(Same.refl _).upd hD,Zac⟩,?_⟩;rintro i m ys H2 ⟨rfl,hi,rfl,s2,e2⟩
 by_cases hlt:i<x.cps.size
 · refine .inr ⟨hlt,fun y H3 hy=>?_⟩
   obtain ⟨rfl,c,hc,rfl⟩:=hy
   have hc':x.cps.toList[i]?=some c:=by simpa using hc
   refine hs i c H3 D _ hc s2 hD fun H4 s4=>?_;refine ⟨s4 _ _ e2,by rw [Xaa,Xaw];omega,x.cps.size - (i+1),by omega,rfl,hlt,?_,(s2.trans s4).upd hD,Zac⟩;rw [Xar,hc',Xad];rfl
 · have e:i=x.cps.size:=by omega
   rw [e,List.take_of_length_le (by simp)] at e2;exact .inl ⟨e,hd H2 D s2 hD e2⟩
abbrev tx (cs:List Nat):Str:=⟨cs.toArray⟩
theorem Zhx (cs:List Nat):(tx cs).cps.toList=cs:=by simp [tx]
theorem Zh8 (cs:List Nat):(tx cs).length=cs.length:=by simp [tx,Str.length]
theorem tx_inj {a b:List Nat} (h:tx a=tx b):a=b:=by
 have:=Xbf (fun s=>s.cps.toList) h
 simpa [tx] using this
theorem ZfT (a y:Str):(a++y).cps.toList=a.cps.toList++y.cps.toList:=by rw [PySem.Str.cps_append,Array.toList_append]
theorem join_tx (ys:List Str):(Txt.join (Str.ofString "") ys).cps.toList=(ys.map fun y=>y.cps.toList).flatten:=by
 show (Builtin.Str.glued (Str.ofString "") ys).cps.toList=_
 rw [StrLaws.glued_eq_join]
 induction ys with
 | nil=>rfl
 | cons a r ih =>
   cases r with
   | nil=>simp [Str.join]
   | cons b r =>
     rw [join_cons_cons,ZfT,ZfT,ih]
     have z:(Str.ofString "").cps.toList=[]:=by decide +kernel
     rw [z]
     simp
theorem ZgN (cs:List Nat):Txt.join (Str.ofString "") (cs.map fun c=>(⟨#[c]⟩:Str))=tx cs:=by
 refine ext_toList ?_;rw [join_tx,Zhx,Xax]
 induction cs with
 | nil=>rfl
 | cons c r ih =>
   rw [Xao,List.flatten_cons,ih];rfl
theorem ZgO {ys:List Str} (h:∀ y∈ys,y.length≤8) (hn:ys.length≤100):JoinOk (Str.ofString "") ys=true:=by
 refine joinOk_of_weight ?_ (by decide +kernel)
 have:(ys.map (·.length)).sum≤8 * ys.length:=by
  clear hn
  induction ys with
  | nil=>simp
  | cons a r ih =>
    have h1:=h a (by simp);have h2:=ih fun y hy=>h y (by simp [hy]);simp only [Xao,List.sum_cons,XaB];omega
 omega
theorem ZfU {c d:Nat}:(decide (([c]:List Nat) < [d]))=decide (c<d):=by
 by_cases h:c<d
 · rw [Xa1 h,Xa1]
   exact List.Lex.rel h
 · rw [Xa2 h,Xa2]
   intro q
   cases q with
   | rel q=>exact h q
   | cons q=>cases q
def ZbT (ns:List Int) (k:Int):Int:=(ns[k.toNat]?).getD 0
theorem ZkJ {v:V}{i:Nat}{u:TS}{D:Ends}{σ:St}{H:Hp} (h:u D (σ.set i (some v)) H):tSeq (tAsg (tC v) (Zc2 i)) u D σ H:=h
theorem ixN_in {n:Nat}{k:Int} (h0:0≤k) (h1:k<n):ixN n k=some k.toNat:=by
 unfold ixN;rw [Xba h0,Xba h1]
theorem ZdG (xs:List V) (n:Nat):cutV xs none (some (n:Int))=xs.take n:=by
 unfold cutV;rw [HT.sIx_none,HT.sIx_nat,List.drop_zero,Nat.sub_zero]
 by_cases h:n≤xs.length
 · rw [Nat.min_eq_left h]
 · rw [Nat.min_eq_right (by omega),List.take_of_length_le (XaS _),List.take_of_length_le (by omega)]
theorem ZgP (xs:List V) (n:Nat):cutV xs (some (n:Int)) none=xs.drop n:=by
 unfold cutV;rw [HT.sIx_none,HT.sIx_nat]
 by_cases h:n≤xs.length
 · rw [Nat.min_eq_left h,List.take_of_length_le (by rw [XaF];exact XaS _)]
 · rw [Nat.min_eq_right (by omega),List.drop_of_length_le (XaS _),List.drop_of_length_le (by omega)]
   simp
theorem ZjM (xs:List V):cutV xs none (some (-1))=xs.dropLast:=by
 unfold cutV;rw [HT.sIx_none,List.drop_zero,Nat.sub_zero,List.dropLast_eq_take];congr 1;simp [HT.sIx];omega
theorem ZkK (xs:List V) (a b:Nat) (hab:a≤b):cutV xs (some (a:Int)) (some (b:Int))=(xs.drop a).take (b - a):=by
 unfold cutV;rw [HT.sIx_nat,HT.sIx_nat]
 by_cases ha:a≤xs.length
 · rw [Nat.min_eq_left ha]
   by_cases hb:b≤xs.length
   · rw [Nat.min_eq_left hb]
   · rw [Nat.min_eq_right (show xs.length≤b by omega),List.take_of_length_le (by rw [XaF];exact XaS _),List.take_of_length_le (by rw [XaF];omega)]
 · rw [Nat.min_eq_right (show xs.length≤a by omega),List.drop_of_length_le (XaS _),List.drop_of_length_le (show xs.length≤a by omega)]
   simp
theorem Zaj {H:Hp}{p:Addr}{o:HO} (h:H p=none):Same H (upd H p o):=(Same.refl H).upd h
theorem g_in {i:Nat}{v:V}{σ:L2.St}{H:Hp}{N:L2.St→Hp→Prop} (h:N (σ.set i (some v)) H):Zc2 i v σ H N:=h
section
variable {X:Cx}
theorem ZaD:MtR X "list.append" Zjy:=ZeC
theorem ZcQ:MtR X "list.extend" Zjz:=ZjA
theorem ZiP:MtR X "list.reverse" ZhZ:=ZiM
end
abbrev xMod:R2:=rI (fun _ j=>0<j) fun i j=>.int (i % j)
abbrev xDiv:R2:=rI CDiv fun i j=>.int (i / j)
abbrev xMul:R2:=rI CMul fun i j=>.int (i * j)
abbrev xAdd:R2:=rI0 fun i j=>.int (i+j)
section
variable {X:Cx}
def rSetD:V→List V→Hp→VK→Prop:=fun x vs H Q=>∃ a kvs k d,x=.ref a∧vs=[kV k,d]∧H a=some (.dK kvs)∧kvs.length<sizeLine∧(∀ v,valV kvs k=some v→Q v H)∧(valV kvs k=none→Q d (upd H a (.dK (putK kvs k d))))
theorem ZfV:MtR X "dict.setdefault" rSetD:=by
 intro pins s σ H x vs v us Q I rx rv h;obtain ⟨a,kvs,k,d,rfl,rfl,hd,hz,q1,q2⟩:=h;cases rx;obtain ⟨u,r,rfl,ru,rr⟩:=Zjt rv;obtain ⟨z,hm,ws,rel,dd⟩:=dk_of I.hok hd
 have hl:ws.length≤sizeLine:=by rw [←rel.length];exact z
 have hv:=rel.val k
 refine call_meetsIn PySem.F.slot_dict_setdefault dd.typeIs PySem.F.entry_dict_setdefault (PySem.F.args_dict_setdefault_3 _ _ _) (kt_meets_setdefault (Zbt X.prog X.w) a (ZiN ru) hm r)
  ⟨ws,dd,hl,fun y hy=>?_,fun hn h' dd' hs=>?_⟩
 · rw [hy] at hv
   cases e:valV kvs k with
   | none=>rw [e] at hv;exact False.elim hv
   | some v0 =>
     rw [e] at hv;exact ⟨v0,H,I.tok _,hv,q1 v0 e⟩
 · rw [hn] at hv
   cases e:valV kvs k with
   | some v0=>rw [e] at hv;exact False.elim hv
   | none =>
     have hl:(putK kvs k d).length≤sizeLine:=by have:=Zdz kvs k d;omega
     have he:∃ q,h'.get? a=some q:=let ⟨q,_,_,hq,_⟩:=dd';⟨q,hq⟩;exact ⟨d,_,Zhu I (by rw [hd];exact True.intro) hs he (dk_new hl hm (rel.put k rr) dd'),rr,q2 e⟩
def rGetD:V→List V→Hp→VK→Prop:=fun x vs H Q=>∃ a y z o,x=.ref a∧vs=[y,z]∧DGet H a y o∧Q (o.getD z) H
theorem mt_get (hu:X.A.units+1<cLine):MtR X "dict.get" rGetD:=by
 intro pins s σ H x vs v us Q I rx rv h;obtain ⟨a,y,z,o,rfl,rfl,g,q⟩:=h;cases rx;obtain ⟨u,r,rfl,ru,rr⟩:=Zjt rv;exact d_get2 hu I g ru rr fun w' s' I' rw'=>⟨_,H,I',rw',q⟩
def rInDict (neg:Bool):R2:=fun x y H Q=>∃ a o,y=.ref a∧DGet H a x o∧Q (.bl (o.isSome != neg)) H
theorem Zee (hu:X.A.units+1<cLine):OpR X (compareOp .NotIn) (rInDict true):=by
 intro pins s σ H x y v u Q I rx ry h;obtain ⟨a,o,rfl,g,q⟩:=h;cases ry;refine d_notIn hu I g rx fun s' I'=>⟨.bl _,H,I',?_,q⟩
 cases o <;> rfl
def ZkL:V→V→V→Hp→(Hp→Prop)→Prop:=fun o i v H Q=>∃ a H',o=.ref a∧DPut H a i v H'∧Q H'
theorem ZkM (hu:X.A.units+1<cLine):PSet X ZkL:=by
 intro pins s σ H o i v ov iv u Q I ro ri rv h;obtain ⟨a,H',rfl,g,q⟩:=h;cases ro;exact ZjE hu I g ri rv fun s' I'=>⟨H',I',q⟩
theorem Zhy {a:Expr}{ta:TE} (ha:PE X a ta) (he:∀ whole,isTrue a X.env whole=(do let v ←whole;standAt a.pos;holding [v] (truthy v)):=by intro _;rfl) :
 PT X a (fun σ H Q=>ta σ H fun x H1=>∃ p xs,x=.ref p∧SqL X.K H1 p xs∧Q (!xs.isEmpty) H1):=by
 intro pins s σ H Q I hw;refine isTrue_plain (thn (ha pins s σ H _ I hw) fun v s1 ⟨x,H1,I1,r1,q1⟩=>?_) (he _);obtain ⟨p,xs,rfl,hq,q⟩:=q1;exact tru_ok pins s1 σ H1 _ v Q I1 r1 ⟨_,Or.inl ⟨xs,hq,rfl⟩,q⟩
end
def metS (f:Nat→Str) (i:Nat):List Str:=((List.range i).map f).foldl step_dedup []
theorem Zc5 (f:Nat→Str) (i:Nat):metS f (i+1)=step_dedup (metS f i) (f i):=by
 unfold metS;rw [List.range_succ,Xad,XaQ];rfl
theorem ZjN (l:List Str) (x:Str):(step_dedup l x).length=if l.any (· == x) then l.length else l.length+1:=by
 unfold step_dedup
 split <;> simp
theorem dd_any (l:List Str) (x y:Str):(step_dedup l x).any (· == y)=(l.any (· == y) || decide (y=x)):=by
 unfold step_dedup
 by_cases h:l.any (· == x)=true
 · rw [Xba h]
   by_cases e:y=x
   · subst e;rw [h];rfl
   · rw [Xa2 e,Bool.or_false]
 · rw [Xa9 h,List.any_append]
   congr 1
   by_cases e:y=x
   · subst e;simp
   · rw [Xa2 e]
     simp
     exact fun z=>e z.symm
theorem ZfW (f:Nat→Str):∀ i,(metS f i).length≤i
 | 0=>XaS _
 | i+1=>by
   have:=ZfW f i
   rw [Zc5,ZjN]
   split <;> omega
theorem ZfX (f:Nat→Str):∀ (i:Nat) (y:Str),(metS f i).any (· == y)=true↔∃ j,j<i∧f j=y
 | 0,y=>by
   constructor
   · intro h;cases h
   · rintro ⟨j,h,_⟩;omega
 | i + 1, y => by
   rw [Zc5,dd_any,Bool.or_eq_true,ZfX f i y,decide_eq_true_iff]
   constructor
   · rintro (⟨j,h,e⟩ | e)
     · exact ⟨j,by omega,e⟩
     · exact ⟨i,by omega,e.symm⟩
   · rintro ⟨j,h,e⟩
     by_cases hj:j=i
     · subst hj;exact .inr e.symm
     · exact .inl ⟨j,by omega,e⟩
theorem Zh9 (f:Nat→Str):∀ i,(metS f i).length=i↔∀ a b,a<b→b<i→f a≠f b
 | 0=>⟨fun _ a b _ h=>by omega,fun _=>rfl⟩
 | i + 1 => by
   have ih:=Zh9 f i;have hle:=ZfW f i;rw [Zc5,ZjN]
   constructor
   · intro h a b hab hb e
     split at h
     · omega
     · rename_i hn
       have hi:(metS f i).length=i:=by omega
       by_cases hbi:b=i
       · subst hbi
         exact hn ((ZfX f b _).mpr ⟨a,hab,e⟩)
       · exact ih.mp hi a b hab (by omega) e
   · intro h
     have hi:(metS f i).length=i:=ih.mpr fun a b hab hb=>h a b hab (by omega);rw [Xa9,hi];intro hn;obtain ⟨j,hj,e⟩:=(ZfX f i _).mp hn;exact h j i hj (by omega) e
section
variable {prog:Program} {w:World} {A:Around} {R:Result→Shared→Prop} {It:Addr} {fp wr:List Addr} {G:Array GenState→Array GenState→Prop} {n:Nat} {Pn:Nat→Value→Prop} {Sn:Nat→Shared→Prop}
theorem ZjO (Wk:WalksS prog w A.in1 It fp wr G n Pn Sn) (D:Addr) (nD:D ∉ fp) (f:Nat→Str) (hf:∀ i v,Pn i v→∃ t,v=.str (f i) t) (small:n+1<scanBound) :
 ∀ (k i:Nat) (s:Shared),n - i=k→i≤n→Sn i s→s.heap.SetOf (strKind prog w) D (fun y=>(metS f i).any (· == y)) (metS f i).length →
  (∀ s',Moved (D :: wr) G s s'→s'.heap.SetOf (strKind prog w) D (fun y=>(metS f n).any (· == y)) (metS f n).length→R (.ok (.ret .none)) s') →
  codeAny (model prog w) A (.builtin "set.update.loop" ⟨[.ref D,.ref It],[]⟩) R s:=by
 have nDw:D ∉ wr:=fun z=>nD (Wk.sub _ z);have sub:∀ b∈wr,b∈D :: wr:=fun b z=>Xap _ z;intro k
 induction k with
 | zero =>
   intro i s hk hi st hS fin
   obtain rfl:i=n:=by omega
   refine codeAny_builtin F.entry_set_update_loop ?_;rw [Around.under_plainId F.plain_set_update_loop _];show wpAny _ A.in1 (pyNext (.ref It) >>= _) _ _ s;refine Xbg (Wk.done s _ _ st fun s2 mv=>?_);show wpAny _ A.in1 (ret Value.none) _ _ s2;refine Xbh (fin s2 (mv.mono sub) ?_);obtain ⟨ob,es,ep,tb,e,more⟩:=hS;exact ⟨ob,es,ep,tb,mv.heap D _ nDw e,more⟩
 | succ k ih =>
   intro i s hk hi st hS fin
   have lt:i<n:=by omega
   refine codeAny_builtin F.entry_set_update_loop ?_;rw [Around.under_plainId F.plain_set_update_loop _];show wpAny _ A.in1 (pyNext (.ref It) >>= _) _ _ s;refine Xbg (Wk.item i s _ _ lt st fun v s2 pv st2 mv=>?_);obtain ⟨t,rfl⟩:=hf i v pv
   have hS2:s2.heap.SetOf (strKind prog w) D (fun y=>(metS f i).any (· == y)) (metS f i).length:=by
    obtain ⟨ob,es,ep,tb,e,more⟩:=hS;exact ⟨ob,es,ep,tb,mv.heap D _ nDw e,more⟩
   show wpAny _ A.in1 (holding [Value.str (f i) t] (setAdd D (.str (f i) t)) >>= _) _ _ s2;refine Xbg (Xbi ?_);unfold setAdd;refine Xbi ?_;have isk:(strKind prog w).is (f i) (.str (f i) t)=true:=strKind_is _ _ _ _;refine Xbg ((strKind prog w).pyHash (k:=f i) isk ?_)
   have room:(metS f i).length+1<scanBound:=by have:=ZfW f i;omega
   refine wpAny_setAddHashed_of (knd:=strKind prog w) (s:={ s2 with toks:=s2.toks+1 }) isk rfl hS2 room fun h3 sb hS3=>?_
   have hS4:h3.SetOf (strKind prog w) D (fun y=>(metS f (i+1)).any (· == y)) (metS f (i+1)).length :=
    SetOf_congr hS3 (fun y=>by rw [Zc5,dd_any]) (by rw [Zc5,ZjN])
   refine Xbh ⟨plainId_quiet F.plain_set_update_loop _,ih (i+1) _ (by omega) lt (Wk.frame _ s2 _ _ st2 (Nat.le_succ _) fun b hb o e=>?_) hS4 fun s5 mv5 hS5=>?_⟩
   · rw [sb.2 b fun z:b=D=>nD (by rw [←z];exact hb)]
     exact e
   · refine fin s5 (Moved.trans Wk.gtrans ((mv.mono sub).then_heap (Nat.le_succ _) fun b o hb e=>?_) mv5) hS5
     rw [sb.2 b fun z:b=D=>hb (by rw [z];exact Xal)];exact e
end
abbrev Zdr (b:Bool):Obj:={ cls:=.type "set",dict:=none,data:=.set #[] 0 (.fresh 0 0 b) }
section
variable {prog:Program} {w:World} {A:Around} {E:Value→Shared→Prop} {s:Shared}
set_option maxRecDepth 100000 in
set_option maxHeartbeats 3200000 in
theorem ZfY {l : Addr} {its : Array Value} {f : Nat → Str} {Q : Value → Shared → Prop} (hh : A.handled = none) (hl : s.heap.IsList l its) (hi : ∀ (i : Nat) (v : Value), its[i]? = some v → ∃ t, v = .str (f i) t) (hb : its.size + 1 < scanBound)
 (h:∀ (h':Heap) (tk:Nat),h'.SetOf (strKind prog w) s.heap.objs.size (fun y=>(metS f its.size).any (· == y)) (metS f its.size).length →
  (∀ b o,b<s.heap.objs.size→s.heap.get? b=some o→h'.get? b=some o)→Q (.ref s.heap.objs.size) { s with heap:=h',toks:=tk }) :
 wpAny (model prog w) A (call (.type "set") [.ref l]) Q E s:=by
 obtain ⟨c,tl,hmro⟩:=F.called_set.mro;have hmade:=F.called_set.made;have hsub:=F.called_set.sub;refine wpAny_call (codeAny_of_tree ?_)
 show wpAny _ _ (callAny (.type "set") _) _ _ _
 refine Xbh ⟨Code.quiet_builtin _ (by decide +kernel),codeAny_builtin F.entry_type_call ?_⟩
 rw [Around.under_plain (weight_type_call_type "set" [.ref l] []) rfl]
 have h1:=F.called_set.notType;have h2:=F.called_set.canCreate;have hct:=F.typeCall_set_1 (.ref l)
 repeat (any_goals (first | assumption | wp_step))
 refine codeAny_mono (code_set_new_1 (.ref l) (E:=E) (Q₁:=fun ob s1=>∃ b:Bool,ob=.ref s.heap.objs.size∧s1={ s with heap:=s.heap.push (Zdr b) }) fun b=>⟨b,rfl,rfl⟩) fun r s1 hr=>?_
 cases r with
 | error e=>exact hr
 | ok fl =>
   cases fl with
   | ret ob =>
     obtain ⟨b0,rfl,rfl⟩:=hr;have hS:(s.heap.push (Zdr b0)).get? s.heap.objs.size=some (Zdr b0):=Xbm _ rfl
     have hT:Shared.TypeIs { s with heap:=s.heap.push (Zdr b0) } (.ref s.heap.objs.size) "set" := ⟨_,hS,rfl⟩
     have hli:=F.called_set.init.lookup;have hbi:=F.called_set.init.bind (.ref s.heap.objs.size)
     repeat (any_goals (first | assumption | wp_step))
     refine codeAny_mono (codeAny_call_builtin (R:=wants (fun r s2=>r=.none∧∃ h' tk,s2={ s with heap:=h',toks:=tk }∧h'.SetOf (strKind prog w) s.heap.objs.size (fun y=>(metS f its.size).any (· == y)) (metS f its.size).length ∧
      (∀ b o,b<s.heap.objs.size→s.heap.get? b=some o→h'.get? b=some o)) E) F.called_set.init.plain F.entry_set_init (check_set_init_1 hT ?_)) fun r2 s2 hr2=>?_
     · obtain ⟨⟨oc,od,oda,osl⟩,hol,hcl,nl,hdl⟩:=hl
       simp only at hcl hdl;subst hcl;subst hdl
       have hol2:(s.heap.push (Zdr b0)).get? l=some { cls:=.type "list",dict:=od,data:=.seq its nl,slots:=osl }:=Xbk _ hol
       have hsls:=F.sub_list_set;have hslf:=F.sub_list_frozenset
       have hne:(Value.type "list" == Value.type "dict")=false:=by decide
       have hl1:(s.heap.push (Zdr b0)).IsList l its:=⟨_,hol2,rfl,nl,rfl⟩;unfold Builtin.«set.__init__» noKeywords Builtin.Frozenset.updateFrom;generalize hPI:pyIter=PI
       wp_walk
       subst hPI;refine wpAny_pyIter_list hl1 (Xbg (wpAny_runValue ?_));have ltl:l<s.heap.objs.size:=Xbl hol
       have hh3:A.in1.in1.in1.handled=none:=by simp [hh]
       have neI:l≠(s.heap.push (Zdr b0)).objs.size:=by
        rw [Heap.size_push];exact XaV (Nat.lt_succ_of_lt ltl)
       have nSf:s.heap.objs.size ∉ [(s.heap.push (Zdr b0)).objs.size,l]:=by
        rw [Heap.size_push];intro z
        rcases Xam.mp z with z | z
        · exact absurd z (XaV (Nat.lt_succ_self _))
        · exact absurd (Xaj.mp z) (Nat.ne_of_gt ltl)
       refine ZjO ((Walks.list hh3 _ l neI its).toS) s.heap.objs.size nSf f hi hb (its.size - 0) 0 _ (by omega) (XaW _) ⟨⟨_,Xbm _ rfl,rfl,rfl⟩,(hl1.push _)⟩ ?hS0 ?hR
       case hS0 =>
        have hg:((s.heap.push (Zdr b0)).push { cls:=.type "list_iterator",data:=.fields #[.ref l,.int 0 0] }).get? s.heap.objs.size=some (Zdr b0):=Xbk _ hS
        exact SetOf_congr ((setObjOf_fresh (knd:=strKind prog w) b0).setOf hg (by unfold scanBound;omega)) (fun _=>rfl) rfl
       case hR =>
        rintro ⟨h',g',d',tk',os'⟩ mv hS';obtain rfl:g'=s.gens:=mv.gens;obtain rfl:d'=s.drawn:=mv.drawn;obtain rfl:os'=s.os:=mv.os;show wpAny _ _ _ _ _ _;refine Xbh ?_;show wpAny _ _ (ret Value.none) _ _ _;refine Xbh ⟨rfl,h',tk',rfl,hS',fun b o hb e=>?_⟩;refine mv.heap b o (fun z=>?_) (Xbk _ (Xbk _ e))
        rcases Xam.mp z with z | z
        · exact absurd z (XaV hb)
        · have z':=Xaj.mp z
          rw [Heap.size_push] at z';exact absurd z' (XaV (Nat.lt_succ_of_lt hb))
     · cases r2 with
       | error e=>exact hr2
       | ok fl2 =>
         cases fl2 with
         | ret r =>
           obtain ⟨rfl,h',tk,rfl,hS',hk'⟩:=hr2
           repeat (any_goals (first | assumption | wp_step))
           exact h _ _ hS' hk'
         | _=>exact hr2.elim
   | _=>exact hr.elim
end
def SetS (P:Program) (w:World) (a:Addr) (n:Nat):HO:=.ext fun h=>∃ S,h.SetOf (strKind P w) a S n
section
variable {X:Cx}
theorem strs_at {xs:List Str}{its:List Value} (r:Vals (xs.map V.str) its):∀ (i:Nat) (v:Value),its.toArray[i]?=some v→∃ t,v=.str (xs.getD i default) t:=by
 intro i v hv
 have hv':its[i]?=some v:=by simpa using hv
 have hl:=r.length;rw [Xaa] at hl
 have hi:i<xs.length:=by
  have:=(Xae.mp hv').1
  omega
 obtain ⟨u,hu,ru⟩:=r.get (i:=i) (x:=.str xs[i]) (by rw [Xag,Xab hi];rfl);rw [hv'] at hu;cases hu;rw [Xaq,Xab hi];exact ru
theorem ZkN {xs:List Str}:(∀ a b,a<b→b<xs.length→xs.getD a default≠xs.getD b default)↔xs.Nodup:=by
 unfold List.Nodup;rw [List.pairwise_iff_getElem]
 constructor
 · intro h i j hi hj hij
   have:=h i j hij hj
   rwa [Xaq,Xaq,Xab hi,Xab hj] at this
 · intro h a b hab hb
   have:=h a b (by omega) hb hab
   rw [Xaq,Xaq,Xab (by omega),Xab hb];exact this
theorem ZfZ:CallR X (.builtin "len") (fun vs H Q=>∃ q n,vs=[.ref q]∧H q=some (SetS X.prog X.w q n)∧n≤1000∧Q (.int n) H):=by
 intro pins s σ H vs us Q I r h;obtain ⟨a,n,rfl,e,hn,q⟩:=h;obtain ⟨u,rfl,ru⟩:=Zdx r;obtain rfl:u=Value.ref a:=ru;obtain ⟨⟨S,o,es,ep,t,ho,hex,hd,_,_,_,hf,hsz⟩,_,_⟩:=I.hok a _ e;subst hsz;exact PySem.call_len_set ho hex hd hf (by omega) ⟨.int _,H,I.tok _,⟨_,rfl⟩,q⟩
end
open PySem.SeqAt
inductive Dt where
 | non | bl (b:Bool) | int (i:Int) | str (x:Str) | tup (l:List Dt) | lst (l:List Dt)
mutual
inductive IsDt (K:XFg) (H:Hp):V→Dt→Prop where
 | non:IsDt K H .non .non
 | bl (b:Bool):IsDt K H (.bl b) (.bl b)
 | int (i:Int):IsDt K H (.int i) (.int i)
 | str (x:Str):IsDt K H (.str x) (.str x)
 | tup {a:Addr} {vs:List V} {ds:List Dt} (h:SqT K H a vs) (t:IsDts K H vs ds):IsDt K H (.ref a) (.tup ds)
 | lst {a:Addr} {vs:List V} {ds:List Dt} (h:SqL K H a vs) (t:IsDts K H vs ds):IsDt K H (.ref a) (.lst ds)
inductive IsDts (K:XFg) (H:Hp):List V→List Dt→Prop where
 | nil:IsDts K H [] []
 | cons {v:V} {d:Dt} {vs:List V} {ds:List Dt} (h:IsDt K H v d) (t:IsDts K H vs ds):IsDts K H (v :: vs) (d :: ds)
end
mutual
theorem IsDt.same {K:XFg}{H H':Hp} (e:Same H H') {v:V} {d:Dt} (h:IsDt K H v d):IsDt K H' v d:=by
 cases h with
 | non=>exact .non
 | bl b=>exact .bl b
 | int i=>exact .int i
 | str x=>exact .str x
 | tup h t=>exact .tup (e.seqT h) (IsDts.same e t)
 | lst h t=>exact .lst (e.seq h) (IsDts.same e t)
theorem IsDts.same {K:XFg}{H H':Hp} (e:Same H H') {vs:List V} {ds:List Dt} (h:IsDts K H vs ds):IsDts K H' vs ds:=by
 cases h with
 | nil=>exact .nil
 | cons h t=>exact .cons (IsDt.same e h) (IsDts.same e t)
end
theorem IsDts.length {K:XFg}{H:Hp}:∀ {vs:List V}{ds:List Dt},IsDts K H vs ds→vs.length=ds.length
 | _,_,.nil=>rfl
 | _,_,.cons _ t=>Xbf (· + 1) t.length
theorem IsDts.get {K:XFg}{H:Hp}:∀ {vs:List V}{ds:List Dt}{i:Nat}{v:V},IsDts K H vs ds→vs[i]?=some v→∃ d,ds[i]?=some d∧IsDt K H v d
 | _,_,_,_,.nil,e=>by simp at e
 | _,_,0,_,.cons h _,e=>by simp at e;subst e;exact ⟨_,rfl,h⟩
 | _,_,i+1,v,.cons _ t,e=>by
   obtain ⟨d,h1,h2⟩:=IsDts.get (i:=i) (v:=v) t (by simpa using e);exact ⟨d,by simpa using h1,h2⟩
theorem IsDts.get' {K:XFg}{H:Hp}:∀ {vs:List V}{ds:List Dt}{i:Nat}{d:Dt},IsDts K H vs ds→ds[i]?=some d→∃ v,vs[i]?=some v∧IsDt K H v d
 | _,_,_,_,.nil,e=>by simp at e
 | _,_,0,_,.cons h _,e=>by simp at e;subst e;exact ⟨_,rfl,h⟩
 | _,_,i+1,v,.cons _ t,e=>by
   obtain ⟨d,h1,h2⟩:=IsDts.get' (i:=i) (d:=v) t (by simpa using e);exact ⟨d,by simpa using h1,h2⟩
theorem IsDts.strs {K:XFg}{H:Hp}:∀ (xs:List Str),IsDts K H (xs.map V.str) (xs.map Dt.str)
 | []=>.nil
 | x :: xs=>.cons (.str x) (IsDts.strs xs)
section
variable {X:Cx} {pins:List (Addr×Obj)} {σ:St} {H:Hp} {s:Shared}
theorem Inv.not_both (I:Inv X pins σ H s) {a:Addr} {xs ys:List V} (h:SqL X.K H a xs) (h':SqT X.K H a ys):False:=by
 obtain ⟨_,_,⟨o,n,e,c,_⟩,_⟩:=I.list h;obtain ⟨_,_,⟨o',e',c',_⟩,_⟩:=I.tuple h';rw [e] at e';cases e';rw [c] at c';exact absurd c' (by decide)
mutual
theorem IsDt.inj (I:Inv X pins σ H s) {v:V} {d e:Dt} (h:IsDt X.K H v d) (h':IsDt X.K H v e):d=e:=by
 cases h with
 | non=>cases h';rfl
 | bl _=>cases h';rfl
 | int _=>cases h';rfl
 | str _=>cases h';rfl
 | tup h t=>cases h' with
   | tup h' t' =>
     have e:=I.tuple_inj h h';subst e;rw [IsDts.inj I t t']
   | lst h' _=>exact (I.not_both h' h).elim
 | lst h t=>cases h' with
   | lst h' t' =>
     have e:=I.list_inj h h';subst e;rw [IsDts.inj I t t']
   | tup h' _=>exact (I.not_both h h').elim
theorem IsDts.inj (I:Inv X pins σ H s) {vs:List V} {ds es:List Dt} (h:IsDts X.K H vs ds) (h':IsDts X.K H vs es):ds=es:=by
 cases h with
 | nil=>cases h';rfl
 | cons h t=>cases h' with
   | cons h' t'=>rw [IsDt.inj I h h',IsDts.inj I t t']
end
end
def Dt.kd:Dt→Nat
 | .non=>0 | .bl _=>1 | .int _=>2 | .str _=>3 | .tup _=>4 | .lst _=>5
def Zen (a b:Nat):Bool:=a != b && !(a == 1 && b == 2) && !(a == 2 && b == 1)
mutual
inductive Cmp:Nat→Dt→Dt→Prop where
 | non {n:Nat}:Cmp n .non .non
 | bl {n:Nat} (a b:Bool):Cmp n (.bl a) (.bl b)
 | int {n:Nat} (a b:Int):Cmp n (.int a) (.int b)
 | str {n:Nat} (a b:Str):Cmp n (.str a) (.str b)
 | tup {n:Nat} {ds es:List Dt} (t:Cmps n ds es):Cmp (n+1) (.tup ds) (.tup es)
 | lst {n:Nat} {ds es:List Dt} (t:Cmps n ds es):Cmp (n+1) (.lst ds) (.lst es)
 | apart {n:Nat} {d e:Dt} (h:Zen d.kd e.kd=true):Cmp (n+1) d e
inductive Cmps:Nat→List Dt→List Dt→Prop where
 | nil {n:Nat} (es:List Dt):Cmps n [] es
 | nil' {n:Nat} (ds:List Dt):Cmps n ds []
 | cons {n:Nat} {d e:Dt} {ds es:List Dt} (h:Cmp n d e) (t:Cmps n ds es):Cmps n (d :: ds) (e :: es)
end
theorem Cmps.of {n:Nat}:∀ {ds es:List Dt},(∀ d∈ds,∀ e∈es,Cmp n d e)→Cmps n ds es
 | [],es,_=>.nil es
 | d :: ds,[],_=>.nil' _
 | d :: ds,e :: es,h=>.cons (h d (by simp) e (by simp)) (Cmps.of fun x hx y hy=>h x (by simp [hx]) y (by simp [hy]))
open Classical in
noncomputable def dec (p:Prop):Bool:=decide p
theorem ZbQ {p:Prop} (h:p):dec p=true:=@Xa1 p (Classical.propDecidable p) h
theorem ZbN {p:Prop} (h:¬p):dec p=false:=@Xa2 p (Classical.propDecidable p) h
theorem dec_iff {p:Prop}:dec p=true↔p:=⟨fun h=>@Xa3 p (Classical.propDecidable p) h,ZbQ⟩
theorem Zc6 {p q:Prop} (h:p↔q):dec p=dec q:=by rw [propext h]
theorem Zhz {α:Type} [BEq α] [LawfulBEq α] {a b:α}{p:Prop} (h:p↔a=b):(a == b)=dec p:=by
 by_cases e:a=b
 · subst e;rw [ZbQ (h.mpr rfl)];exact beq_self_eq_true _
 · rw [ZbN fun q=>e (h.mp q)];exact beq_false_of_ne e
theorem ZgQ {ds es:List Dt} (hl:ds.length=es.length) (h:∀ i,i<ds.length→ds[i]?=es[i]?):ds=es:=List.ext_getElem? fun i=>by
 by_cases hi:i<ds.length
 · exact h i hi
 · rw [XaJ (by omega),XaJ (by omega)]
section
variable {X:Cx} {pins:List (Addr×Obj)} {σ:St} {H:Hp} {s:Shared}
theorem ZdH (A:Around):A.in1.units=A.units+1:=rfl
theorem Zia (I:Inv X pins σ H s) {A:Around} {vs us:List V} {ds es:List Dt} {ivs ius:List Value} (rv:Vals vs ivs) (ru:Vals us ius) (tv:IsDts X.K H vs ds) (tu:IsDts X.K H us es)
 (hc:∀ (i:Nat) (d e:Dt) (v u:V) (x y:Value),ds[i]?=some d→es[i]?=some e→RelV v x→RelV u y→IsDt X.K H v d→IsDt X.K H u e→EqAt A s x y (dec (d=e))) :
 ∀ j (h1:j<ivs.toArray.size) (h2:j<ius.toArray.size),EqAt A s ivs.toArray[j] ius.toArray[j] (dec (ds[j]?=es[j]?)):=by
 intro j h1 h2;have l1:=rv.length;have l2:=ru.length
 have h1':j<ivs.length:=by simpa using h1
 have h2':j<ius.length:=by simpa using h2
 obtain ⟨x,hx,rx⟩:=rv.get (i:=j) (x:=vs[j]'(by omega)) (Xab (by omega));obtain ⟨y,hy,ry⟩:=ru.get (i:=j) (x:=us[j]'(by omega)) (Xab (by omega));obtain ⟨d,hd,td⟩:=tv.get (i:=j) (v:=vs[j]'(by omega)) (Xab (by omega));obtain ⟨e,he,te⟩:=tu.get (i:=j) (v:=us[j]'(by omega)) (Xab (by omega))
 have ex:ivs.toArray[j]=x:=by
  rw [Xab h1'] at hx
  simpa using hx
 have ey:ius.toArray[j]=y:=by
  rw [Xab h2'] at hy
  simpa using hy
 rw [ex,ey,hd,he]
 have:=hc j d e _ _ x y hd he rx ry td te
 rw [Zc6 (p:=some d=some e) (q:=d=e) (by simp)];exact this
theorem ZgR {ds es:List Dt}{n:Nat} (hn:n=ds.length) (hl:ds.length=es.length):(List.range n).all (fun j=>dec (ds[j]?=es[j]?))=dec (ds=es):=by
 subst hn
 by_cases h:ds=es
 · subst h
   rw [ZbQ rfl,List.all_eq_true];exact fun i _=>ZbQ rfl
 · rw [ZbN h,Bool.eq_false_iff]
   intro q;rw [List.all_eq_true] at q;exact h (ZgQ hl fun i hi=>dec_iff.mp (q i (List.mem_range.mpr hi)))
theorem ZjP (I:Inv X pins σ H s) {d e:Dt} {v u:V} {x y:Value} {A:Around} (h:Zen d.kd e.kd=true) (td:IsDt X.K H v d) (te:IsDt X.K H u e) (rx:RelV v x) (ry:RelV u y) (hu:A.units<cLine):EqAt A s x y false∧RcAt A s x y false∧RcNeAt A s x y true:=by
 cases td with
 | non =>
   cases rx
   cases te with
   | non=>exact absurd h (by simp [Zen,Dt.kd])
   | bl b =>
     cases ry;exact ⟨EqAt.none_bool _,RcAt.none_bool _,RcNeAt.none_bool _⟩
   | int b =>
     obtain ⟨t2,rfl⟩:=ry;exact ⟨EqAt.none_int _ _,RcAt.none_int _ _,RcNeAt.none_int _ _⟩
   | str b =>
     obtain ⟨t2,rfl⟩:=ry;exact ⟨EqAt.none_str _ _,RcAt.none_str _ _,RcNeAt.none_str _ _⟩
   | tup h2 t2 =>
     cases ry;obtain ⟨_,_,p2,_⟩:=I.tuple h2;exact ⟨EqAt.none_tuple  p2 hu,RcAt.none_tuple  p2 hu,RcNeAt.none_tuple  p2 hu⟩
   | lst h2 t2 =>
     cases ry;obtain ⟨_,_,p2,_⟩:=I.list h2;have p2:=p2.isList;exact ⟨EqAt.none_list  p2 hu,RcAt.none_list  p2 hu,RcNeAt.none_list  p2 hu⟩
 | bl a =>
   cases rx
   cases te with
   | non =>
     cases ry;exact ⟨EqAt.bool_none _,RcAt.bool_none _,RcNeAt.bool_none _⟩
   | bl b=>exact absurd h (by simp [Zen,Dt.kd])
   | int b=>exact absurd h (by simp [Zen,Dt.kd])
   | str b =>
     obtain ⟨t2,rfl⟩:=ry;exact ⟨EqAt.bool_str _ _ _,RcAt.bool_str _ _ _,RcNeAt.bool_str _ _ _⟩
   | tup h2 t2 =>
     cases ry;obtain ⟨_,_,p2,_⟩:=I.tuple h2;exact ⟨EqAt.bool_tuple _ p2 hu,RcAt.bool_tuple _ p2 hu,RcNeAt.bool_tuple _ p2 hu⟩
   | lst h2 t2 =>
     cases ry;obtain ⟨_,_,p2,_⟩:=I.list h2;have p2:=p2.isList;exact ⟨EqAt.bool_list _ p2 hu,RcAt.bool_list _ p2 hu,RcNeAt.bool_list _ p2 hu⟩
 | int a =>
   obtain ⟨t,rfl⟩:=rx
   cases te with
   | non =>
     cases ry;exact ⟨EqAt.int_none _ _,RcAt.int_none _ _,RcNeAt.int_none _ _⟩
   | bl b=>exact absurd h (by simp [Zen,Dt.kd])
   | int b=>exact absurd h (by simp [Zen,Dt.kd])
   | str b =>
     obtain ⟨t2,rfl⟩:=ry;exact ⟨EqAt.int_str _ _ _ _,RcAt.int_str _ _ _ _,RcNeAt.int_str _ _ _ _⟩
   | tup h2 t2 =>
     cases ry;obtain ⟨_,_,p2,_⟩:=I.tuple h2;exact ⟨EqAt.int_tuple _ _ p2 hu,RcAt.int_tuple _ _ p2 hu,RcNeAt.int_tuple _ _ p2 hu⟩
   | lst h2 t2 =>
     cases ry;obtain ⟨_,_,p2,_⟩:=I.list h2;have p2:=p2.isList;exact ⟨EqAt.int_list _ _ p2 hu,RcAt.int_list _ _ p2 hu,RcNeAt.int_list _ _ p2 hu⟩
 | str a =>
   obtain ⟨t,rfl⟩:=rx
   cases te with
   | non =>
     cases ry;exact ⟨EqAt.str_none _ _,RcAt.str_none _ _,RcNeAt.str_none _ _⟩
   | bl b =>
     cases ry;exact ⟨EqAt.str_bool _ _ _,RcAt.str_bool _ _ _,RcNeAt.str_bool _ _ _⟩
   | int b =>
     obtain ⟨t2,rfl⟩:=ry;exact ⟨EqAt.str_int _ _ _ _,RcAt.str_int _ _ _ _,RcNeAt.str_int _ _ _ _⟩
   | str b=>exact absurd h (by simp [Zen,Dt.kd])
   | tup h2 t2 =>
     cases ry;obtain ⟨_,_,p2,_⟩:=I.tuple h2;exact ⟨EqAt.str_tuple _ _ p2 hu,RcAt.str_tuple _ _ p2 hu,RcNeAt.str_tuple _ _ p2 hu⟩
   | lst h2 t2 =>
     cases ry;obtain ⟨_,_,p2,_⟩:=I.list h2;have p2:=p2.isList;exact ⟨EqAt.str_list _ _ p2 hu,RcAt.str_list _ _ p2 hu,RcNeAt.str_list _ _ p2 hu⟩
 | tup h1 t1 =>
   cases rx;obtain ⟨_,_,p,_⟩:=I.tuple h1
   cases te with
   | non =>
     cases ry;exact ⟨EqAt.tuple_none  p hu,RcAt.tuple_none  p hu,RcNeAt.tuple_none  p hu⟩
   | bl b =>
     cases ry;exact ⟨EqAt.tuple_bool _ p hu,RcAt.tuple_bool _ p hu,RcNeAt.tuple_bool _ p hu⟩
   | int b =>
     obtain ⟨t2,rfl⟩:=ry;exact ⟨EqAt.tuple_int _ _ p hu,RcAt.tuple_int _ _ p hu,RcNeAt.tuple_int _ _ p hu⟩
   | str b =>
     obtain ⟨t2,rfl⟩:=ry;exact ⟨EqAt.tuple_str _ _ p hu,RcAt.tuple_str _ _ p hu,RcNeAt.tuple_str _ _ p hu⟩
   | tup h2 t2=>exact absurd h (by simp [Zen,Dt.kd])
   | lst h2 t2 =>
     cases ry;obtain ⟨_,_,p2,_⟩:=I.list h2;have p2:=p2.isList;exact ⟨EqAt.tuple_list p p2 hu,RcAt.tuple_list p p2 hu,RcNeAt.tuple_list p p2 hu⟩
 | lst h1 t1 =>
   cases rx;obtain ⟨_,_,p,_⟩:=I.list h1;have p:=p.isList
   cases te with
   | non =>
     cases ry;exact ⟨EqAt.list_none  p hu,RcAt.list_none  p hu,RcNeAt.list_none  p hu⟩
   | bl b =>
     cases ry;exact ⟨EqAt.list_bool _ p hu,RcAt.list_bool _ p hu,RcNeAt.list_bool _ p hu⟩
   | int b =>
     obtain ⟨t2,rfl⟩:=ry;exact ⟨EqAt.list_int _ _ p hu,RcAt.list_int _ _ p hu,RcNeAt.list_int _ _ p hu⟩
   | str b =>
     obtain ⟨t2,rfl⟩:=ry;exact ⟨EqAt.list_str _ _ p hu,RcAt.list_str _ _ p hu,RcNeAt.list_str _ _ p hu⟩
   | tup h2 t2 =>
     cases ry;obtain ⟨_,_,p2,_⟩:=I.tuple h2;exact ⟨EqAt.list_tuple p p2 hu,RcAt.list_tuple p p2 hu,RcNeAt.list_tuple p p2 hu⟩
   | lst h2 t2=>exact absurd h (by simp [Zen,Dt.kd])
theorem Zib (I:Inv X pins σ H s) {d e:Dt} {v u:V} {x y:Value} {A:Around} (td:IsDt X.K H v d) (te:IsDt X.K H u e) (rx:RelV v x) (ry:RelV u y) (h:RcAt A s x y (dec (d=e))):EqAt A s x y (dec (d=e)):=by
 by_cases hxy:x=y
 · subst hxy
   have e1:=rx.inj ry;subst e1;rw [ZbQ (IsDt.inj I td te)];exact EqAt.same _
 · intro prog w E Q hq
   unfold eqBool;refine Xbi ?_;refine wpAny_ite_split (fun hab=>absurd (eq_of_beq hab) hxy) (fun _=>?_)
   cases td with
   | non=>cases rx;exact Xbg (h prog w E _ (Xbj hq))
   | bl a=>cases rx;exact Xbg (h prog w E _ (Xbj hq))
   | int a=>obtain ⟨t,rfl⟩:=rx;exact Xbg (h prog w E _ (Xbj hq))
   | str a=>obtain ⟨t,rfl⟩:=rx;exact Xbg (h prog w E _ (Xbj hq))
   | tup _ _=>cases rx;exact Xbg (h prog w E _ (Xbj hq))
   | lst _ _=>cases rx;exact Xbg (h prog w E _ (Xbj hq))
theorem kd_ne {d e:Dt} (h:Zen d.kd e.kd=true):¬d=e:=fun z=>by
 subst z;simp [Zen] at h
mutual
theorem rcD (I:Inv X pins σ H s) {n:Nat} {d e:Dt} {v u:V} {x y:Value} {A:Around} (c:Cmp n d e) (td:IsDt X.K H v d) (te:IsDt X.K H u e) (rx:RelV v x) (ry:RelV u y) (hu:A.units+n<cLine):RcAt A s x y (dec (d=e))∧RcNeAt A s x y (!dec (d=e)):=by
 cases c with
 | non =>
   cases td;cases te;cases rx;cases ry;rw [ZbQ rfl];exact ⟨RcAt.none_none,RcNeAt.none_none⟩
 | bl a b =>
   cases td;cases te;cases rx;cases ry;rw [←Zhz (a:=a) (b:=b) (by simp)];exact ⟨RcAt.bool_bool a b,RcNeAt.bool_bool a b⟩
 | int a b =>
   cases td;cases te;obtain ⟨t,rfl⟩:=rx;obtain ⟨t',rfl⟩:=ry;rw [←Zhz (a:=a) (b:=b) (by simp)];exact ⟨RcAt.int_int a t b t',RcNeAt.int_int a t b t'⟩
 | str a b =>
   cases td;cases te;obtain ⟨t,rfl⟩:=rx;obtain ⟨t',rfl⟩:=ry;rw [←Zhz (a:=a) (b:=b) (by simp)];exact ⟨RcAt.str_str a t b t',RcNeAt.str_str a t b t'⟩
 | @tup n ds es c =>
   cases td;cases te
   rename_i a vs h t b us h' t'
   cases rx;cases ry;obtain ⟨its,r,p,_⟩:=I.tuple h;obtain ⟨its',r',p',_⟩:=I.tuple h';have l1:=r.length;have l2:=r'.length;have l3:=t.length;have l4:=t'.length;have he:=Zia (A:=A.in1) I r r' t t' (eqDs I c (by rw [ZdH];omega))
   have e:dec (Dt.tup ds=Dt.tup es)=((List.range (min its.toArray.size its'.toArray.size)).all (fun j=>dec (ds[j]?=es[j]?)) && its.toArray.size == its'.toArray.size):=by
    rw [Zc6 (p:=Dt.tup ds=Dt.tup es) (q:=ds=es) (by simp)];simp only [Xak]
    by_cases hl:ds.length=es.length
    · rw [show (its.length == its'.length)=true from beq_iff_eq.mpr (by omega),Bool.and_true,ZgR (by omega) hl]
    · rw [show (its.length == its'.length)=false from beq_false_of_ne (by omega),Bool.and_false,ZbN fun z=>hl (by rw [z])]
   rw [e];exact ⟨RcAt.tuples (A:=A) p p' (by omega) he,RcNeAt.tuples (A:=A) p p' (by omega) he⟩
 | @lst n ds es c =>
   cases td;cases te
   rename_i a vs h t b us h' t'
   cases rx;cases ry;obtain ⟨its,r,p,_⟩:=I.list h;obtain ⟨its',r',p',_⟩:=I.list h';have l1:=r.length;have l2:=r'.length;have l3:=t.length;have l4:=t'.length
   by_cases hl:ds.length=es.length
   · have he:=Zia (A:=A.in1) I r r' t t' (eqDs I c (by rw [ZdH];omega))
     rw [Zc6 (p:=Dt.lst ds=Dt.lst es) (q:=ds=es) (by simp),←ZgR (n:=its.toArray.size) (by simp only [Xak];omega) hl];exact ⟨RcAt.lists (A:=A) p.isList p'.isList (by simp only [Xak];omega) (by omega) he,RcNeAt.lists (A:=A) p.isList p'.isList (by simp only [Xak];omega) (by omega) he⟩
   · rw [ZbN (show ¬Dt.lst ds=Dt.lst es from fun z=>hl (by cases z;rfl))]
     have hz:(its.toArray.size != its'.toArray.size)=true:=by simp only [Xak];rw [bne_iff_ne];omega
     exact ⟨RcAt.lists_lengths p.isList p'.isList hz (by omega),RcNeAt.lists_lengths p.isList p'.isList hz (by omega)⟩
 | apart h =>
   obtain ⟨_,h1,h2⟩:=ZjP (A:=A) I h td te rx ry (by omega);rw [ZbN (kd_ne h)];exact ⟨h1,h2⟩
theorem eqDs (I:Inv X pins σ H s) {n:Nat} {ds es:List Dt} {A:Around} (c:Cmps n ds es) (hu:A.units+n<cLine)
 (i:Nat) (d e:Dt) (v u:V) (x y:Value) (h:ds[i]?=some d) (h':es[i]?=some e) (rx:RelV v x) (ry:RelV u y) (td:IsDt X.K H v d) (te:IsDt X.K H u e):EqAt A s x y (dec (d=e)):=by
 cases c with
 | nil=>simp at h
 | nil'=>simp at h'
 | cons c t=>cases i with
   | zero =>
     simp at h h';subst h;subst h';have hrc:=rcD (A:=A) I c td te rx ry hu;exact Zib I td te rx ry hrc.1
   | succ i=>exact eqDs I t hu i d e v u x y (by simpa using h) (by simpa using h') rx ry td te
end
theorem eqD (I:Inv X pins σ H s) {n:Nat} {d e:Dt} {v u:V} {x y:Value} {A:Around} (c:Cmp n d e) (td:IsDt X.K H v d) (te:IsDt X.K H u e) (rx:RelV v x) (ry:RelV u y) (hu:A.units+n<cLine):EqAt A s x y (dec (d=e)) :=
 Zib I td te rx ry (rcD I c td te rx ry hu).1
end
section
variable {X:Cx}
def rEqD (K:XFg):R2:=fun x y H Q=>∃ n d e,Cmp n d e∧n≤60∧IsDt K H x d∧IsDt K H y e∧Q (.bl (dec (d=e))) H
def rNeD (K:XFg):R2:=fun x y H Q=>∃ n d e,Cmp n d e∧n≤60∧IsDt K H x d∧IsDt K H y e∧Q (.bl (!dec (d=e))) H
theorem op_eqD (hu:X.A.units+64<cLine):OpR X (compareOp .Eq) (rEqD X.K):=by
 intro pins s σ H x y v u Q I rx ry h;obtain ⟨n,d,e,c,hn,td,te,q⟩:=h;exact (rcD (A:=X.A) I c td te rx ry (by omega)).1 _ _ _ _ ⟨.bl _,H,I,rfl,q⟩
theorem op_neD (hu:X.A.units+64<cLine):OpR X (compareOp .NotEq) (rNeD X.K):=by
 intro pins s σ H x y v u Q I rx ry h;obtain ⟨n,d,e,c,hn,td,te,q⟩:=h;exact (rcD (A:=X.A) I c td te rx ry (by omega)).2 _ _ _ _ ⟨.bl _,H,I,rfl,q⟩
theorem Zic {pins:List (Addr×Obj)} {σ:St} {H:Hp} {s:Shared} (I:Inv X pins σ H s) {n:Nat} {d:Dt} {ds:List Dt} {vs:List V} {its:List Value} {v:V} {x:Value} {A:Around} (r:Vals vs its) (t:IsDts X.K H vs ds) (hc:∀ e∈ds,Cmp n e d) (td:IsDt X.K H v d) (rx:RelV v x) (hu:A.units+n<cLine) :
 (∀ y,y∈its.toArray→EqAt A s y x (dec (∃ u,RelV u y∧IsDt X.K H u d)))∧its.toArray.any (fun y=>dec (∃ u,RelV u y∧IsDt X.K H u d))=dec (d∈ds):=by
 have ll:=r.length;have lt:=t.length
 have one:∀ y,y∈its→∃ e∈ds,∃ u,RelV u y∧IsDt X.K H u e:=fun y hy=>by
  obtain ⟨i,hi,e⟩:=XaG.mp hy;obtain ⟨y',hy',ry⟩:=r.get (i:=i) (x:=vs[i]'(by omega)) (Xab (by omega));obtain ⟨e',he,te⟩:=t.get (i:=i) (v:=vs[i]'(by omega)) (Xab (by omega));rw [Xab hi,e] at hy';cases hy';exact ⟨e',Xah he,_,ry,te⟩
 refine ⟨fun y hy=>?_,?_⟩
 · obtain ⟨e,he,u,ru,te⟩:=one y (by simpa using hy)
   have:=eqD (A:=A) I (hc e he) te td ru rx hu
   rw [Zc6 (p:=∃ u,RelV u y∧IsDt X.K H u d) (q:=e=d) ⟨fun ⟨u',ru',te'⟩=>by
    have e1:=ru.inj ru';subst e1
    exact IsDt.inj I te te',fun z=>⟨u,ru,by rw [←z];exact te⟩⟩]
   exact this
 · by_cases hm:d∈ds
   · rw [ZbQ hm,Array.any_eq_true]
     obtain ⟨i,hi,e⟩:=XaG.mp hm;obtain ⟨u,hu',te⟩:=t.get' (i:=i) (d:=d) (by rw [Xab hi,e]);obtain ⟨y,hy,ry⟩:=r.get hu';have hi':i<its.length:=(Xae.mp hy).1;refine ⟨i,by simpa using hi',?_⟩
     have:its.toArray[i]'(by simpa using hi')=y:=by
      rw [Xab hi'] at hy
      simpa using hy
     rw [this];exact ZbQ ⟨u,ry,te⟩
   · rw [ZbN hm,Bool.eq_false_iff]
     intro q;obtain ⟨i,hi,q⟩:=Array.any_eq_true.mp q;obtain ⟨u,ru,te⟩:=dec_iff.mp q;obtain ⟨e,he,u',ru',te'⟩:=one (its.toArray[i]) (by simp);have e1:=ru.inj ru';subst e1;have e2:=IsDt.inj I te te';subst e2;exact hm he
end
end L2
namespace Ord
variable {α:Type} [DecidableEq α]
inductive Path (ps:List (α×α)):α→α→Prop where
 | one {a b}:(a,b)∈ps→Path ps a b
 | snoc {a b c}:Path ps a b→(b,c)∈ps→Path ps a c
theorem Path.snd {ps:List (α×α)} {a b:α} (h:Path ps a b):b∈ps.map (·.2):=by
 cases h with
 | one e=>exact Xai.mpr ⟨_,e,rfl⟩
 | snoc _ e=>exact Xai.mpr ⟨_,e,rfl⟩
theorem Path.fst {ps:List (α×α)} {a b:α} (h:Path ps a b):a∈ps.map (·.1):=by
 induction h with
 | one e=>exact Xai.mpr ⟨_,e,rfl⟩
 | snoc _ _ ih=>exact ih
def Za4 (ps:List (α×α)) (a:α):List α:=(ps.filter (fun p=>decide (p.1=a))).map (·.2)
theorem mem_worseOf {ps:List (α×α)} {a b:α}:b∈Za4 ps a↔(a,b)∈ps:=by
 unfold Za4;rw [Xai]
 constructor
 · rintro ⟨⟨x,y⟩,h,rfl⟩
   obtain ⟨h1,h2⟩:=XaK.mp h;have e:x=a:=Xa3 h2;subst e;exact h1
 · intro h
   exact ⟨(a,b),XaK.mpr ⟨h,Xa1 rfl⟩,rfl⟩
theorem Zef {ps:List (α×α)} {x y a:α}:Za4 (ps++[(x,y)]) a=if x=a then Za4 ps a++[y] else Za4 ps a:=by
 unfold Za4;rw [List.filter_append]
 by_cases e:x=a
 · simp [e]
 · simp [e]
structure Tree (ps:List (α×α)) (st:α) (cf:List (α×α)):Prop where
 nd:(cf.map (·.1)).Nodup
 par:∀ (i:Nat) (p:α×α),cf[i]?=some p→(p.2,p.1)∈ps∧(p.2=st∨∃ (j:Nat) (q:α×α),j<i∧cf[j]?=some q∧q.1=p.2)
theorem Tree.nil {ps:List (α×α)} {st:α}:Tree ps st []:=⟨List.nodup_nil,fun i p h=>by simp at h⟩
theorem Zb7 {l:List α}{x:α} (h:l.Nodup) (hx:x ∉ l):(l++[x]).Nodup:=by
 rw [List.nodup_append];refine ⟨h,by simp,?_⟩;intro a ha b hb e;rw [Xaj] at hb;subst hb;subst e;exact hx ha
theorem Tree.snoc {ps:List (α×α)} {st:α} {cf:List (α×α)} (T:Tree ps st cf) {w b:α} (hw:w ∉ cf.map (·.1)) (hb:(b,w)∈ps) (hp:b=st∨b∈cf.map (·.1)):Tree ps st (cf++[(w,b)]):=by
 refine ⟨?_,fun i p h=>?_⟩
 · rw [Xad]
   exact Zb7 T.nd hw
 · by_cases hi:i<cf.length
   · rw [Xat hi] at h
     obtain ⟨h1,h2⟩:=T.par i p h;refine ⟨h1,?_⟩
     rcases h2 with h2 | ⟨j,q,hj,hq,e⟩
     · exact .inl h2
     · exact .inr ⟨j,q,hj,by rw [Xat (by omega)];exact hq,e⟩
   · have hi':i=cf.length:=by
      have:=(Xae.mp h).1
      simp at this;omega
     subst hi'
     have e:p=(w,b):=by simpa using h.symm
     subst e;refine ⟨hb,?_⟩
     rcases hp with hp | hp
     · exact .inl hp
     · obtain ⟨q,hq,e⟩:=Xai.mp hp
       obtain ⟨j,hj,e2⟩:=XaG.mp hq;refine .inr ⟨j,q,hj,?_,e⟩;rw [Xat hj];exact Xae.mpr ⟨hj,e2⟩
theorem Tree.path {ps:List (α×α)} {st:α} {cf:List (α×α)} (T:Tree ps st cf):∀ (n i:Nat) (p:α×α),i<n→cf[i]?=some p→Path ps st p.1:=by
 intro n
 induction n with
 | zero=>intro i p h;omega
 | succ n ih =>
   intro i p hi h;obtain ⟨h1,h2⟩:=T.par i p h
   rcases h2 with h2 | ⟨j,q,hj,hq,e⟩
   · rw [h2] at h1;exact .one h1
   · have:=ih j q (by omega) hq
     rw [e] at this;exact .snoc this h1
theorem Tree.path_mem {ps:List (α×α)} {st:α} {cf:List (α×α)} (T:Tree ps st cf) {k:α} (h:k∈cf.map (·.1)):Path ps st k:=by
 obtain ⟨q,hq,e⟩:=Xai.mp h;obtain ⟨j,hj,e2⟩:=XaG.mp hq
 have:=T.path (j+1) j q (by omega) (Xae.mpr ⟨hj,e2⟩)
 rw [e] at this;exact this
def Full (ps:List (α×α)) (st:α) (cf:List (α×α)):Prop:=∀ b,(b=st∨b∈cf.map (·.1))→∀ w,(b,w)∈ps→w∈cf.map (·.1)
theorem Tree.iff {ps:List (α×α)} {st:α} {cf:List (α×α)} (T:Tree ps st cf) (F:Full ps st cf) {k:α}:k∈cf.map (·.1)↔Path ps st k:=by
 constructor
 · exact T.path_mem
 · intro h
   induction h with
   | one e=>exact F _ (.inl rfl) _ e
   | snoc _ e ih=>exact F _ (.inr ih) _ e
theorem Zc0 {l m:List α} (h:l.Nodup) (hs:∀ x∈l,x∈m):l.length≤m.length:=by
 induction l generalizing m with
 | nil=>simp
 | cons x r ih =>
   have hx:=hs x (by simp);have hn:=(XaC.mp h)
   have:r.length≤(m.erase x).length:=ih hn.2 (fun y hy=>by
    have hy':=hs y (by simp [hy]);have ne:y≠x:=fun e=>hn.1 (e ▸ hy)
    exact (List.mem_erase_of_ne ne).mpr hy')
   rw [List.length_erase_of_mem hx] at this;have hp:0<m.length:=List.length_pos_of_mem hx
   simp;omega
theorem Tree.length {ps:List (α×α)} {st:α} {cf:List (α×α)} (T:Tree ps st cf):cf.length≤ps.length:=by
 have:=Zc0 T.nd (m:=ps.map (·.2)) (fun x hx=>(T.path_mem hx).snd)
 simpa using this
structure Lay (ps:List (α×α)) (st:α) (cf:List (α×α)) (rest further:List α):Prop where
 tree:Tree ps st cf
 inR:∀ b∈rest,b=st∨b∈cf.map (·.1)
 inF:∀ b∈further,b∈cf.map (·.1)
 full:∀ b,(b=st∨b∈cf.map (·.1))→b∈rest∨b∈further∨∀ w,(b,w)∈ps→w∈cf.map (·.1)
theorem Lay.start {ps:List (α×α)} {st:α}:Lay ps st [] [st] [] :=
 ⟨Tree.nil,fun b hb=>.inl (by simpa using hb),fun b hb=>by simp at hb,fun b hb=>.inl (by simpa using hb)⟩
theorem Lay.next {ps:List (α×α)} {st:α} {cf:List (α×α)} {further:List α} (L:Lay ps st cf [] further):Lay ps st cf further [] :=
 ⟨L.tree,fun b hb=>.inr (L.inF b hb),fun b hb=>by simp at hb,fun b hb=>by
  rcases L.full b hb with h | h | h
  · simp at h
  · exact .inl h
  · exact .inr (.inr h)⟩
theorem Lay.done {ps:List (α×α)} {st:α} {cf:List (α×α)} (L:Lay ps st cf [] []):Full ps st cf:=fun b hb=>by
 rcases L.full b hb with h | h | h
 · simp at h
 · simp at h
 · exact h
structure LayB (ps:List (α×α)) (st b:α) (pre:List α) (cf:List (α×α)) (rest further:List α):Prop where
 tree:Tree ps st cf
 inR:∀ c∈b :: rest,c=st∨c∈cf.map (·.1)
 inF:∀ c∈further,c∈cf.map (·.1)
 pre:∀ w∈pre,w∈cf.map (·.1)
 full:∀ c,(c=st∨c∈cf.map (·.1))→c=b∨c∈rest∨c∈further∨∀ w,(c,w)∈ps→w∈cf.map (·.1)
theorem Lay.into {ps:List (α×α)} {st b:α} {cf:List (α×α)} {rest further:List α} (L:Lay ps st cf (b :: rest) further):LayB ps st b [] cf rest further :=
 ⟨L.tree,L.inR,L.inF,fun w hw=>by simp at hw,fun c hc=>by
  rcases L.full c hc with h | h | h
  · rcases Xam.mp h with h | h
    · exact .inl h
    · exact .inr (.inl h)
  · exact .inr (.inr (.inl h))
  · exact .inr (.inr (.inr h))⟩
theorem LayB.out {ps:List (α×α)} {st b:α} {cf:List (α×α)} {rest further:List α} (L:LayB ps st b (Za4 ps b) cf rest further):Lay ps st cf rest further :=
 ⟨L.tree,fun c hc=>L.inR c (by simp [hc]),L.inF,fun c hc=>by
  rcases L.full c hc with h | h | h | h
  · subst h
    exact .inr (.inr fun w hw=>L.pre w (mem_worseOf.mpr hw))
  · exact .inl h
  · exact .inr (.inl h)
  · exact .inr (.inr h)⟩
theorem LayB.known {ps:List (α×α)} {st b w:α} {pre:List α} {cf:List (α×α)} {rest further:List α} (L:LayB ps st b pre cf rest further) (hw:w∈cf.map (·.1)):LayB ps st b (pre++[w]) cf rest further :=
 ⟨L.tree,L.inR,L.inF,fun x hx=>by
  rcases Xaf.mp hx with h | h
  · exact L.pre x h
  · rw [Xaj] at h;subst h;exact hw,L.full⟩
theorem LayB.more {ps:List (α×α)} {st b w:α} {pre:List α} {cf:List (α×α)} {rest further:List α} (L:LayB ps st b pre cf rest further) (hw:w ∉ cf.map (·.1)) (hb:(b,w)∈ps) :
 LayB ps st b (pre++[w]) (cf++[(w,b)]) rest (further++[w]):=by
 have up:∀ c,c∈cf.map (·.1)→c∈(cf++[(w,b)]).map (·.1):=fun c hc=>by rw [Xad];exact XaA _ hc
 have upw:w∈(cf++[(w,b)]).map (·.1):=by rw [Xad];exact Xan _ (by simp)
 refine ⟨L.tree.snoc hw hb (L.inR b (by simp)),fun c hc=>(L.inR c hc).imp id (up c),fun c hc=>?_,fun c hc=>?_,fun c hc=>?_⟩
 · rcases Xaf.mp hc with h | h
   · exact up c (L.inF c h)
   · rw [Xaj] at h;subst h;exact upw
 · rcases Xaf.mp hc with h | h
   · exact up c (L.pre c h)
   · rw [Xaj] at h;subst h;exact upw
 · have hc':c=st∨c∈cf.map (·.1)∨c=w:=by
    rcases hc with h | h
    · exact .inl h
    · rw [Xad] at h
      rcases Xaf.mp h with h | h
      · exact .inr (.inl h)
      · exact .inr (.inr (by simpa using h))
   have old:(c=st∨c∈cf.map (·.1))→c=b∨c∈rest∨c∈further++[w]∨∀ x,(c,x)∈ps→x∈(cf++[(w,b)]).map (·.1):=fun hc=>by
    rcases L.full c hc with h | h | h | h
    · exact .inl h
    · exact .inr (.inl h)
    · exact .inr (.inr (.inl (XaA _ h)))
    · exact .inr (.inr (.inr fun x hx=>up x (h x hx)))
   rcases hc' with h | h | h
   · exact old (.inl h)
   · exact old (.inr h)
   · exact .inr (.inr (.inl (by rw [h];exact Xan _ (by simp))))
def Links (ps:List (α×α)) (c:List α):Prop:=∀ (i:Nat) (x y:α),c[i]?=some x→c[i+1]?=some y→(x,y)∈ps
structure Chain (ps:List (α×α)) (one other:α) (c:List α):Prop where
 two:2≤c.length
 hd:c[0]?=some one
 lst:c[c.length - 1]?=some other
 link:Links ps c
 nt:c.tail.Nodup
 nl:c.dropLast.Nodup
end Ord
namespace War
end War
namespace Ord
variable {α:Type} [DecidableEq α]
theorem Zev {cf:List (α×α)} {w b:α} (h:cf.lookup w=some b):(w,b)∈cf:=by
 induction cf with
 | nil=>simp at h
 | cons p r ih =>
   obtain ⟨x,y⟩:=p;rw [XaI] at h
   by_cases e:w=x
   · subst e
     simp at h;subst h;exact Xal
   · have hb:(w == x)=false:=beq_false_of_ne e
     rw [hb] at h;exact Xap _ (ih h)
theorem ZjQ {cf:List (α×α)} {w:α} (h:w∈cf.map (·.1)):∃ b,cf.lookup w=some b:=by
 induction cf with
 | nil=>simp at h
 | cons p r ih =>
   obtain ⟨x,y⟩:=p;rw [XaI]
   by_cases e:w=x
   · subst e;exact ⟨y,by simp⟩
   · have hb:(w == x)=false:=beq_false_of_ne e
     rw [hb];refine ih ?_
     rcases Xam.mp h with h | h
     · exact absurd h e
     · exact h
theorem ZgS {l:List α} (h:l.Nodup):l.reverse.Nodup:=by
 unfold List.Nodup at *;rw [List.pairwise_reverse];exact h.imp fun {a b} h e=>h e.symm
def ix (cf:List (α×α)) (k:α):Nat:=(cf.map (·.1)).idxOf k
theorem ix_at {cf:List (α×α)} (hn:(cf.map (·.1)).Nodup) {i:Nat} {p:α×α} (h:cf[i]?=some p):ix cf p.1=i:=by
 obtain ⟨hi,e⟩:=Xae.mp h;unfold ix
 have hi':i<(cf.map (·.1)).length:=by simpa using hi
 have:(cf.map (·.1))[i]=p.1:=by simp [e]
 rw [←this];exact hn.idxOf_getElem i hi'
theorem Tree.back {ps:List (α×α)} {st:α} {cf:List (α×α)} (T:Tree ps st cf) {w b:α} (h:cf.lookup w=some b):(b,w)∈ps∧(b=st∨(b∈cf.map (·.1)∧ix cf b<ix cf w)):=by
 have hm:=Zev h;obtain ⟨i,hi,e⟩:=XaG.mp hm
 have hi':cf[i]?=some (w,b):=by rw [Xab hi,e]
 obtain ⟨h1,h2⟩:=T.par i _ hi';refine ⟨h1,?_⟩
 rcases h2 with h2 | ⟨j,q,hj,hq,e2⟩
 · exact .inl h2
 · refine .inr ⟨?_,?_⟩
   · have:q.1=b:=e2
     rw [←this];exact Xai.mpr ⟨q,Xah hq,rfl⟩
   · have e3:=ix_at T.nd hq
     have e4:=ix_at T.nd hi';have e2':q.1=b:=e2;rw [e2'] at e3;have e4':ix cf w=i:=e4;omega
structure Back (ps:List (α×α)) (cf:List (α×α)) (one other:α) (ls:List α) (lb:α):Prop where
 hd:ls[0]?=some other
 keys:∀ x∈ls,x∈cf.map (·.1)
 dec:ls.Pairwise (fun x y=>ix cf y<ix cf x)
 lnk:∀ (i:Nat) (x y:α),ls[i]?=some x→ls[i+1]?=some y→(y,x)∈ps
 nx:∃ z,ls[ls.length - 1]?=some z∧cf.lookup z=some lb
 mid:∀ x∈ls.tail,x≠one
theorem Back.start {ps cf:List (α×α)} {one other b:α} (h:cf.lookup other=some b):Back ps cf one other [other] b:=by
 refine ⟨rfl,fun x hx=>?_,by simp,fun i x y h1 h2=>by simp at h2,⟨other,rfl,h⟩,fun x hx=>by simp at hx⟩;rw [Xaj] at hx;subst hx;exact Xai.mpr ⟨_,Zev h,rfl⟩
theorem Back.next {ps cf:List (α×α)} {one other lb:α} {ls:List α} (T:Tree ps one cf) (B:Back ps cf one other ls lb) (hne:lb≠one):∃ b,cf.lookup lb=some b∧Back ps cf one other (ls++[lb]) b∧ix cf lb<ix cf (ls[ls.length - 1]?.getD other):=by
 obtain ⟨z,hz,hl⟩:=B.nx;obtain ⟨h1,h2⟩:=T.back hl
 rcases h2 with h2 | ⟨hk,hi⟩
 · exact absurd h2 hne
 obtain ⟨b,hb⟩:=ZjQ hk;have hzl:ls.length - 1<ls.length:=(Xae.mp hz).1
 have hlast:∀ x∈ls,ix cf lb<ix cf x:=fun x hx=>by
  obtain ⟨j,hj,e⟩:=XaG.mp hx
  by_cases hjl:j=ls.length - 1
  · subst hjl
    rw [Xab hzl] at hz
    have:ls[ls.length - 1]=z:=Xa8 hz
    rw [this] at e;subst e;exact hi
  · have:=List.pairwise_iff_getElem.mp B.dec j (ls.length - 1) hj hzl (by omega)
    rw [Xab hzl] at hz;have e3:ls[ls.length - 1]=z:=Xa8 hz;rw [e3,e] at this;omega
 refine ⟨b,hb,⟨?_,?_,?_,?_,?_,?_⟩,by rw [hz];exact hi⟩
 · rw [Xat (by omega)];exact B.hd
 · intro x hx
   rcases Xaf.mp hx with hx | hx
   · exact B.keys x hx
   · rw [Xaj] at hx;subst hx;exact hk
 · rw [List.pairwise_append]
   refine ⟨B.dec,by simp,fun x hx y hy=>?_⟩;rw [Xaj] at hy;subst hy;exact hlast x hx
 · intro i x y e1 e2
   by_cases hi2:i+1<ls.length
   · rw [Xat (by omega)] at e1
     rw [Xat hi2] at e2;exact B.lnk i x y e1 e2
   · have hi3:i+1=ls.length:=by
      have:=(Xae.mp e2).1
      simp at this;omega
     rw [Xay (by omega),hi3] at e2;simp at e2;subst e2;rw [Xat (by omega),show i=ls.length - 1 by omega,hz] at e1;cases e1;exact h1
 · refine ⟨lb,?_,hb⟩
   rw [Xac,Xau,Nat.add_sub_cancel,Xay (XaS _)]
   simp
 · intro x hx
   have:ls≠[]:=fun e=>by rw [e] at hzl;simp at hzl
   rw [List.tail_append_of_ne_nil this] at hx
   rcases Xaf.mp hx with hx | hx
   · exact B.mid x hx
   · rw [Xaj] at hx;subst hx;exact hne
theorem Back.fin {ps cf:List (α×α)} {one other:α} {ls:List α} (T:Tree ps one cf) (B:Back ps cf one other ls one):Chain ps one other (ls++[one]).reverse:=by
 obtain ⟨z,hz,hl⟩:=B.nx;obtain ⟨h1,_⟩:=T.back hl;have hzl:ls.length - 1<ls.length:=(Xae.mp hz).1
 have nd:ls.Nodup:=B.dec.imp fun {a b} h e=>by subst e;omega
 have e:(ls++[one]).reverse=one :: ls.reverse:=by simp
 have len:(ls++[one]).reverse.length=ls.length+1:=by simp
 have at_:∀ i,i<ls.length→ls.reverse[i]?=ls[ls.length - 1 - i]?:=fun i hi=>List.getElem?_reverse hi;refine ⟨by rw [len];omega,by rw [e];rfl,?_,?_,?_,?_⟩
 · rw [len,e,Nat.add_sub_cancel]
   rw [show ls.length=(ls.length - 1)+1 by omega,List.getElem?_cons_succ,at_ _ (by omega)];rw [show ls.length - 1 - (ls.length - 1)=0 by omega];exact B.hd
 · intro i x y e1 e2
   rw [e] at e1 e2;rw [List.getElem?_cons_succ] at e2
   have hi:i<ls.length:=by
    have:=(Xae.mp e2).1
    simpa using this
   rw [at_ i hi] at e2
   cases i with
   | zero =>
     simp at e1;subst e1;rw [Nat.sub_zero,hz] at e2;cases e2;exact h1
   | succ i =>
     rw [List.getElem?_cons_succ,at_ i (by omega)] at e1;refine B.lnk (ls.length - 1 - (i+1)) y x e2 ?_;rw [show ls.length - 1 - (i+1)+1=ls.length - 1 - i by omega];exact e1
 · rw [e]
   exact ZgS nd
 · rw [List.dropLast_reverse]
   refine ZgS ?_
   cases ls with
   | nil=>simp at hzl
   | cons a r =>
     show (r++[one]).Nodup;rw [List.nodup_append];refine ⟨(XaC.mp nd).2,by simp,fun x hx y hy exy=>?_⟩;rw [Xaj] at hy;rw [hy] at exy;exact B.mid x hx exy
end Ord
namespace L2
open PySem PySem.Spec PyProof.Rows Ord
abbrev prD (p:Str×Str):Dt:=.tup [.str p.1,.str p.2]
def Prs (K:XFg) (H:Hp) (a:Addr) (ps:List (Str×Str)):Prop:=∃ vs,SqL K H a vs∧IsDts K H vs (ps.map prD)
theorem Zid {ls:List Str}{i:Nat}{x:V} (h:(ls.map V.str)[i]?=some x):∃ z,ls[i]?=some z∧x=V.str z:=by
 rw [Xag] at h;obtain ⟨b,h1,h2⟩:=XaR.mp h;exact ⟨b,h1,h2.symm⟩
theorem Zbc:([]:List V).length+1≤sizeLine:=by decide
theorem Zbv:([]:List V).length+1+1≤sizeLine:=by decide
theorem Prs.same {K:XFg}{H H':Hp}{a:Addr}{ps:List (Str×Str)} (e:Same H H') (h:Prs K H a ps):Prs K H' a ps:=by
 obtain ⟨vs,h1,h2⟩:=h;exact ⟨vs,e.seq h1,h2.same e⟩
theorem pair_at {K:XFg}{H:Hp}{v:V}{p:Str×Str} (h:IsDt K H v (prD p)):∃ t,v=.ref t∧SqT K H t [.str p.1,.str p.2]:=by
 cases h with
 | tup h t =>
   cases t with
   | cons h1 t =>
     cases t with
     | cons h2 t =>
       cases t;cases h1;cases h2;exact ⟨_,rfl,h⟩
theorem IsDts.pairs_get {K:XFg}{H:Hp}{vs:List V}{ps:List (Str×Str)} (h:IsDts K H vs (ps.map prD)) {i:Nat} {v:V} (hv:vs[i]?=some v):∃ p t,ps[i]?=some p∧v=.ref t∧SqT K H t [.str p.1,.str p.2]:=by
 obtain ⟨d,hd,hi⟩:=h.get hv;rw [Xag] at hd
 cases e:ps[i]? with
 | none=>rw [e] at hd;cases hd
 | some p =>
   rw [e] at hd;cases hd;obtain ⟨t,h1,h2⟩:=pair_at hi;exact ⟨p,t,rfl,h1,h2⟩
abbrev kvR (ks:List (Str×Addr)):List (Key×V):=ks.map fun p=>(Sum.inr p.1,V.ref p.2)
abbrev kvS (cf:List (Str×Str)):List (Key×V):=cf.map fun p=>(Sum.inr p.1,V.str p.2)
theorem ZhA {β:Type} (g:β→V):∀ (ks:List (Str×β)) (k:Str),valV (ks.map fun p=>((Sum.inr p.1:Key),g p.2)) (Sum.inr k)=(ks.lookup k).map g
 | [],_=>rfl
 | p :: r, k => by
   obtain ⟨x,y⟩:=p;rw [Xao,XaI]
   by_cases e:k=x
   · subst e
     rw [Zet rfl]
     simp
   · have e':¬((Sum.inr x:Key)=Sum.inr k):=fun z=>e (Sum.inr.inj z).symm
     rw [Zeu e',ZhA g r k];have hb:(k == x)=false:=beq_false_of_ne e;rw [hb]
theorem ZkO (ks:List (Str×Addr)) (k:Str):valV (kvR ks) (Sum.inr k)=(ks.lookup k).map V.ref:=ZhA V.ref ks k
theorem ZjR (cf:List (Str×Str)) (k:Str):valV (kvS cf) (Sum.inr k)=(cf.lookup k).map V.str:=ZhA V.str cf k
theorem ZeE {β:Type}{ks:List (Str×β)} {k:Str} {a:β} (h:ks.lookup k=some a):(k,a)∈ks:=by
 induction ks with
 | nil=>simp at h
 | cons p r ih =>
   obtain ⟨x,y⟩:=p;rw [XaI] at h
   by_cases e:k=x
   · subst e
     simp at h;subst h;exact Xal
   · have hb:(k == x)=false:=beq_false_of_ne e
     rw [hb] at h;exact Xap _ (ih h)
theorem Zdi {β:Type}{ks:List (Str×β)} {k:Str} (h:ks.lookup k=none):k ∉ ks.map (·.1):=by
 induction ks with
 | nil=>simp
 | cons p r ih =>
   obtain ⟨x,y⟩:=p;rw [XaI] at h
   by_cases e:k=x
   · subst e;simp at h
   · have hb:(k == x)=false:=beq_false_of_ne e
     rw [hb] at h;intro z
     rcases Xam.mp z with z | z
     · exact e z
     · exact ih h z
structure WBB (H:Hp) (d:Addr) (ps:List (Str×Str)) (ks:List (Str×Addr)):Prop where
 dict:H d=some (.dK (kvR ks))
 nd:(ks.map (·.1)).Nodup
 lst:∀ p∈ks,H p.2=some (.lst ((Za4 ps p.1).map V.str))
 all:∀ p∈ps,p.1∈ks.map (·.1)
 adr:(ks.map (·.2)).Nodup
theorem WBB.same {H H':Hp}{d:Addr}{ps:List (Str×Str)} {ks:List (Str×Addr)} (e:Same H H') (W:WBB H d ps ks):WBB H' d ps ks :=
 ⟨e _ _ W.dict,W.nd,fun p hp=>e _ _ (W.lst p hp),W.all,W.adr⟩
theorem WBB.ne {H:Hp}{d:Addr}{ps:List (Str×Str)} {ks:List (Str×Addr)} (W:WBB H d ps ks) {p:Str×Addr} (hp:p∈ks):p.2≠d:=ZfI (W.lst p hp) W.dict (by intro z;cases z)
theorem WBB.start {H:Hp}{d:Addr} (h:H d=some (.dK [])):WBB H d [] []:=⟨h,List.nodup_nil,fun p hp=>by simp at hp,fun p hp=>by simp at hp,List.nodup_nil⟩
theorem WBB.worse {H:Hp}{d:Addr}{ps:List (Str×Str)} {ks:List (Str×Addr)} (W:WBB H d ps ks) {b:Str}:(∀ a,ks.lookup b=some a→H a=some (.lst ((Za4 ps b).map V.str)))∧(ks.lookup b=none→Za4 ps b=[]):=by
 refine ⟨fun a h=>W.lst _ (ZeE h),fun h=>?_⟩
 cases e:Za4 ps b with
 | nil=>rfl
 | cons w r =>
   have:w∈Za4 ps b:=by rw [e];exact Xal
   exact absurd (W.all _ (mem_worseOf.mp this)) (Zdi h)
theorem WBB.known {H:Hp}{d a:Addr}{ps:List (Str×Str)} {ks:List (Str×Addr)} (W:WBB H d ps ks) {b w:Str} (h:ks.lookup b=some a):WBB (upd H a (.lst ((Za4 ps b).map V.str++[.str w]))) d (ps++[(b,w)]) ks:=by
 have hm:=ZeE h;refine ⟨by rw [Zaf (W.ne hm).symm];exact W.dict,W.nd,fun p hp=>?_,fun p hp=>?_,W.adr⟩
 · rw [Zef]
   by_cases e:b=p.1
   · rw [Xba e]
     have ep:p=(b,a):=by
      obtain ⟨i,hi,e1⟩:=XaG.mp hp;obtain ⟨j,hj,e2⟩:=XaG.mp hm
      have h1:(ks.map (·.1))[i]'(by simpa using hi)=(ks.map (·.1))[j]'(by simpa using hj):=by simp [e1,e2,e]
      have h2:=(List.getElem_inj W.nd).mp h1;subst h2;rw [←e1,e2]
     subst ep;rw [Zac,Xad];rfl
   · rw [Xa9 e]
     have na:p.2≠a:=fun z=>by
      obtain ⟨i,hi,e1⟩:=XaG.mp hp;obtain ⟨j,hj,e2⟩:=XaG.mp hm
      have h1:(ks.map (·.2))[i]'(by simpa using hi)=(ks.map (·.2))[j]'(by simpa using hj):=by simp [e1,e2,z]
      have h2:=(List.getElem_inj W.adr).mp h1;subst h2;rw [e1] at e2;exact e (by rw [e2])
     rw [Zaf na];exact W.lst p hp
 · rcases Xaf.mp hp with hp | hp
   · exact W.all p hp
   · rw [Xaj] at hp;subst hp
     exact Xai.mpr ⟨_,hm,rfl⟩
theorem WBB.more {H:Hp}{d a:Addr}{ps:List (Str×Str)} {ks:List (Str×Addr)} (W:WBB H d ps ks) {b w:Str} (h:ks.lookup b=none) (ha:H a=none):WBB (upd (upd (upd H a (.lst [])) d (.dK (putK (kvR ks) (Sum.inr b) (.ref a)))) a (.lst ([]++[.str w]))) d (ps++[(b,w)]) (ks++[(b,a)]):=by
 have nda:d≠a:=Zag W.dict ha;have hn:=Zdi h
 have hv:valV (kvR ks) (Sum.inr b)=none:=by rw [ZkO,h];rfl
 refine ⟨?_,?_,fun p hp=>?_,fun p hp=>?_,?_⟩
 · rw [Zaf nda,Zac,Zh0 _ hv]
   simp [kvR]
 · rw [Xad];exact Zb7 W.nd hn
 · rw [Zef]
   rcases Xaf.mp hp with hp | hp
   · have e:¬b=p.1:=fun z=>hn (z ▸ Xai.mpr ⟨p,hp,rfl⟩)
     have na:p.2≠a:=Zag (W.lst p hp) ha;rw [Xa9 e,Zaf na,Zaf (W.ne hp),Zaf na];exact W.lst p hp
   · rw [Xaj] at hp;subst hp
     rw [Xba rfl,W.worse.2 h,Zac];rfl
 · rw [Xad]
   rcases Xaf.mp hp with hp | hp
   · exact XaA _ (W.all p hp)
   · rw [Xaj] at hp;subst hp
     exact Xan _ (by simp)
 · rw [Xad]
   refine Zb7 W.adr fun z=>?_;obtain ⟨p,hp,e⟩:=Xai.mp z;exact Zag (W.lst p hp) ha e
theorem IsDts.of_get {K:XFg}{H:Hp}:∀ {vs:List V}{ds:List Dt},vs.length=ds.length→(∀ (n:Nat) v d,vs[n]?=some v→ds[n]?=some d→IsDt K H v d)→IsDts K H vs ds
 | [],[],_,_=>.nil
 | v :: vs,d :: ds,hl,h=>.cons (h 0 v d rfl rfl) (IsDts.of_get (by simpa using hl) fun n x y e1 e2=>h (n+1) x y (by simpa using e1) (by simpa using e2))
structure Tups (H:Hp) (ts:List Addr) (ps:List (Str×Str)):Prop where
 len:ts.length=ps.length
 at_:∀ (n:Nat) t p,ts[n]?=some t→ps[n]?=some p→H t=some (.tup [.str p.1,.str p.2])
theorem Tups.nil {H:Hp}:Tups H [] []:=⟨rfl,fun n t p h=>by simp at h⟩
theorem Tups.same {H H':Hp}{ts:List Addr}{ps:List (Str×Str)} (e:Same H H') (h:Tups H ts ps):Tups H' ts ps:=⟨h.len,fun n t p h1 h2=>e _ _ (h.at_ n t p h1 h2)⟩
theorem Tups.dts {K:XFg}{H:Hp}{ts:List Addr}{ps:List (Str×Str)} (h:Tups H ts ps):IsDts K H (ts.map V.ref) (ps.map prD):=by
 refine IsDts.of_get (by simpa using h.len) fun n v d e1 e2=>?_;rw [Xag] at e1 e2;obtain ⟨t,h1,rfl⟩:=XaR.mp e1;obtain ⟨p,h2,rfl⟩:=XaR.mp e2;exact .tup (SqT.of (h.at_ n t p h1 h2)) (.cons (.str _) (.cons (.str _) .nil))
theorem Tups.prs {K:XFg}{H:Hp}{a:Addr}{ts:List Addr}{ps:List (Str×Str)} (h:Tups H ts ps) (e:H a=some (.lst (ts.map V.ref))):Prs K H a ps:=⟨_,SqL.of e,h.dts⟩
theorem Tups.ne {H:Hp}{a:Addr}{xs:List V}{ts:List Addr}{ps:List (Str×Str)} (h:Tups H ts ps) (e:H a=some (.lst xs)):a ∉ ts:=fun z=>by
 obtain ⟨n,hn,e1⟩:=XaG.mp z
 have hn':n<ps.length:=by rw [←h.len];exact hn
 have:=h.at_ n a ps[n] (by rw [Xab hn,e1]) (Xab hn')
 rw [e] at this;cases this
theorem Tups.upd {H:Hp}{a:Addr}{o:HO}{ts:List Addr}{ps:List (Str×Str)} (h:Tups H ts ps) (e:a ∉ ts):Tups (upd H a o) ts ps:=⟨h.len,fun n t p h1 h2=>by
 have ne:t≠a:=fun z=>by
  subst z;exact e (Xah h1)
 rw [L2.Zaf ne]
 exact h.at_ n t p h1 h2⟩
theorem Tups.snoc {H:Hp}{t:Addr}{ts:List Addr}{ps:List (Str×Str)} {p:Str×Str} (h:Tups H ts ps) (e:H t=some (.tup [.str p.1,.str p.2])):Tups H (ts++[t]) (ps++[p]):=by
 refine ⟨by rw [Xac,Xac,h.len];rfl,fun n t' p' h1 h2=>?_⟩
 by_cases hn:n<ts.length
 · rw [Xat hn] at h1
   rw [Xat (by rw [←h.len];exact hn)] at h2;exact h.at_ n t' p' h1 h2
 · have hn2:n=ts.length:=by
    have:=(Xae.mp h1).1
    rw [Xac,Xau] at this;omega
   subst hn2;rw [Xay (XaS _)] at h1;rw [Xay (by rw [h.len];exact XaS _)] at h2;simp at h1;simp [h.len] at h2;subst h1;subst h2;exact e
theorem at0 {α:Type}{xs:List α}{i:Nat}{v:α} (h:xs[i]?=some v):atI xs (0+(i:Int))=some v:=by
 rw [Int.zero_add];exact Zbw h
theorem ZbI {K:XFg}{a:Addr}{xs:List V}{k:Nat}{caps:List Nat}{g:TG}{te:TE}{σ:St}{H1:Hp}{Q:Addr→Hp→Prop} (Pv:Addr→Nat→List V→Hp→Prop)
 (h0:∀ D,H1 D=none→Pv D 0 [] (upd H1 D (.lst []))) (hq:∀ D i ys H2,Pv D i ys H2→SqL K H2 a xs)
 (hs:∀ D i x ys H2 (R:VK),H1 D=none→xs[i]?=some x→Pv D i ys H2→(∀ y H6,H6 D=some (.lst ys)→ys.length<sizeLine→Pv D (i+1) (ys++[y]) (upd H6 D (.lst (ys++[y])))→R y H6)→g x (Zbo k caps σ) H2 fun σ4 H4=>te σ4 H4 R)
 (hd:∀ D ys H2,H1 D=none→Pv D xs.length ys H2→Q D H2) :
 ∀ D,H1 D=none→∃ W:Nat→Nat→List V→Hp→Prop,(∃ m,W 0 m [] (upd H1 D (.lst [])))∧∀ i m ys H2,W i m ys H2 →
  ((Itl K a).stop i H2∧Q D H2)∨((Itl K a).go i H2∧∀ x H3,(Itl K a).yld i H2 x H3→g x (Zbo k caps σ) H3 fun σ4 H4=>tYes σ4 H4 fun b H5 =>
   if b=true then te σ4 H5 fun y H6=>H6 D=some (.lst ys)∧ys.length<sizeLine∧∃ m',m' < m∧W (i+1) m' (ys++[y]) (upd H6 D (.lst (ys++[y]))) else ∃ m',m' < m∧W (i+1) m' ys H5):=by
 intro D hD;refine ⟨fun i m ys H2=>m=xs.length - i∧i≤xs.length∧Pv D i ys H2,⟨xs.length,rfl,XaW _,h0 D hD⟩,?_⟩;rintro i m ys H2 ⟨rfl,hi,p⟩;have q2:=hq D i ys H2 p
 by_cases hlt:i<xs.length
 · refine .inr ⟨⟨xs,xs[i],q2,by simp [hlt]⟩,fun x H3 y=>?_⟩
   obtain ⟨rfl,y⟩:=y;have hx:=y xs q2;refine hs D i x ys H3 _ hD hx p fun v H6 e6 hz p6=>?_;exact ⟨e6,hz,xs.length - (i+1),by omega,rfl,hlt,p6⟩
 · have e:i=xs.length:=by omega
   subst e;exact .inl ⟨⟨xs,q2,XaS _⟩,hd D ys H2 hD p⟩
theorem ObjOk.ex {P:Program}{w:World}{H:Hp}{h:Heap}{a:Addr}{o:HO} (x:ObjOk P w H h a o):∃ u,h.get? a=some u:=by
 cases o with
 | lst xs=>obtain ⟨_,_,_,_,e⟩:=x;exact ⟨_,e⟩
 | tup xs=>obtain ⟨_,_,_,u,e,_⟩:=x;exact ⟨u,e⟩
 | dK kvs=>obtain ⟨_,_,_,_,u,_,_,e,_⟩:=x;exact ⟨u,e⟩
 | dT kvs=>obtain ⟨_,_,_,_,u,_,_,e,_⟩:=x;exact ⟨u,e⟩
 | set S n=>obtain ⟨u,_,_,_,e,_⟩:=x;exact ⟨u,e⟩
 | ins C dx fs=>obtain ⟨_,_,_,e,_⟩:=x;exact ⟨_,e⟩
 | own y=>exact x
 | xd fs=>obtain ⟨_,⟨u,_,_,e,_⟩,_⟩:=x;exact ⟨u,e⟩
 | rng lo hi=>obtain ⟨_,_,_,e⟩:=x;exact ⟨_,e⟩
 | frz ob u=>obtain ⟨e,_⟩:=x;exact ⟨_,e⟩
 | tbl ps=>exact ⟨_,(show h.get? a=some _ from x)⟩
 | met f y=>exact ⟨_,(show h.get? a=some _ from x)⟩
 | ext φ=>exact x.2.1
theorem Inv.freshN {X:Cx}{pins:List (Addr×Obj)} {σ:L2.St} {H:Hp} {s:Shared} {a:Addr} (I:Inv X pins σ H s) (hne:∀ b u,s.heap.get? b=some u→b≠a):H a=none:=by
 cases e:H a with
 | none=>rfl
 | some o =>
   obtain ⟨u,hu⟩:=(I.hok a o e).ex;exact absurd rfl (hne a u hu)
theorem Inv.laidN {X:Cx}{pins:List (Addr×Obj)} {σ:L2.St} {H:Hp} {s:Shared} {h':Heap} {a:Addr} {o:HO} {t':Nat} (I:Inv X pins σ H s) (k:∀ b u,s.heap.get? b=some u→h'.get? b=some u) (hne:∀ b u,s.heap.get? b=some u→b≠a) (new:ObjOk X.prog X.w (upd H a o) h' a o) :
 Inv X pins σ (upd H a o) { s with heap:=h',toks:=t' }:=by
 have hn:=I.freshN hne;refine I.un ⟨fun b u q _ _ _=>k b u q,fun b u q _ _ _=>⟨u.slots,k b u q⟩,fun b u q n _=>by rw [Zaf (hne b u q)];exact n,fun b u q _=>⟨u,k b u q⟩,fun b xs q=>by rw [Zaf (Zag q hn)];exact q,fun b u xs q=>by rw [Zaf (Zag q hn)];exact q,fun b ps q=>⟨#[],by rw [Zaf (Zag q hn),q];simp⟩⟩ fun b u e=>?_
 by_cases hb:b=a
 · subst hb;rw [Zac] at e;cases e;exact new
 · rw [Zaf hb] at e
   exact (I.hok b u e).stay (fun c v _ q=>k c v q) (fun c q=>by rw [Zaf (Zag q hn)];exact q) fun c xs q=>by rw [Zaf (Zag q hn)];exact q
def ltS (a b:Str):Prop:=a.cps.toList<b.cps.toList
theorem ZjS {a b c:Str} (h:ltS a b) (k:ltS b c):ltS a c:=List.lt_trans h k
theorem ZjT {a b:Str} (h:¬ltS b a) (ne:a≠b):ltS a b:=by
 have h1:a.cps.toList≤b.cps.toList:=List.not_lt.mp h
 rcases Classical.em (a.cps.toList<b.cps.toList) with h2 | h2
 · exact h2
 · have h3:b.cps.toList≤a.cps.toList:=List.not_lt.mp h2
   exact absurd (ext_toList (List.le_antisymm h1 h3)) ne
theorem ZgT:∀ (l:List Str) (p:Str),risingS p l=true→(p :: l).Nodup→(p :: l).Pairwise ltS
 | [],p,_,_=>by simp
 | q :: r,p,h,hn=>by
   have h':(!ltCps q.cps.toList p.cps.toList && risingS q r)=true:=by simpa [risingS] using h
   rw [Bool.and_eq_true] at h';have hn2:=(XaC.mp hn);have ih:=ZgT r q h'.2 hn2.2
   have hpq:ltS p q:=ZjT (fun z=>by
    have:=h'.1
    rw [ltCps_eq,Xa1 (show q.cps.toList<p.cps.toList from z)] at this
    cases this) fun z=>hn2.1 (by rw [z];exact Xal)
   refine List.pairwise_cons.mpr ⟨fun x hx=>?_,ih⟩
   rcases Xam.mp hx with e | hx
   · rw [e];exact hpq
   · exact ZjS hpq ((List.pairwise_cons.mp ih).1 x hx)
theorem ZgU {l:List Str} (h:sortedS l=true) (hn:l.Nodup):l.Pairwise ltS:=by
 cases l with
 | nil=>exact List.Pairwise.nil
 | cons p r=>exact ZgT r p h hn
theorem Zeg:∀ {vs:List Value}{ss:List Str},StrsAre vs ss→Vals (ss.map V.str) vs
 | _,_,.nil=>.nil
 | _,_,.cons _ _ h=>.cons ⟨_,rfl⟩ (Zeg h)
theorem strs_of {ss:List Str}:∀ {vs:List Value},vs.length=ss.length→(∀ (i:Nat) (v:Value),vs[i]?=some v→∃ t,v=.str (ss.getD i default) t)→StrsAre vs ss:=by
 induction ss with
 | nil=>intro vs hl _;cases vs with
   | nil=>exact .nil
   | cons _ _=>simp at hl
 | cons x r ih =>
   intro vs hl h
   cases vs with
   | nil=>simp at hl
   | cons v vs =>
     obtain ⟨t,e⟩:=h 0 v rfl;have e':v=.str x t:=e;subst e';exact .cons _ _ (ih (by simpa using hl) fun i u hu=>h (i+1) u (by simpa using hu))
section
variable {prog:Program} {w:World} {A:Around} {E:Value→Shared→Prop} {s:Shared}
theorem ZgV {d:Addr}{kvs:List (Key×Value)} {ss:List Str} {Q:Value→Shared→Prop} (hh:A.handled=none) (dd:s.heap.DictOf (Zbt prog w) d kvs) (lo:(d == sysModules)=false)
 (hk:kvs.map (·.1)=ss.map Sum.inr) (h64:ss.length<64)
 (h:∀ (D:Addr) (h':Heap) (tk n:Nat) (out:List Value) (ss':List Str),(∀ b o,s.heap.get? b=some o→h'.get? b=some o)→(∀ b o,s.heap.get? b=some o→b≠D)→h'.get? D=some { cls:=.type "list",data:=.seq out.toArray n }→Vals (ss'.map V.str) out→ss'.Perm ss→sortedS ss'=true→Q (.ref D) { s with heap:=h',toks:=tk }) :
 wpAny (model prog w) A (call (.builtin "sorted") [.ref d]) Q E s:=by
 have hlk:kvs.length=ss.length:=by have:=Xbf List.length hk;simpa using this
 have hn:kvs.length≤sizeLine:=XaU (Zak (by omega));obtain ⟨ep,hat⟩:=dd.dictAt;refine Calls.call_function_entry kind_sorted plain_sorted entry_sorted (args_sorted1 _) ?_;unfold Builtin.«sorted»
 refine Xbg (m:=checkCount "sorted" 1 1 _) (Xbh ?_)
 refine Xbg (PySem.W.kdu_collect (A:=A.in1) (PySem.W.kdl_dict (knd:=Zbt prog w) (kvs:=kvs) (ep:=ep) lo) hh hat hn fun h1 tk acc k1 hacc=>?_)
 have la:acc.toList.length=ss.length:=by rw [Array.length_toList,hacc.1,hlk]
 have hS:StrsAre acc.toList ss:=strs_of la fun i v hv=>by
  obtain ⟨k,x,e1,e2⟩:=hacc.2 i v (by rw [←Array.getElem?_toList];exact hv)
  have e3:(kvs.map (·.1))[i]?=some k:=by rw [Xag,e1];rfl
  rw [hk,Xag] at e3;obtain ⟨z,e4,e5⟩:=XaR.mp e3;have e2':Zhm k v=true:=e2;rw [←e5] at e2';obtain ⟨t,e6⟩:=Value.isStrOf_shape e2';exact ⟨t,by rw [e6,Xaq,e4];rfl⟩
 refine Xbg (wpAny_newList ?_ (by rw [la];exact XaU (Zak (by omega))))
 have hoL:(h1.push { cls:=.type "list",data:=.seq acc.toList.toArray }).get? h1.objs.size=some (seqObj "list" acc.toList.toArray 0):=Xbm _ rfl
 refine Xbg (Xbi (wpAny_call_entry slot_list_sort ⟨_,hoL,rfl⟩ entry_list_sort (list_sort_treeK strKind_oneLt hoL hS.keysOf (fun v₁ v₂ rest e=>keyKind_strs (by rw [←e];exact hS)) (by rw [la];exact h64) fun st' a1 a2=>⟨_,rfl,?_⟩) (args_list_sort _)));obtain ⟨ss',b1,b2,b3⟩:=sorted_out_str hS a1 a2;obtain ⟨n,hg⟩:=sortedHeap_at (vs:=acc.toList) (out:=(arrOf st').map (·.2)) hoL;have szle:∀ b o,s.heap.get? b=some o→b≠h1.objs.size:=fun b o e=>XaV (Xbl (k1 b o e));refine Xbh ⟨_,rfl,h h1.objs.size _ tk n _ ss' (fun b o e=>?_) szle (by rw [Array.toArray_toList];exact hg) (Zeg b1) b2 b3⟩;have hb:=Xbl (k1 b o e);rw [sortedHeap_old (XaV hb) (by rw [Heap.size_push];exact Nat.lt_succ_of_lt hb)];exact Xbk _ (k1 b o e)
end
section
variable {X:Cx}
def rSortD:List V→Hp→VK→Prop:=fun vs H Q=>∃ (d:Addr) (kvs:List (Key×V)) (ss:List Str),vs=[.ref d]∧H d=some (.dK kvs)∧kvs.map (·.1)=ss.map Sum.inr∧ss.length<64∧∀ D ss',ss'.Perm ss→sortedS ss'=true→H D=none→Q (.ref D) (upd H D (.lst (ss'.map V.str)))
theorem Zfu (hc:X.calm=true):CallR X (.builtin "sorted") rSortD:=by
 intro pins s σ H vs us Q I r h;obtain ⟨d,kvs,ss,rfl,hd,hk,h64,q⟩:=h;obtain ⟨u,rfl,ru⟩:=Zdx r;obtain rfl:u=Value.ref d:=ru;obtain ⟨z,hm,ws,rel,dd⟩:=dk_of I.hok hd;refine ZgV (I.ok.hd hc) dd hm (ss:=ss) (by rw [←rel.keys];exact hk) h64 fun D h' tk n out ss' kk hD hg rv hp hs=>?_
 have hlen:(ss'.map V.str).length≤sizeLine:=by rw [Xaa,hp.length_eq];exact XaU (Zak (by omega))
 exact ⟨.ref D,upd H D (.lst (ss'.map V.str)),I.laidN (t':=tk) kk hD ⟨hlen,out,n,rv,hg⟩,rfl,q D ss' hp hs (I.freshN hD)⟩
end
end L2
namespace HT
open PySem PyProof.Rows
section
open PySem.SeqAt
open PySem.AutoSeq1 (wpAny_loadPart')
open PySem.MeetsSeq PySem.MeetsSeq2 PySem.MeetsSeq3
end
section
variable {prog:Program} {w:World} {A:Around} {E:Value→Shared→Prop} {s:Shared}
end
end HT
namespace L2
open PySem PySem.Spec PyProof.Rows
section
variable {X:Cx}
theorem ZiQ {ss:List Str}:∀ {us:List Value},Vals (ss.map V.str) us→StrsAre us ss:=by
 induction ss with
 | nil=>intro us h;cases h;exact .nil
 | cons x r ih =>
   intro us h
   cases h with
   | cons a b =>
     obtain ⟨t,rfl⟩:=a;exact .cons _ _ (ih b)
end
end L2
namespace L2
end L2
namespace KasM
open PySem PySem.W PyProof.Rows
set_option autoImplicit false
def Tw {α:Type} (lt:Nat→Nat→Bool) (n:Nat):KasT α→(α→Prop)→Prop
 | .ret a,Q=>Q a
 | .ask i j k,Q=>i<n∧j<n∧Tw lt n (k (lt i j)) Q
theorem ZdZ {α β:Type}{lt:Nat→Nat→Bool}{n:Nat}{f:α→KasT β}{Q:β→Prop}:∀ (t:KasT α),Tw lt n t (fun a=>Tw lt n (f a) Q)→Tw lt n (t.bind f) Q
 | .ret _,h=>h
 | .ask _ _ k,⟨h1,h2,h3⟩=>⟨h1,h2,ZdZ (k _) h3⟩
theorem Tw_mono {α:Type}{lt:Nat→Nat→Bool}{n:Nat}{Q Q':α→Prop} (hq:∀ a,Q a→Q' a):∀ (t:KasT α),Tw lt n t Q→Tw lt n t Q'
 | .ret a,h=>hq a h
 | .ask _ _ k,⟨h1,h2,h3⟩=>⟨h1,h2,Tw_mono hq (k _) h3⟩
theorem Tw_wp {α:Type}{lt:Nat→Nat→Bool}{n:Nat}{cmp:Nat→Nat→(Bool→Shared→Prop)→Shared→Prop} {s:Shared} {Q:α→Shared→Prop} (hc:∀ i j C,i<n→j<n→C (lt i j) s→cmp i j C s) :
 ∀ (t:KasT α),Tw lt n t (fun a=>Q a s)→t.kasWp cmp Q s
 | .ret _,h=>h
 | .ask _ _ k,⟨h1,h2,h3⟩=>hc _ _ _ h1 h2 (Tw_wp hc (k _) h3)
section
variable {O:KeyOrd} {key:Nat→O.α} {n:Nat}
def K (key:Nat→O.α) (p:Array Nat) (i:Nat):O.α:=key (p.getD i 0)
def Asc (key:Nat→O.α) (p:Array Nat) (k:Nat):Prop:=∀ i,i+1<k→O.kle (K key p i) (K key p (i+1))
def Dsc (key:Nat→O.α) (p:Array Nat) (k:Nat):Prop:=∀ i,i+1<k→O.kle (K key p (i+1)) (K key p i)
def Pm (n:Nat) (p:Array Nat):Prop:=p.Perm (List.range n).toArray
theorem Pm.size {p:Array Nat} (h:Pm n p):p.size=n:=by have:=h.size_eq;simpa using this
theorem Pm.lt {p:Array Nat} (h:Pm n p) (hn:0<n) (i:Nat):p.getD i 0<n:=by
 by_cases hi:i<p.size
 · have e:p.getD i 0=p[i]:=by simp [Array.getD,hi]
   rw [e]
   have:p[i]∈p:=Array.getElem_mem hi
   have h2:=h.mem_iff.mp this
   simpa using h2
 · have e:p.getD i 0=0:=by simp [Array.getD,hi]
   rw [e];exact hn
theorem ZkP {p:Array Nat}{i j:Nat} (hj:j≤p.size) (k:Nat):(kas_rev p i j).getD k 0=if i≤k∧k<j then p.getD (i+j - 1 - k) 0 else p.getD k 0:=by
 unfold kas_rev;simp only [Array.getD_eq_getD_getElem?];rw [getElem?_mirror_all hj]
 split <;> rfl
theorem ZkQ {p:Array Nat}{k l:Nat} (hk:k<p.size) (hl:l≤k) (t:Nat):(bubble p k (k - l)).getD t 0=if t=l then p.getD k 0 else if l<t∧t≤k then p.getD (t - 1) 0 else p.getD t 0:=by
 simp only [Array.getD_eq_getD_getElem?];rw [getElem?_bubble hk _ (by omega)];rw [show k - (k - l)=l by omega]
 split
 · rfl
 · split <;> rfl
theorem Pm.rev {p:Array Nat} (h:Pm n p) (i j:Nat):Pm n (kas_rev p i j):=(mirror_perm _ _ _ _).trans h
theorem Pm.bub {p:Array Nat} (h:Pm n p) (i j:Nat):Pm n (bubble p i j):=(bubble_perm _ _ _).trans h
theorem K_rev {p:Array Nat}{i j:Nat} (hj:j≤p.size) (k:Nat):K key (kas_rev p i j) k=if i≤k∧k<j then K key p (i+j - 1 - k) else K key p k:=by
 unfold K;rw [ZkP hj];split <;> rfl
theorem Zf0 {p:Array Nat}{i j:Nat} (hj:j≤p.size) (he:∀ k,i≤k→k<j→K key p k=K key p (j - 1)) (k:Nat):K key (kas_rev p i j) k=K key p k:=by
 rw [K_rev hj]
 split
 · rw [he _ (by omega) (by omega),he k (by omega) (by omega)]
 · rfl
theorem K_bub {p:Array Nat}{k l:Nat} (hk:k<p.size) (hl:l≤k) (t:Nat):K key (bubble p k (k - l)) t=if t=l then K key p k else if l<t∧t≤k then K key p (t - 1) else K key p t:=by
 unfold K;rw [ZkQ hk hl];split
 · rfl
 · split <;> rfl
theorem Asc.le {p:Array Nat}{k:Nat} (h:Asc key p k) {i:Nat}:∀ (d:Nat),i+d<k→O.kle (K key p i) (K key p (i+d))
 | 0,_=>KeyOrd.kle_refl _
 | d+1,hd=>KeyOrd.kle_trans (h.le d (by omega)) (h (i+d) (by omega))
theorem Asc.le' {p:Array Nat}{k:Nat} (h:Asc key p k) {i j:Nat} (hij:i≤j) (hj:j<k):O.kle (K key p i) (K key p j):=by
 have:=h.le (i:=i) (j - i) (by omega)
 rwa [show i+(j - i)=j by omega] at this
abbrev lt (O:KeyOrd) (key:Nat→O.α) (i j:Nat):Bool:=O.blt (key i) (key j)
theorem ZjU {p:Array Nat} (hp:Pm n p) (h0:0<n):∀ (f a:Nat),1≤a→Tw (lt O key) n (kas_asc p f a) fun m=>a≤m∧m≤a+f∧(∀ i,a - 1≤i→i+1<m→O.kle (K key p i) (K key p (i+1)))∧(m<a+f→O.klt (K key p m) (K key p (m - 1)))
 | 0,a,_=>⟨XaS _,XaS _,fun i h1 h2=>by omega,fun h=>by omega⟩
 | f + 1, a, ha => by
   refine ⟨hp.lt h0 _,hp.lt h0 _,?_⟩
   cases hc:lt O key (p.getD a 0) (p.getD (a - 1) 0) with
   | true =>
     simp only [if_true];exact ⟨XaS _,by omega,fun i h1 h2=>by omega,fun _=>hc⟩
   | false =>
     simp only [Xbd,if_false];refine Tw_mono ?_ _ (ZjU hp h0 f (a+1) (by omega));rintro m ⟨h1,h2,h3,h4⟩;refine ⟨by omega,by omega,fun i h5 h6=>?_,fun h=>h4 (by omega)⟩
     by_cases e:i=a - 1
     · subst e
       rw [show a - 1+1=a by omega];exact hc
     · exact h3 i (by omega) h6
theorem Zf1 (h0 : 0 < n) : ∀ (f : Nat) (p : Array Nat) (a q : Nat), Pm n p → a + f ≤ n → Dsc key p a → q + 1 ≤ a → (∀ k, a - (q + 1) ≤ k → k < a → K key p k = K key p (a - 1)) →
 Tw (lt O key) n (kas_desc f p a q) fun r=>Pm n r.1∧a≤r.2.1∧r.2.1≤a+f∧Dsc key r.1 r.2.1∧r.2.2+1≤r.2.1∧(∀ k,r.2.1 - (r.2.2+1)≤k→k<r.2.1→K key r.1 k=K key r.1 (r.2.1 - 1))
 | 0,p,a,q,hp,_,hd,hq,he=>⟨hp,XaS _,XaS _,hd,hq,he⟩
 | f + 1, p, a, q, hp, hf, hd, hq, he => by
   have hz:=hp.size;refine ⟨hp.lt h0 _,hp.lt h0 _,?_⟩
   cases hc:lt O key (p.getD a 0) (p.getD (a - 1) 0) with
   | true =>
     have hc':O.klt (K key p a) (K key p (a - 1)):=hc
     have hd':Dsc key p (a+1):=fun i hi=>by
      by_cases e:i+1=a
      · rw [e];have:i=a - 1:=by omega
        rw [this];exact KeyOrd.kle_of_klt hc'
      · exact hd i (by omega)
     simp only [if_true]
     by_cases hq0:q > 0
     · rw [Xba hq0]
       have kk:=Zf0 (key:=key) (p:=p) (i:=a - (q+1)) (j:=a) (by omega) he;refine Tw_mono ?_ _ (Zf1 h0 f _ (a+1) 0 (hp.rev _ _) (by omega) (fun i hi=>by rw [kk,kk];exact hd' i hi) (by omega) (fun k h1 h2=>by rw [show k=a+1 - 1 by omega]));rintro r ⟨b1,b2,b3,b4,b5,b6⟩;exact ⟨b1,by omega,by omega,b4,b5,b6⟩
     · rw [Xa9 hq0]
       refine Tw_mono ?_ _ (Zf1 h0 f _ (a+1) 0 hp (by omega) hd' (by omega) (fun k h1 h2=>by rw [show k=a+1 - 1 by omega]));rintro r ⟨b1,b2,b3,b4,b5,b6⟩;exact ⟨b1,by omega,by omega,b4,b5,b6⟩
   | false =>
     have hc':O.kle (K key p (a - 1)) (K key p a):=hc;simp only [Xbd,if_false];refine ⟨hp.lt h0 _,hp.lt h0 _,?_⟩
     cases hc2:lt O key (p.getD (a - 1) 0) (p.getD a 0) with
     | true =>
       simp only [if_true];exact ⟨hp,XaS _,Nat.le_add_right _ _,hd,hq,he⟩
     | false =>
       have hc2':O.kle (K key p a) (K key p (a - 1)):=hc2;have ee:K key p a=K key p (a - 1):=KeyOrd.kle_antisymm hc2' hc';simp only [Xbd,if_false];refine Tw_mono ?_ _ (Zf1 h0 f _ (a+1) (q+1) hp (by omega) (fun i hi=>?_) (by omega) (fun k h1 h2=>?_))
       · rintro r ⟨b1,b2,b3,b4,b5,b6⟩
         exact ⟨b1,by omega,by omega,b4,b5,b6⟩
       · by_cases e:i+1=a
         · rw [e];have:i=a - 1:=by omega
           rw [this];exact hc2'
         · exact hd i (by omega)
       · rw [show a+1 - 1=a by omega]
         by_cases e:k=a
         · rw [e]
         · rw [he k (by omega) (by omega),ee]
abbrev Cnt (key:Nat→O.α) (n:Nat) (r:Nat×Array Nat):Prop:=Pm n r.2∧1≤r.1∧r.1≤n∧Asc key r.2 r.1
theorem Zie (h0:0<n) {p:Array Nat} {a:Nat} (hp:Pm n p) (h1:1≤a) (ha:a≤n) (hd:Dsc key p a):Tw (lt O key) n (kas_tail3 a n p) (Cnt key n):=by
 unfold kas_tail3;have hz:=hp.size;have kk:=K_rev (key:=key) (p:=p) (i:=0) (j:=a) (by omega);refine ZdZ _ (Tw_mono ?_ _ (ZjU (O:=O) (key:=key) (hp.rev 0 a) h0 (n - a) a h1));rintro m ⟨b1,b2,b3,_⟩;refine ⟨hp.rev _ _,by show 1≤m;omega,by show m≤n;omega,fun i hi=>?_⟩;have hi':i+1<m:=hi
 by_cases e:a - 1≤i
 · exact b3 i e hi'
 · show O.kle (K key (kas_rev p 0 a) i) (K key (kas_rev p 0 a) (i+1))
   rw [kk,kk,Xba (by omega),Xba (by omega)]
   have:=hd (0+a - 1 - (i+1)) (by omega)
   rwa [show 0+a - 1 - (i+1)+1=0+a - 1 - i by omega] at this
theorem ZeF (h0:0<n) {p:Array Nat} {a:Nat} (hp:Pm n p) (h1:1≤a) (ha:a+1≤n) (hd:Dsc key p (a+1)):Tw (lt O key) n (kas_descPart a n p) (Cnt key n):=by
 unfold kas_descPart;refine ZdZ _ (Tw_mono ?_ _ (Zf1 (O:=O) (key:=key) h0 (n - (a+1)) p (a+1) 0 hp (by omega) hd (by omega) (fun k h1 h2=>by rw [show k=a+1 - 1 by omega])));rintro ⟨p',m,q⟩ ⟨b1,b2,b3,b4,b5,b6⟩;dsimp only at b1 b2 b3 b4 b5 b6 ⊢;have hz:=b1.size
 split
 · have kk:=Zf0 (key:=key) (p:=p') (i:=m - (q+1)) (j:=m) (by omega) b6
   exact Zie h0 (b1.rev _ _) (by omega) (by omega) fun i hi=>by rw [kk,kk];exact b4 i hi
 · exact Zie h0 b1 (by omega) (by omega) b4
theorem ZkR (h0 : 0 < n) {p : Array Nat} (hp : Pm n p) : Tw (lt O key) n (kas_count n p) (Cnt key n) := by
 unfold kas_count;have hz:=hp.size;refine ZdZ _ (Tw_mono ?_ _ (ZjU (O:=O) (key:=key) hp h0 (n - 1) 1 (XaS _)));rintro m ⟨b1,b2,b3,b4⟩;have asc:Asc key p m:=fun i hi=>b3 i (by omega) hi
 by_cases e1:(m == n)=true
 · rw [Xba e1]
   exact ⟨hp,b1,by show m≤n;omega,asc⟩
 · rw [Xa9 e1]
   have hlt:m<n:=by
    have:m≠n:=fun q=>e1 (by rw [q];exact beq_self_eq_true _)
    omega
   have hk:=b4 (by omega)
   by_cases e2:m > 1
   · rw [Xba e2]
     refine ⟨hp.lt h0 _,hp.lt h0 _,?_⟩
     cases hc:lt O key (p.getD 0 0) (p.getD (m - 1) 0) with
     | true =>
       simp only [if_true];exact ⟨hp,b1,by show m≤n;omega,asc⟩
     | false =>
       have hc':O.kle (K key p (m - 1)) (K key p 0):=hc;simp only [Xbd,if_false]
       have he:∀ k,0≤k→k<m→K key p k=K key p (m - 1):=fun k _ h2 =>
        KeyOrd.kle_antisymm (asc.le' (by omega) (by omega)) (KeyOrd.kle_trans hc' (asc.le' (by omega) h2))
       have kk:=Zf0 (key:=key) (p:=p) (i:=0) (j:=m) (by omega) he;refine ZeF h0 (hp.rev _ _) b1 (by omega) fun i hi=>?_;rw [kk,kk]
       by_cases e:i+1=m
       · rw [e,show i=m - 1 by omega];exact KeyOrd.kle_of_klt hk
       · rw [he i (by omega) (by omega),he (i+1) (by omega) (by omega)];exact KeyOrd.kle_refl _
   · rw [Xa9 e2]
     refine ZeF h0 hp b1 (by omega) fun i hi=>?_
     have:m=1:=by omega
     subst this
     obtain rfl:i=0:=by omega
     exact KeyOrd.kle_of_klt hk
theorem Zf2 (h0:0<n) {p:Array Nat} {k:Nat} (hp:Pm n p) (ha:Asc key p k):∀ (f l r:Nat),r - l≤f→l≤r→r≤k→(∀ i,i<l→O.kle (K key p i) (K key p k))→(∀ i,r≤i→i<k→O.klt (K key p k) (K key p i)) →
 Tw (lt O key) n (kas_place p k f l r) fun m=>m≤k∧(∀ i,i<m→O.kle (K key p i) (K key p k))∧(∀ i,m≤i→i<k→O.klt (K key p k) (K key p i))
 | 0,l,r,hf,hl,hr,h1,h2=>⟨by omega,h1,fun i a b=>h2 i (by omega) b⟩
 | f + 1, l, r, hf, hl, hr, h1, h2 => by
   unfold kas_place
   by_cases e:l ≥ r
   · rw [Xba e]
     exact ⟨by omega,h1,fun i a b=>h2 i (by omega) b⟩
   · rw [Xa9 e]
     refine ⟨hp.lt h0 _,hp.lt h0 _,?_⟩
     cases hc:lt O key (p.getD k 0) (p.getD ((l+r) / 2) 0) with
     | true =>
       have hc':O.klt (K key p k) (K key p ((l+r) / 2)):=hc;simp only [if_true];exact Zf2 h0 hp ha f l ((l+r) / 2) (by omega) (by omega) (by omega) h1 fun i a b=>KeyOrd.klt_of_klt_of_kle hc' (ha.le' a b)
     | false =>
       have hc':O.kle (K key p ((l+r) / 2)) (K key p k):=hc;simp only [Xbd,if_false];exact Zf2 h0 hp ha f ((l+r) / 2+1) r (by omega) (by omega) hr (fun i a=>KeyOrd.kle_trans (ha.le' (by omega) (by omega)) hc') h2
theorem bin_ok (h0:0<n):∀ (f:Nat) (p:Array Nat) (k:Nat),Pm n p→k+f=n→Asc key p k→Tw (lt O key) n (kas_bin f p k) fun p'=>Pm n p'∧Asc key p' n
 | 0, p, k, hp, hk, ha => ⟨hp, by have : k = n := by omega
                                  rw [←this];exact ha⟩
 | f + 1, p, k, hp, hk, ha => by
   have hz:=hp.size;unfold kas_bin;refine ZdZ _ (Tw_mono ?_ _ (Zf2 (O:=O) (key:=key) h0 hp ha k 0 k (by omega) (by omega) (XaS _) (fun i h=>by omega) fun i a b=>by omega));rintro l ⟨b1,b2,b3⟩;have kk:=K_bub (key:=key) (p:=p) (k:=k) (l:=l) (by omega) b1;refine bin_ok h0 f _ (k+1) (hp.bub _ _) (by omega) fun i hi=>?_;rw [kk,kk]
   by_cases e1:i=l
   · rw [Xba e1,Xa9 (by omega)]
     by_cases e2:i+1≤k
     · rw [Xba (by omega)]
       exact KeyOrd.kle_of_klt (b3 (i+1 - 1) (by omega) (by omega))
     · omega
   · rw [Xa9 e1]
     by_cases e2:i+1=l
     · rw [Xba e2,Xa9 (by omega)]
       exact b2 i (by omega)
     · rw [Xa9 e2]
       by_cases e3:l<i
       · rw [Xba (by omega),Xba (by omega)]
         have:=ha (i - 1) (by omega)
         rwa [show i - 1+1=i+1 - 1 by omega] at this
       · rw [Xa9 (by omega),Xa9 (by omega)]
         exact ha i (by omega)
theorem sort_ok (h0:0<n):Tw (lt O key) n (kas_sort n) fun p=>Pm n p∧Asc key p n:=by
 unfold kas_sort;refine ZdZ _ (Tw_mono ?_ _ (ZkR (O:=O) (key:=key) h0 (Array.Perm.refl _)));rintro ⟨m,p⟩ ⟨b1,b2,b3,b4⟩;dsimp only at b1 b2 b3 b4 ⊢
 split
 · rw [show max m 1=m by omega]
   exact bin_ok h0 _ _ _ b1 (by omega) b4
 · exact ⟨b1, by have : m = n := by omega
                 rw [←this];exact b4⟩
end
end KasM
namespace L2
open PySem PySem.Spec PyProof.Rows
section
variable {prog:Program} {w:World} {A:Around} {E:Value→Shared→Prop} {s:Shared}
theorem Zf3 {O:KeyOrd}{key:Nat→O.α}{κ:SortKind}{a:Addr}{vs:List Value}{n:Nat}{P:PySem.Fin→Shared→Prop} (ho:s.heap.get? a=some (seqObj "list" vs.toArray n)) (h64:vs.length<64)
 (hkind:2≤vs.length→∀ (h':Heap),(∀ b o,b≠a→s.heap.get? b=some o→h'.get? b=some o)→∀ (Q:SortKind→Shared→Prop),Q κ { s with heap:=h' }→wpAny (model prog w) A (keyKind' vs.toArray) Q (fun _ _=>False) { s with heap:=h' })
 (hcmp:∀ (h':Heap),(∀ b o,b≠a→s.heap.get? b=some o→h'.get? b=some o)→∀ (i j:Nat) (C:Bool→Shared→Prop),i<vs.length→j<vs.length→C (O.blt (key i) (key j)) { s with heap:=h' }→PySem.W.kas_ask prog w A κ vs i j C { s with heap:=h' })
 (h:∀ is:List Nat,is.Perm (List.range vs.length)→(∀ i,i+1<is.length→O.kle (key (is.getD i 0)) (key (is.getD (i+1) 0)))→P (.done (.ret .none)) { s with heap:=sortedHeap s.heap a vs (is.map fun i=>vs.getD i Value.none).toArray }) :
 wpAny (model prog w) A (Builtin.«list.sort» ⟨[.ref a],[]⟩) P E s:=by
 rw [list_sort_plain];have ha:a<s.heap.objs.size:=Xbl ho
 have hsz:vs.toArray.size=vs.length:=by simp
 refine Xbg (listItems_at ho rfl ?_);refine Xbg (listUpdate_at ho rfl ?_ (by rw [Xak,sizeLine_eq];omega) (XaW _))
 obtain ⟨e1,ho1⟩:∃ e1,(s.heap.update a (Obj.mapSeq fun _=>#[])).get? a=some (seqObj "list" #[] e1):=⟨_,get?_update_seq ho (fun _=>#[])⟩
 refine Xbg (seqEpoch_at ho1 rfl ?_);refine Xbg (wpAny_newTuple ?_ (by show vs.length≤_;rw [sizeLine_eq];omega));refine Xbg (wpAny_newList ?_ (XaW _));refine Xbi ?_
 have ho6:(((s.heap.update a (Obj.mapSeq fun _=>#[])).push (seqObj "tuple" vs.toArray 0)).push (seqObj "list" #[] 0)).get? a=some (seqObj "list" #[] e1):=by
  rw [Heap.get?_push_ne _ _ _ (by rw [size_push',Heap.size_update];exact XaV (Nat.lt_succ_of_lt ha)),Heap.get?_push_ne _ _ _ (by rw [Heap.size_update];exact XaV ha)];exact ho1
 have keep:∀ b o,b≠a→s.heap.get? b=some o→(((s.heap.update a (Obj.mapSeq fun _=>#[])).push (seqObj "tuple" vs.toArray 0)).push (seqObj "list" #[] 0)).get? b=some o:=fun b o hb q=>by
  refine Xbk _ (Xbk _ ?_);rw [Heap.get?_update_ne _ _ _ _ hb];exact q
 show wpAny (model prog w) A _ P E { s with heap:=((s.heap.update a (Obj.mapSeq fun _=>#[])).push (seqObj "tuple" vs.toArray 0)).push (seqObj "list" #[] 0) }
 dsimp only
 by_cases h2:vs.toArray.size<2
 · rw [Xba h2,Xba h2]
   refine Xbg (Xbh ?_);rw [StateT.run_pure];refine Xbg (Xbh ?_);dsimp only;refine Xbg (seqEpoch_at ho6 rfl ?_);refine Xbg (listUpdate_at ho6 rfl ?_ (XaW _) (by rw [Array.size_map];show (pairsOf vs).size≤_;rw [pairsOf_size,sizeLine_eq];omega));simp only [bne_self_eq_false,Xbd,if_false]
   have:=h (List.range vs.length) (List.Perm.refl _) (fun i hi=>by rw [List.length_range] at hi;omega)
   have e:((List.range vs.length).map fun i=>vs.getD i Value.none).toArray=(arrOf (SortSt.mk' general' (vs.toArray.zip vs.toArray) #[] 7 none)).map (·.2):=by
    apply Array.toList_inj.mp;show (List.range vs.length).map (fun i=>vs.getD i Value.none)=((vs.toArray.zip vs.toArray).map (·.2)).toList;apply List.ext_getElem?;intro k
    by_cases hk:k<vs.length
    · simp [hk,Xaq]
    · simp [hk]
   rw [e] at this;exact Xbh this
 · rw [Xa9 h2,Xa9 h2]
   have h2':2≤vs.length:=by omega
   refine Xbg (Xbq (hkind h2' _ keep (fun κ' s'=>κ'=κ∧s'=_) ⟨rfl,rfl⟩) ?_ fun _ _ x=>x.elim);rintro κ' s' ⟨rfl,rfl⟩
   refine Xbg (Xbq (PySem.W.kat_run (Q:=fun st' s'=>∃ p:Array Nat,arrOf st'=p.map (PySem.W.kas_item (vs.toArray.zip vs.toArray))∧failedOf st'=none∧KasM.Pm vs.length p∧KasM.Asc key p vs.length∧s'={ s with heap:=((s.heap.update a (Obj.mapSeq fun _=>#[])).push (seqObj "tuple" vs.toArray 0)).push (seqObj "list" #[] 0) })
    (G:=fun p s'=>KasM.Pm vs.length p∧KasM.Asc key p vs.length∧s'={ s with heap:=((s.heap.update a (Obj.mapSeq fun _=>#[])).push (seqObj "tuple" vs.toArray 0)).push (seqObj "list" #[] 0) })
    rfl h2' h64 (fun p' st' s' a1 a2 a3 a4=>⟨p',a2,a3,a4.1,a4.2.1,a4.2.2⟩)
    (KasM.Tw_wp (lt:=KasM.lt O key) (n:=vs.length) (hcmp _ keep) _ (KasM.Tw_mono (fun p hp=>⟨hp.1,hp.2,rfl⟩) _ (KasM.sort_ok (O:=O) (key:=key) (by omega))))) ?_ fun _ _ e=>e)
   rintro ⟨⟨⟩,st'⟩ s' ⟨p,har,hf,hp,hasc,rfl⟩;dsimp only;have hout:=PySem.W.kat_snds (ks:=vs) (vs:=vs) rfl har;rw [hout];refine Xbg (seqEpoch_at ho6 rfl ?_);refine Xbg (listUpdate_at ho6 rfl ?_ (XaW _) (by rw [Xak,Xaa,Array.length_toList,hp.size,sizeLine_eq];omega));rw [hf];simp only [bne_self_eq_false,Xbd,if_false];refine Xbh (h p.toList (by have:=Array.perm_iff_toList_perm.mp hp;simpa using this) fun i hi=>?_);have hz:=hp.size
   have:=hasc i (by simpa [hz] using hi)
   simpa [KasM.K,Array.getD_eq_getD_getElem?,Xaq] using this
theorem Zfv {O:KeyOrd}{key:Nat→O.α}{κ:SortKind}{l:Addr}{vs:List Value}{Q:Value→Shared→Prop} (hl:s.heap.IsList l vs.toArray) (h64:vs.length<64)
 (hkind:2≤vs.length→∀ (h':Heap),(∀ b o,s.heap.get? b=some o→h'.get? b=some o)→∀ (Q:SortKind→Shared→Prop),Q κ { s with heap:=h' }→wpAny (model prog w) A.in1.in1 (keyKind' vs.toArray) Q (fun _ _=>False) { s with heap:=h' })
 (hcmp:∀ (h':Heap),(∀ b o,s.heap.get? b=some o→h'.get? b=some o)→∀ (i j:Nat) (C:Bool→Shared→Prop),i<vs.length→j<vs.length→C (O.blt (key i) (key j)) { s with heap:=h' }→PySem.W.kas_ask prog w A.in1.in1 κ vs i j C { s with heap:=h' })
 (h:∀ (D:Addr) (h':Heap) (n:Nat) (is:List Nat),(∀ b o,s.heap.get? b=some o→h'.get? b=some o)→(∀ b o,s.heap.get? b=some o→b≠D)→is.Perm (List.range vs.length)→(∀ i,i+1<is.length→O.kle (key (is.getD i 0)) (key (is.getD (i+1) 0))) →
  h'.get? D=some (seqObj "list" (is.map fun i=>vs.getD i Value.none).toArray n)→Q (.ref D) { s with heap:=h' }) :
 wpAny (model prog w) A (call (.builtin "sorted") [.ref l]) Q E s:=by
 refine Calls.call_function_entry kind_sorted plain_sorted entry_sorted (args_sorted1 _) ?_;unfold Builtin.«sorted»
 refine Xbg (m:=checkCount "sorted" 1 1 _) (Xbh ?_)
 refine Xbg (collect_list hl ?_ (by rw [sizeLine_eq];omega));refine Xbg (wpAny_newList ?_ (by rw [sizeLine_eq];omega))
 have hsz:((s.heap.push (seqObj "list" #[] 0)).update s.heap.objs.size (Obj.mapSeq (·++vs.toArray))).objs.size=s.heap.objs.size+1:=by
  rw [Heap.size_update,size_push']
 have hoL:(((s.heap.push (seqObj "list" #[] 0)).update s.heap.objs.size (Obj.mapSeq (·++vs.toArray))).push (seqObj "list" vs.toArray 0)).get? (s.heap.objs.size+1)=some (seqObj "list" vs.toArray 0):=by
  rw [←hsz];exact Xbm _ rfl
 have keep:∀ b o,s.heap.get? b=some o→(((s.heap.push (seqObj "list" #[] 0)).update s.heap.objs.size (Obj.mapSeq (·++vs.toArray))).push (seqObj "list" vs.toArray 0)).get? b=some o:=fun b o q=>by
  have hlt:b<s.heap.objs.size:=Xbl q;rw [Heap.get?_push_ne _ _ _ (by rw [hsz];exact XaV (Nat.lt_succ_of_lt hlt)),Heap.get?_update_ne _ _ _ _ (XaV hlt),Heap.get?_push_ne _ _ _ (XaV hlt)];exact q
 have szne:∀ b o,s.heap.get? b=some o→b≠s.heap.objs.size+1:=fun b o q=>XaV (Nat.lt_succ_of_lt (Xbl q))
 show wpAny _ _ _ _ _ { s with heap:=((s.heap.push (seqObj "list" #[] 0)).update s.heap.objs.size (Obj.mapSeq (·++vs.toArray))).push (seqObj "list" vs.toArray 0) }
 rw [hsz];refine Xbg (Xbi (wpAny_call_entry slot_list_sort ⟨_,hoL,rfl⟩ entry_list_sort ?body (args_list_sort _)))
 case body =>
  refine Zf3 (s:={ s with heap:=((s.heap.push (seqObj "list" #[] 0)).update s.heap.objs.size (Obj.mapSeq (·++vs.toArray))).push (seqObj "list" vs.toArray 0) }) (key:=key) (κ:=κ) hoL h64
   (fun h2 h' k=>hkind h2 h' fun b o q=>k b o (szne b o q) (keep b o q)) (fun h' k=>hcmp h' fun b o q=>k b o (szne b o q) (keep b o q)) fun is hp hs=>?_
  obtain ⟨n,hg⟩:=sortedHeap_at (vs:=vs) (out:=(is.map fun i=>vs.getD i Value.none).toArray) hoL;refine ⟨_,rfl,Xbh ⟨_,rfl,h (s.heap.objs.size+1) _ n is (fun b o q=>?_) szne hp hs hg⟩⟩
  show (sortedHeap (((s.heap.push (seqObj "list" #[] 0)).update s.heap.objs.size (Obj.mapSeq (·++vs.toArray))).push (seqObj "list" vs.toArray 0)) (s.heap.objs.size+1) vs _).get? b=some o
  rw [sortedHeap_old (szne b o q) (Xbl (keep b o q))];exact keep b o q
end
@[reducible] def lexO (O P:KeyOrd):KeyOrd where
 α:=O.α×P.α
 blt x y:=O.blt x.1 y.1 || (!O.blt y.1 x.1 && P.blt x.2 y.2)
 irrefl x:=by simp [O.irrefl,P.irrefl]
 trans x y z h1 h2:=by
  simp only [Bool.or_eq_true,Bool.and_eq_true,Bool.not_eq_true'] at h1 h2 ⊢
  rcases h1 with h1 | ⟨h1,k1⟩ <;> rcases h2 with h2 | ⟨h2,k2⟩
  · exact .inl (O.trans _ _ _ h1 h2)
  · exact .inl (KeyOrd.klt_of_klt_of_kle h1 h2)
  · exact .inl (KeyOrd.klt_of_kle_of_klt h1 h2)
  · exact .inr ⟨KeyOrd.kle_trans (O:=O) h1 h2,P.trans _ _ _ k1 k2⟩
 negTrans x y z h:=by
  simp only [Bool.or_eq_true,Bool.and_eq_true,Bool.not_eq_true'] at h ⊢
  rcases h with h | ⟨h,k⟩
  · rcases O.negTrans _ y.1 _ h with h | h
    · exact .inl (.inl h)
    · exact .inr (.inl h)
  · cases e1:O.blt x.1 y.1 with
    | true=>exact .inl (.inl rfl)
    | false =>
      cases e2:O.blt y.1 z.1 with
      | true=>exact .inr (.inl rfl)
      | false =>
        have a1:O.kle y.1 x.1:=e1;have a2:O.kle z.1 y.1:=e2;have a3:O.kle x.1 z.1:=h;have b1:O.blt y.1 x.1=false:=KeyOrd.kle_trans (O:=O) a3 a2;have b2:O.blt z.1 y.1=false:=KeyOrd.kle_trans (O:=O) a1 a3
        rcases P.negTrans _ y.2 _ k with k | k
        · exact .inl (.inr ⟨b1,k⟩)
        · exact .inr (.inr ⟨b2,k⟩)
 total x y h1 h2:=by
  simp only [Bool.or_eq_false_iff,Bool.and_eq_false_iff,Bool.not_eq_false'] at h1 h2;have e1:x.1=y.1:=O.total _ _ h1.1 h2.1;have e2:x.2=y.2:=P.total _ _ (by rcases h1.2 with z | z;exact absurd (h2.1.symm.trans z) (by simp);exact z) (by rcases h2.2 with z | z;exact absurd (h1.1.symm.trans z) (by simp);exact z);exact Prod.ext e1 e2
@[reducible] def strO:KeyOrd where
 α:=Str
 blt a b:=decide (a.cps.toList<b.cps.toList)
 irrefl a:=by simpa using List.lt_irrefl a.cps.toList
 trans a b c h1 h2:=by simp only [decide_eq_true_eq] at *;exact List.lt_trans h1 h2
 negTrans a b c h:=by
  simp only [decide_eq_true_eq] at *
  by_cases hab:a.cps.toList<b.cps.toList
  · exact .inl hab
  · exact .inr (List.lt_of_le_of_lt (List.not_lt.mp hab) h)
 total a b h1 h2:=by simp only [decide_eq_false_iff_not] at *;exact ext_toList (List.le_antisymm (List.not_lt.mp h2) (List.not_lt.mp h1))
@[reducible] def intO:KeyOrd where
 α:=Int
 blt a b:=decide (a<b)
 irrefl a:=by simp
 trans a b c h1 h2:=by simp only [decide_eq_true_eq] at *;omega
 negTrans a b c h:=by simp only [decide_eq_true_eq] at *;omega
 total a b h1 h2:=by simp only [decide_eq_false_iff_not] at *;omega
structure Col where
 O:KeyOrd
 val:O.α→V
 dflt:O.α
 T:Value
 tT:(T == T)=true
 tN:(T != Value.type "tuple")=true
 look:∀ (M:Model) (h:Heap) (a:O.α) (u:Value),RelV (val a) u→PySem.W.Looks M h (typeOf u) T
 eqB:∀ (prog:Program) (w:World) (A:Around) (E:Value→Shared→Prop) (s:Shared) (a b:O.α) (u v:Value) (Q:Bool→Shared→Prop),RelV (val a) u→RelV (val b) v→(∀ e:Bool,(e=true↔a=b)→Q e s)→wpAny (model prog w) A (eqBool u v) Q E s
 ltB:∀ (prog:Program) (w:World) (A:Around) (E:Value→Shared→Prop) (s:Shared) (a b:O.α) (u v:Value) (Q:Bool→Shared→Prop),RelV (val a) u→RelV (val b) v→Q (O.blt a b) s→wpAny (model prog w) A (oneLt' true u v) Q E s
 ltC:∀ (prog:Program) (w:World) (A:Around) (E:Value→Shared→Prop) (s:Shared) (a b:O.α) (u v:Value) (Q:Bool→Shared→Prop),RelV (val a) u→RelV (val b) v→Q (O.blt a b) s→wpAny (model prog w) A (oneLt' false u v) Q E s
@[reducible] def strC:Col where
 O:=strO
 val:=V.str
 dflt:=default
 T:=.type "str"
 tT:=by decide
 tN:=by decide
 look M h a u r:=by obtain ⟨t,rfl⟩:=r;exact PySem.W.Looks.of_pure rfl
 eqB prog w A E s a b u v Q r r' h:=by
  obtain ⟨t,rfl⟩:=r;obtain ⟨t',rfl⟩:=r';exact eqBool_str (h _ (by simp))
 ltB prog w A E s a b u v Q r r' h:=by
  obtain ⟨t,rfl⟩:=r;obtain ⟨t',rfl⟩:=r';exact oneLt_str h
 ltC prog w A E s a b u v Q r r' h:=by
  obtain ⟨t,rfl⟩:=r;obtain ⟨t',rfl⟩:=r';exact PySem.W.kat_one _ _ (PySem.P.lt_str h)
@[reducible] def intC:Col where
 O:=intO
 val:=V.int
 dflt:=0
 T:=.type "int"
 tT:=by decide
 tN:=by decide
 look M h a u r:=by obtain ⟨t,rfl⟩:=r;exact PySem.W.Looks.of_pure rfl
 eqB prog w A E s a b u v Q r r' h:=by
  obtain ⟨t,rfl⟩:=r;obtain ⟨t',rfl⟩:=r';exact wpAny_eqBool_int (h _ (by simp))
 ltB prog w A E s a b u v Q r r' h:=by
  obtain ⟨t,rfl⟩:=r;obtain ⟨t',rfl⟩:=r';exact oneLt_int h
 ltC prog w A E s a b u v Q r r' h:=by
  obtain ⟨t,rfl⟩:=r;obtain ⟨t',rfl⟩:=r';exact PySem.W.kat_one _ _ (PySem.P.lt_int h)
theorem lexO_eq {c d:Col} (x y:(lexO c.O d.O).α) (e:x.1=y.1):(lexO c.O d.O).blt x y=d.O.blt x.2 y.2:=by
 show (c.O.blt x.1 y.1 || (!c.O.blt y.1 x.1 && d.O.blt x.2 y.2))=_;rw [e,c.O.irrefl];rfl
theorem lexO_ne {c d:Col} (x y:(lexO c.O d.O).α) (e:x.1≠y.1):(lexO c.O d.O).blt x y=c.O.blt x.1 y.1:=by
 show (c.O.blt x.1 y.1 || (!c.O.blt y.1 x.1 && d.O.blt x.2 y.2))=_
 cases h1:c.O.blt x.1 y.1 with
 | true=>rfl
 | false =>
   cases h2:c.O.blt y.1 x.1 with
   | true=>rfl
   | false=>exact absurd (c.O.total _ _ h1 h2) e
section
variable {prog:Program} {w:World} {A:Around} {E:Value→Shared→Prop} {s:Shared}
theorem ZkS (c d:Col) {x y:Addr} {p q:(lexO c.O d.O).α} {u1 u2 v1 v2:Value} {Q:Bool→Shared→Prop} (hx:IsTup s.heap x #[u1,u2]) (hy:IsTup s.heap y #[v1,v2]) (r1:RelV (c.val p.1) u1) (r2:RelV (d.val p.2) u2) (s1:RelV (c.val q.1) v1) (s2:RelV (d.val q.2) v2)
 (h:Q ((lexO c.O d.O).blt p q) s):wpAny (model prog w) A (keyLt' (tuples' true) (.ref x) (.ref y)) Q E s:=by
 obtain ⟨ox,hox,_,n,dx⟩:=hx;obtain ⟨oy,hoy,_,m,dy⟩:=hy;refine PySem.W.kat_lt hox dx hoy dy (PySem.W.kat_cons (c.eqB _ _ _ _ _ _ _ _ _ _ r1 s1 fun e he=>?_))
 cases e with
 | false =>
   have hne:p.1≠q.1:=fun z=>Xa7 (he.mpr z);rw [lexO_ne _ _ hne] at h;exact PySem.W.kat_no (c.ltB _ _ _ _ _ _ _ _ _ _ r1 s1 h)
 | true =>
   rw [lexO_eq _ _ (he.mp rfl)] at h;refine PySem.W.kat_yes (PySem.W.kat_cons (d.eqB _ _ _ _ _ _ _ _ _ _ r2 s2 fun e he=>?_))
   cases e with
   | false=>exact PySem.W.kat_no (d.ltC _ _ _ _ _ _ _ _ _ _ r2 s2 h)
   | true =>
     refine PySem.W.kat_yes (PySem.W.kat_nil ?_);rw [he.mp rfl,d.O.irrefl] at h;exact h
end
theorem Zb8 {α:Type}{R:α→α→Prop} (tr:∀ a b c,R a b→R b c→R a c):∀ (l:List α),(∀ i a b,l[i]?=some a→l[i+1]?=some b→R a b)→l.Pairwise R
 | [],_=>.nil
 | [x],_=>by simp
 | x :: y :: r,h=>by
   have ih:=Zb8 tr (y :: r) fun i a b h1 h2=>h (i+1) a b (by simpa using h1) (by simpa using h2);have hxy:R x y:=h 0 x y rfl rfl;refine List.pairwise_cons.mpr ⟨fun z hz=>?_,ih⟩
   rcases Xam.mp hz with e | hz
   · rw [e];exact hxy
   · exact tr _ _ _ hxy ((List.pairwise_cons.mp ih).1 z hz)
section
variable {X:Cx}
abbrev Row (c d:Col):Type:=V×(lexO c.O d.O).α
def rSortP (X:Cx) (c d:Col):List V→Hp→VK→Prop:=fun vs H Q=>∃ (l:Addr) (zs:List (Row c d)),vs=[.ref l]∧SqL X.K H l (zs.map (·.1))∧zs.length<64 ∧
 (∀ z∈zs,∃ t,z.1=.ref t∧SqT X.K H t [c.val z.2.1,d.val z.2.2])∧∀ (D:Addr) (zs':List (Row c d)),zs'.Perm zs→(zs'.map (·.2)).Pairwise (lexO c.O d.O).kle→H D=none→Q (.ref D) (upd H D (.lst (zs'.map (·.1))))
def HR (c d:Col) (h:Heap) (z:Row c d) (v:Value):Prop:=∃ t u1 u2,z.1=.ref t∧v=.ref t∧IsTup h t #[u1,u2]∧RelV (c.val z.2.1) u1∧RelV (d.val z.2.2) u2
theorem HR.keeps {c d:Col}{h h':Heap}{z:Row c d}{v:Value} (k:∀ b o,h.get? b=some o→h'.get? b=some o) (x:HR c d h z v):HR c d h' z v:=by
 obtain ⟨t,u1,u2,a1,a2,a3,a4⟩:=x;exact ⟨t,u1,u2,a1,a2,a3.keeps k,a4⟩
theorem hr_tups {c d:Col}{h:Heap} (zs:List (Row c d)) (its:List Value) (hp:Paired (HR c d h) zs its):∃ fs,PySem.W.KatTups h its fs∧fs.length=zs.length∧∀ v∈fs,∃ a,RelV (c.val a) v:=by
 induction hp with
 | nil=>exact ⟨[],.nil,rfl,fun _ x=>by cases x⟩
 | cons hx r ih =>
   obtain ⟨t,u1,u2,a1,a2,⟨o,b1,b2,n,b3⟩,a4,a5⟩:=hx;obtain ⟨fs,k1,k2,k3⟩:=ih;subst a2;refine ⟨u1 :: fs,.cons b1 b2 b3 rfl k1,by simp [k2],fun v hv=>?_⟩
   rcases Xam.mp hv with e | hv
   · exact ⟨_,e ▸ a4⟩
   · exact k3 v hv
theorem ZdI {α β:Type}{R:α→β→Prop}{xs:List α}{ys:List β} (h:Paired R xs ys):∀ (i:Nat) (dx:α) (dy:β),i<xs.length→R (xs.getD i dx) (ys.getD i dy):=by
 induction h with
 | nil=>intro i dx dy h;simp at h
 | cons a r ih =>
   intro i dx dy h
   cases i with
   | zero=>exact a
   | succ i=>simpa using ih i dx dy (by simpa using h)
theorem Zd0 {α β γ:Type}{R:α→β→Prop}{f:γ→α}{g:γ→β}:∀ (l:List γ),(∀ x∈l,R (f x) (g x))→Paired R (l.map f) (l.map g)
 | [],_=>.nil
 | x :: l,h=>.cons (h x Xal) (Zd0 l fun y hy=>h y (Xap _ hy))
theorem hr_of {c d:Col}{pins:List (Addr×Obj)} {σ:L2.St} {H:Hp} {s:Shared} (I:Inv X pins σ H s):∀ (zs:List (Row c d)) (its:List Value),Vals (zs.map (·.1)) its→(∀ z∈zs,∃ t,z.1=.ref t∧SqT X.K H t [c.val z.2.1,d.val z.2.2])→Paired (HR c d s.heap) zs its
 | [],its,r,_=>by cases r;exact .nil
 | z :: zs, its, r, h => by
   cases r with
   | cons a b =>
     obtain ⟨t,e,sq⟩:=h z Xal;obtain ⟨us,r1,it,_⟩:=I.tuple sq
     cases r1 with
     | cons r1 r2 =>
       cases r2 with
       | cons r2 r3 =>
         cases r3;dsimp only at a;rw [e] at a;exact .cons ⟨t,_,_,e,a,it,r1,r2⟩ (hr_of I zs _ b fun y hy=>h y (Xap _ hy))
theorem ZiR (c d:Col):CallR X (.builtin "sorted") (rSortP X c d):=by
 intro pins s σ H vs us Q I r h;obtain ⟨l,zs,rfl,hl,h64,hr,q⟩:=h;obtain ⟨u,rfl,ru⟩:=Zdx r;obtain rfl:u=Value.ref l:=ru;obtain ⟨its,ri,pl,_⟩:=I.list hl;have hp:=hr_of I zs its ri hr;have hlen:zs.length=its.length:=hp.length
 let dz:Row c d:=(V.non,(c.dflt,d.dflt))
 refine Zfv (O:=lexO c.O d.O) (key:=fun i=>(zs.getD i dz).2) (κ:=tuples' true) (vs:=its) (by obtain ⟨o,n,a1,a2,a3,a4⟩:=pl;exact ⟨o,a1,a2,n,a4⟩) (by omega) (fun h2 h' k Q' hq=>?_) (fun h' k i j C hi hj hC=>?_) fun D h' n is kk hD hpm hst hg=>?_
 · have hp':Paired (HR c d h') zs its:=Paired.mapP hp fun _ _ x=>x.keeps k
   obtain ⟨fs,k1,k2,k3⟩:=hr_tups _ _ hp';refine PySem.W.kat_kind (T:=c.T) k1 (by omega) (fun v hv=>?_) c.tT (by rw [c.tN];exact hq);obtain ⟨a,ha⟩:=k3 v hv;exact c.look _ _ a v ha
 · obtain ⟨t,u1,u2,a1,a2,a3,a4,a5⟩:=(ZdI hp i dz Value.none (by omega)).keeps k
   obtain ⟨t',v1,v2,b1,b2,b3,b4,b5⟩:=(ZdI hp j dz Value.none (by omega)).keeps k;unfold PySem.W.kas_ask;rw [a2,b2];exact ZkS c d a3 b3 a4 a5 b4 b5 hC
 · have hin:∀ i∈is,i<zs.length:=fun i hi=>by
    have:=hpm.mem_iff.mp hi
    rw [hlen];simpa using this
   have hrange:(List.range zs.length).map (fun i=>zs.getD i dz)=zs:=by
    apply List.ext_getElem?;intro k
    by_cases hk:k<zs.length
    · simp [hk,Xaq]
    · simp [hk]
   have hperm:(is.map fun i=>zs.getD i dz).Perm zs:=by
    have:=hpm.map (fun i=>zs.getD i dz)
    rwa [←hlen,hrange] at this
   have hv:Vals ((is.map fun i=>zs.getD i dz).map (·.1)) (is.map fun i=>its.getD i Value.none):=by
    rw [Xax];refine Zd0 is fun i hi=>?_;obtain ⟨t,u1,u2,a1,a2,_⟩:=ZdI hp i dz Value.none (hin i hi);show RelV (zs.getD i dz).1 (its.getD i Value.none);rw [a1,a2];exact rfl
   have hpw:((is.map fun i=>zs.getD i dz).map (·.2)).Pairwise (lexO c.O d.O).kle:=by
    refine Zb8 (fun _ _ _=>KeyOrd.kle_trans) _ fun i a b h1 h2=>?_;rw [Xax,Xag,XaR] at h1 h2;obtain ⟨x,e1,rfl⟩:=h1;obtain ⟨y,e2,rfl⟩:=h2;obtain ⟨hlt,_⟩:=Xae.mp e2
    have:=hst i hlt
    have g1:is.getD i 0=x:=by rw [Xaq,e1];rfl
    have g2:is.getD (i+1) 0=y:=by rw [Xaq,e2];rfl
    rw [g1,g2] at this;exact this
   exact ⟨.ref D,upd H D (.lst ((is.map fun i=>zs.getD i dz).map (·.1))),I.laidN (t':=s.toks) kk hD ⟨by rw [Xaa,hperm.length_eq];exact XaU (Zak (by omega)),_,n,hv,hg⟩,rfl,q D _ hperm hpw (I.freshN hD)⟩
end
open Ord
abbrev goD (p:Str×Int):Dt:=.tup [.str p.1,.int p.2]
abbrev Stt:Type:=List (Str×Int)×List Str
abbrev stD (s:Stt):Dt:=.tup [.lst (s.1.map goD),.lst (s.2.map Dt.str)]
def Goes (K:XFg) (H:Hp) (a:Addr) (gs:List (Str×Int)):Prop:=∃ vs,SqL K H a vs∧IsDts K H vs (gs.map goD)
def Stts (K:XFg) (H:Hp) (a:Addr) (ss:List Stt):Prop:=∃ vs,SqL K H a vs∧IsDts K H vs (ss.map stD)
theorem Goes.same {K:XFg}{H H':Hp}{a:Addr}{gs:List (Str×Int)} (e:Same H H') (h:Goes K H a gs):Goes K H' a gs:=by
 obtain ⟨vs,h1,h2⟩:=h;exact ⟨vs,e.seq h1,h2.same e⟩
theorem Stts.same {K:XFg}{H H':Hp}{a:Addr}{ss:List Stt} (e:Same H H') (h:Stts K H a ss):Stts K H' a ss:=by
 obtain ⟨vs,h1,h2⟩:=h;exact ⟨vs,e.seq h1,h2.same e⟩
theorem Zif {K:XFg}{H:Hp}:∀ {vs:List V}{xs:List Str},IsDts K H vs (xs.map Dt.str)→vs=xs.map V.str
 | _,[],.nil=>rfl
 | _,_ :: _,.cons h t=>by cases h;rw [Zif t];rfl
theorem go_at {K:XFg}{H:Hp}{v:V}{p:Str×Int} (h:IsDt K H v (goD p)):∃ t,v=.ref t∧SqT K H t [.str p.1,.int p.2]:=by
 cases h with
 | tup h t =>
   cases t with
   | cons h1 t =>
     cases t with
     | cons h2 t =>
       cases t;cases h1;cases h2;exact ⟨_,rfl,h⟩
theorem IsDts.goes_get {K:XFg}{H:Hp}{vs:List V}{gs:List (Str×Int)} (h:IsDts K H vs (gs.map goD)) {i:Nat} {v:V} (hv:vs[i]?=some v):∃ p t,gs[i]?=some p∧v=.ref t∧SqT K H t [.str p.1,.int p.2]:=by
 obtain ⟨d,hd,hi⟩:=h.get hv;rw [Xag] at hd
 cases e:gs[i]? with
 | none=>rw [e] at hd;cases hd
 | some p =>
   rw [e] at hd;cases hd;obtain ⟨t,h1,h2⟩:=go_at hi;exact ⟨p,t,rfl,h1,h2⟩
theorem st_at {K:XFg}{H:Hp}{v:V}{s:Stt} (h:IsDt K H v (stD s)):∃ t g e,v=.ref t∧SqT K H t [.ref g,.ref e]∧Goes K H g s.1∧SqL K H e (s.2.map V.str):=by
 cases h with
 | tup h t =>
   cases t with
   | cons h1 t =>
     cases t with
     | cons h2 t =>
       cases t
       cases h1 with
       | lst a1 b1 =>
         cases h2 with
         | lst a2 b2 =>
           rw [Zif b2] at a2;exact ⟨_,_,_,rfl,h,⟨_,a1,b1⟩,a2⟩
theorem IsDts.sts_get {K:XFg}{H:Hp}{vs:List V}{ss:List Stt} (h:IsDts K H vs (ss.map stD)) {i:Nat} {v:V} (hv:vs[i]?=some v) :
 ∃ s t g e,ss[i]?=some s∧v=.ref t∧SqT K H t [.ref g,.ref e]∧Goes K H g s.1∧SqL K H e (s.2.map V.str):=by
 obtain ⟨d,hd,hi⟩:=h.get hv;rw [Xag] at hd
 cases e:ss[i]? with
 | none=>rw [e] at hd;cases hd
 | some p =>
   rw [e] at hd;cases hd;obtain ⟨t,g,e,h1,h2,h3,h4⟩:=st_at hi;exact ⟨p,t,g,e,rfl,h1,h2,h3,h4⟩
theorem IsDts.len_map {K:XFg}{H:Hp}{α:Type}{f:α→Dt}{vs:List V}{xs:List α} (h:IsDts K H vs (xs.map f)):vs.length=xs.length:=by
 have:=h.length
 rwa [Xaa] at this
def StE (K:XFg) (H:Hp) (a:Addr) (ss:List Stt):Prop:=∃ vs,SqL K H a vs∧vs.length=ss.length∧∀ (i:Nat) (v:V) (s:Stt),vs[i]?=some v→ss[i]?=some s→∃ t g e,v=.ref t∧SqT K H t [.ref g,.ref e]∧Goes K H g s.1∧H e=some (.lst (s.2.map V.str))
structure Fits (ss:List Stt):Prop where
 n:ss.length≤8
 gs:∀ s∈ss,s.1.length≤8
 es:∀ s∈ss,s.2.length≤8
def ZaH (ss:List Stt):List Str:=ss.flatMap fun s=>s.1.map (·.1)++s.2
def ZbL (ps:List (Str×Str)):List Str:=ps.flatMap fun p=>[p.1,p.2]
theorem Zf4 (ss:List Stt) (s:Stt):ZaH (ss++[s])=(ZaH ss++s.1.map (·.1))++s.2:=by
 unfold ZaH;rw [List.flatMap_append];simp
theorem ZgW (ps:List (Str×Str)) (p:Str×Str):ZbL (ps++[p])=(ZbL ps++[p.1])++[p.2]:=by
 unfold ZbL;rw [List.flatMap_append];simp
theorem Zeh:∀ (ss:List Stt),(∀ s∈ss,s.1.length≤8)→(∀ s∈ss,s.2.length≤8)→(ZaH ss).length≤16 * ss.length
 | [],_,_=>XaS _
 | s :: r,h1,h2=>by
   have ih:=Zeh r (fun x hx=>h1 x (Xap _ hx)) (fun x hx=>h2 x (Xap _ hx));have a1:=h1 s Xal;have a2:=h2 s Xal;unfold ZaH at ih ⊢;rw [List.flatMap_cons,Xac,Xac,Xaa,XaB];omega
theorem ZeG:∀ (ps:List (Str×Str)),(ZbL ps).length=2 * ps.length
 | []=>rfl
 | p :: r=>by
   have ih:=ZeG r;unfold ZbL at ih ⊢;rw [List.flatMap_cons,Xac,ih,XaB]
   simp;omega
theorem ZiS {its:List Value}{ss:List Str} (hS:StrsAre its ss) (h2:2≤its.length):keyKind' its.toArray=pure oneType':=by
 match its,hS,h2 with
 | [],_,h2=>simp at h2
 | [_],_,h2=>simp at h2
 | v₁ :: v₂ :: rest,hS,_=>exact keyKind_strs hS
section
variable {X:Cx}
def rSortS (X:Cx):List V→Hp→VK→Prop:=fun vs H Q=>∃ (l:Addr) (ss:List Str),vs=[.ref l]∧SqL X.K H l (ss.map V.str)∧ss.length<64∧∀ (D:Addr) (ss':List Str),ss'.Perm ss→ss'.Pairwise strO.kle→H D=none→Q (.ref D) (upd H D (.lst (ss'.map V.str)))
theorem ZiT:CallR X (.builtin "sorted") (rSortS X):=by
 intro pins s σ H vs us Q I r h;obtain ⟨l,ss,rfl,hl,h64,q⟩:=h;obtain ⟨u,rfl,ru⟩:=Zdx r;obtain rfl:u=Value.ref l:=ru;obtain ⟨its,ri,pl,_⟩:=I.list hl;have hS:=ZiQ ri
 have hlen:ss.length=its.length:=by have:=ri.length;rwa [Xaa] at this
 have hat:∀ i,i<ss.length→∃ t,its.getD i Value.none=.str (ss.getD i default) t:=fun i hi=>by
  have:=ZdI ri i V.non Value.none (by rw [Xaa];exact hi)
  have e:(ss.map V.str).getD i V.non=V.str (ss.getD i default):=by
   rw [Xaq,Xag,Xaq,Xab hi];rfl
  rw [e] at this;exact this
 refine Zfv (O:=strO) (key:=fun i=>ss.getD i default) (κ:=oneType') (vs:=its) pl.isList (by omega) (fun h2 h' k Q' hq=>?_) (fun h' k i j C hi hj hC=>?_) fun D h' n is kk hD hpm hst hg=>?_
 · rw [ZiS hS h2]
   exact Xbh hq
 · obtain ⟨t,e1⟩:=hat i (by omega)
   obtain ⟨t',e2⟩:=hat j (by omega);unfold PySem.W.kas_ask;rw [e1,e2,keyLt'_oneType];exact oneLt_str hC
 · have hin:∀ i∈is,i<ss.length:=fun i hi=>by
    have:=hpm.mem_iff.mp hi
    rw [hlen];simpa using this
   have hrange:(List.range ss.length).map (fun i=>ss.getD i default)=ss:=by
    apply List.ext_getElem?;intro k
    by_cases hk:k<ss.length
    · simp [hk,Xaq]
    · simp [hk]
   have hperm:(is.map fun i=>ss.getD i default).Perm ss:=by
    have:=hpm.map (fun i=>ss.getD i default)
    rwa [←hlen,hrange] at this
   have hv:Vals ((is.map fun i=>ss.getD i default).map V.str) (is.map fun i=>its.getD i Value.none):=by
    rw [Xax];exact Zd0 is fun i hi=>hat i (hin i hi)
   have hpw:(is.map fun i=>ss.getD i default).Pairwise strO.kle:=by
    refine Zb8 (R:=strO.kle) (fun _ _ _ h k=>KeyOrd.kle_trans (O:=strO) h k) _ fun i a b h1 h2=>?_;rw [Xag,XaR] at h1 h2;obtain ⟨x,e1,rfl⟩:=h1;obtain ⟨y,e2,rfl⟩:=h2;obtain ⟨hlt,_⟩:=Xae.mp e2
    have:=hst i hlt
    have g1:is.getD i 0=x:=by rw [Xaq,e1];rfl
    have g2:is.getD (i+1) 0=y:=by rw [Xaq,e2];rfl
    rw [g1,g2] at this;exact this
   exact ⟨.ref D,upd H D (.lst ((is.map fun i=>ss.getD i default).map V.str)),I.laidN (t':=s.toks) kk hD ⟨by rw [Xaa,hperm.length_eq];exact XaU (Zak (by omega)),_,n,hv,hg⟩,rfl,q D _ hperm hpw (I.freshN hD)⟩
end
abbrev ZkT (K:XFg) (H:Hp) (z:Row strC intC):Prop:=∃ t,z.1=.ref t∧SqT K H t [V.str z.2.1,V.int z.2.2]
theorem Zf5 {K:XFg}{H:Hp}:∀ {ts:List Addr}{gs:List (Str×Int)},ts.length=gs.length→(∀ (n:Nat) (a:Addr) (p:Str×Int),ts[n]?=some a→gs[n]?=some p→H a=some (.tup [.str p.1,.int p.2])) →
 ∃ zs:List (Row strC intC),zs.map (·.1)=ts.map V.ref∧zs.map (·.2)=gs∧∀ z∈zs,ZkT K H z
 | [],[],_,_=>⟨[],rfl,rfl,fun z hz=>by cases hz⟩
 | [],_ :: _,h,_=>by simp at h
 | _ :: _,[],h,_=>by simp at h
 | a :: ts,p :: gs,h,k=>by
   obtain ⟨zs,h1,h2,h3⟩:=Zf5 (K:=K) (H:=H) (ts:=ts) (gs:=gs) (by simpa using h) fun n a p h1 h2=>k (n+1) a p (by simpa using h1) (by simpa using h2);refine ⟨(V.ref a,p) :: zs,by rw [Xao,h1];rfl,by rw [Xao,h2],fun z hz=>?_⟩
   rcases Xam.mp hz with e | hz
   · rw [e];exact ⟨a,rfl,SqT.of (k 0 a p rfl rfl)⟩
   · exact h3 z hz
theorem Zf6 {K:XFg}{H:Hp}:∀ (zs:List (Row strC intC)),(∀ z∈zs,ZkT K H z)→IsDts K H (zs.map (·.1)) ((zs.map (·.2)).map goD)
 | [],_=>.nil
 | z :: zs,h=>by
   obtain ⟨t,e,sq⟩:=h z Xal;refine .cons ?_ (Zf6 zs fun y hy=>h y (Xap _ hy));show IsDt K H z.1 (goD z.2);rw [e];exact .tup sq (.cons (.str _) (.cons (.int _) .nil))
structure SrtOf (s r:Stt):Prop where
 pg:r.1.Perm s.1
 pe:r.2.Perm s.2
 og:r.1.Pairwise (lexO strO intO).kle
 oe:r.2.Pairwise strO.kle
theorem SqL.updN {K:XFg}{H:Hp}{a D:Addr}{o:HO}{xs:List V} (hn:a≠D) (h:SqL K H a xs):SqL K (upd H D o) a xs:=by
 rcases h with (h | ⟨u,h⟩) | h
 · exact .inl (.inl (by rw [Zaf hn];exact h))
 · exact .inl (.inr ⟨u,by rw [Zaf hn];exact h⟩)
 · exact .inr h
theorem SqT.updL {K:XFg}{H:Hp}{a D:Addr}{o:HO}{xs ys:List V} (hD:H D=some (.lst ys)) (h:SqT K H a xs):SqT K (upd H D o) a xs:=by
 rcases h with (h | ⟨u,h⟩) | h
 · exact .inl (.inl (by rw [Zaf fun z=>by rw [z,hD] at h;cases h];exact h))
 · exact .inl (.inr ⟨u,by rw [Zaf fun z=>by rw [z,hD] at h;cases h];exact h⟩)
 · exact .inr h
theorem Zig {K:XFg}{H:Hp}{D:Addr}{o:HO}{ys:List V} (hD:H D=some (.lst ys)):∀ {vs:List V} {gs:List (Str×Int)},IsDts K H vs (gs.map goD)→IsDts K (upd H D o) vs (gs.map goD)
 | _,[],.nil=>.nil
 | _,p :: gs,.cons h t=>by
   obtain ⟨a,e,sq⟩:=go_at h;subst e;exact .cons (.tup (sq.updL hD) (.cons (.str _) (.cons (.int _) .nil))) (Zig hD t)
theorem Goes.updL {K:XFg}{H:Hp}{a D:Addr}{o:HO}{ys:List V}{gs:List (Str×Int)} (hD:H D=some (.lst ys)) (hn:a≠D) (h:Goes K H a gs):Goes K (upd H D o) a gs:=by
 obtain ⟨vs,h1,h2⟩:=h;exact ⟨vs,h1.updN hn,Zig hD h2⟩
structure StRows (K:XFg) (F:Addr→Prop) (H:Hp) (D:Addr) (us:List Addr) (rs:List Stt):Prop where
 len:us.length=rs.length
 at_:∀ (i:Nat) (u:Addr) (r:Stt),us[i]?=some u→rs[i]?=some r→∃ G E xs,H u=some (.tup [.ref G,.ref E])∧Goes K H G r.1∧H G=some (.lst xs)∧H E=some (.lst (r.2.map V.str))∧G≠D∧E≠D∧F G∧F E
theorem StRows.nil {K:XFg}{F:Addr→Prop}{H:Hp}{D:Addr}:StRows K F H D [] []:=⟨rfl,fun i u r h=>by simp at h⟩
theorem StRows.same {K:XFg}{F:Addr→Prop}{H H':Hp}{D:Addr}{us:List Addr}{rs:List Stt} (e:Same H H') (h:StRows K F H D us rs):StRows K F H' D us rs:=by
 refine ⟨h.len,fun i u r h1 h2=>?_⟩;obtain ⟨G,E,xs,a1,a2,a3,a4,a5,a6,a7⟩:=h.at_ i u r h1 h2;exact ⟨G,E,xs,e _ _ a1,a2.same e,e _ _ a3,e _ _ a4,a5,a6,a7⟩
theorem StRows.updL {K:XFg}{F:Addr→Prop}{H:Hp}{D:Addr}{o:HO}{ys:List V}{us:List Addr}{rs:List Stt} (hD:H D=some (.lst ys)) (h:StRows K F H D us rs):StRows K F (upd H D o) D us rs:=by
 refine ⟨h.len,fun i u r h1 h2=>?_⟩;obtain ⟨G,E,xs,a1,a2,a3,a4,a5,a6,a7⟩:=h.at_ i u r h1 h2;exact ⟨G,E,xs,by rw [Zaf fun z=>by rw [z,hD] at a1;cases a1];exact a1,a2.updL hD a5,by rw [Zaf a5];exact a3,by rw [Zaf a6];exact a4,a5,a6,a7⟩
theorem StRows.snoc {K:XFg}{F:Addr→Prop}{H:Hp}{D u G E:Addr}{xs:List V}{us:List Addr}{rs:List Stt}{r:Stt} (h:StRows K F H D us rs) (a1:H u=some (.tup [.ref G,.ref E])) (a2:Goes K H G r.1) (a3:H G=some (.lst xs)) (a4:H E=some (.lst (r.2.map V.str))) (a5:G≠D) (a6:E≠D) (a7:F G) (a8:F E):StRows K F H D (us++[u]) (rs++[r]):=by
 refine ⟨by rw [Xac,Xac,h.len];rfl,fun i v q h1 h2=>?_⟩
 rcases Nat.lt_or_ge i us.length with hlt | hge
 · rw [Xat hlt] at h1
   rw [Xat (by rw [←h.len];exact hlt)] at h2;exact h.at_ i v q h1 h2
 · have hn1:i<(us++[u]).length:=(Xae.mp h1).1
   rw [Xac,Xau] at hn1
   have e:i=us.length:=by omega
   subst e;rw [Xay (XaS _),Nat.sub_self] at h1;rw [Xay (by rw [h.len];exact XaS _),h.len,Nat.sub_self] at h2;cases h1;cases h2;exact ⟨G,E,xs,a1,a2,a3,a4,a5,a6,a7,a8⟩
theorem ZkU:([]:List V).length+1+1+1≤sizeLine:=by decide
theorem StRows.dts {K:XFg}{F:Addr→Prop}{H:Hp}{D:Addr}:∀ {us:List Addr}{rs:List Stt},StRows K F H D us rs→IsDts K H (us.map V.ref) (rs.map stD)
 | [],[],_=>.nil
 | [],_ :: _,h=>by have:=h.len;simp at this
 | _ :: _,[],h=>by have:=h.len;simp at this
 | u :: us,r :: rs,h=>by
   obtain ⟨G,E,xs,a1,⟨gv,a2,a2'⟩,a3,a4,_⟩:=h.at_ 0 u r rfl rfl;refine .cons (.tup (SqT.of a1) (.cons (.lst a2 a2') (.cons (.lst (SqL.of a4) (IsDts.strs _)) .nil))) ?_;exact StRows.dts (D:=D) ⟨by simpa using h.len,fun i v q h1 h2=>h.at_ (i+1) v q (by simpa using h1) (by simpa using h2)⟩
theorem StRows.stts {K:XFg}{F:Addr→Prop}{H:Hp}{a:Addr}{us:List Addr}{rs:List Stt} (e:H a=some (.lst (us.map V.ref))) (h:StRows K F H a us rs):Stts K H a rs:=⟨_,SqL.of e,h.dts⟩
structure GT (H:Hp) (ts:List Addr) (gs:List (Str×Int)):Prop where
 len:ts.length=gs.length
 at_:∀ (n:Nat) (t:Addr) (p:Str×Int),ts[n]?=some t→gs[n]?=some p→H t=some (.tup [.str p.1,.int p.2])
theorem GT.nil {H:Hp}:GT H [] []:=⟨rfl,fun n t p h=>by simp at h⟩
theorem GT.same {H H':Hp}{ts:List Addr}{gs:List (Str×Int)} (e:Same H H') (h:GT H ts gs):GT H' ts gs:=⟨h.len,fun n t p h1 h2=>e _ _ (h.at_ n t p h1 h2)⟩
theorem GT.updL {H:Hp}{a:Addr}{o:HO}{xs:List V}{ts:List Addr}{gs:List (Str×Int)} (hD:H a=some (.lst xs)) (h:GT H ts gs):GT (upd H a o) ts gs:=⟨h.len,fun n t p h1 h2=>by
 have:=h.at_ n t p h1 h2
 rw [Zaf fun z=>by rw [z,hD] at this;cases this]
 exact this⟩
theorem GT.snoc {H:Hp}{t:Addr}{ts:List Addr}{gs:List (Str×Int)} {p:Str×Int} (h:GT H ts gs) (e:H t=some (.tup [.str p.1,.int p.2])):GT H (ts++[t]) (gs++[p]):=by
 refine ⟨by rw [Xac,Xac,h.len];rfl,fun n v q h1 h2=>?_⟩
 rcases Nat.lt_or_ge n ts.length with hlt | hge
 · rw [Xat hlt] at h1
   rw [Xat (by rw [←h.len];exact hlt)] at h2;exact h.at_ n v q h1 h2
 · have hn1:n<(ts++[t]).length:=(Xae.mp h1).1
   rw [Xac,Xau] at hn1
   have e':n=ts.length:=by omega
   subst e';rw [Xay (XaS _),Nat.sub_self] at h1;rw [Xay (by rw [h.len];exact XaS _),h.len,Nat.sub_self] at h2;cases h1;cases h2;exact e
theorem GT.dts {K:XFg}{H:Hp}{ts:List Addr}{gs:List (Str×Int)} (h:GT H ts gs):IsDts K H (ts.map V.ref) (gs.map goD):=by
 obtain ⟨zs,z1,z2,z3⟩:=Zf5 (K:=K) h.len h.at_;rw [←z1,←z2];exact Zf6 zs z3
theorem ZeH {k:Nat}{caps:List Nat}{g:TG}{te:TE}{σ:St}{H1:Hp}{Q:Addr→Hp→Prop}{lo:Int}{n:Nat} (Pv:Addr→Nat→List V→Hp→Prop)
 (h0:∀ D,H1 D=none→Pv D 0 [] (upd H1 D (.lst [])))
 (hs:∀ (D:Addr) (i:Nat) (ys:List V) (H2:Hp) (R:VK),H1 D=none→i<n→Pv D i ys H2→(∀ y H6,H6 D=some (.lst ys)→ys.length<sizeLine→Pv D (i+1) (ys++[y]) (upd H6 D (.lst (ys++[y])))→R y H6)→g (.int (lo+i)) (Zbo k caps σ) H2 fun σ4 H4=>te σ4 H4 R)
 (hd:∀ D ys H2,H1 D=none→Pv D n ys H2→Q D H2) :
 ∀ D,H1 D=none→∃ W:Nat→Nat→List V→Hp→Prop,(∃ m,W 0 m [] (upd H1 D (.lst [])))∧∀ i m ys H2,W i m ys H2 →
  ((Itr lo n).stop i H2∧Q D H2)∨((Itr lo n).go i H2∧∀ x H3,(Itr lo n).yld i H2 x H3→g x (Zbo k caps σ) H3 fun σ4 H4=>tYes σ4 H4 fun b H5 =>
   if b=true then te σ4 H5 fun y H6=>H6 D=some (.lst ys)∧ys.length<sizeLine∧∃ m',m' < m∧W (i+1) m' (ys++[y]) (upd H6 D (.lst (ys++[y]))) else ∃ m',m' < m∧W (i+1) m' ys H5):=by
 intro D hD;refine ⟨fun i m ys H2=>m=n - i∧i≤n∧Pv D i ys H2,⟨n,rfl,XaW _,h0 D hD⟩,?_⟩;rintro i m ys H2 ⟨rfl,hi,p⟩
 by_cases hlt:i<n
 · refine .inr ⟨hlt,fun x H3 y=>?_⟩
   obtain ⟨rfl,rfl⟩:=y;refine hs D i ys H3 _ hD hlt p fun v H6 e6 hz p6=>?_;exact ⟨e6,hz,n - (i+1),by omega,rfl,hlt,p6⟩
 · have e:i=n:=by omega
   subst e;exact .inl ⟨XaS _,hd D ys H2 hD p⟩
def Zf7 (h:Heap) (e T:Addr) (cls fl:Value) (dd:Option Addr):Prop :=
 ∃ oe vs oT ts,h.get? e=some oe∧oe.cls=cls∧oe.dict=dd∧oe.data=.fields vs∧vs[1]?=some (.ref T)∧T≠e∧h.get? T=some oT∧oT.data=.fields ts∧ts[3]?=some fl
abbrev Fly (h:Heap) (e T:Addr) (cls:Value) (dd:Option Addr):Prop:=Zf7 h e T cls .none dd
structure GoneAt (l:List Env) (e T T':Addr) (cls fl:Value) (dd:Option Addr) (h h':Heap):Prop where
 fly:Zf7 h' e T' cls fl dd
 tr:T'=T∨h.get? T'=none
 keep:∀ b o,h.get? b=some o→b≠e→b≠T→b ∉ frs l→h'.get? b=some o
 slot:∀ b o,h.get? b=some o→b∈frs l→∃ sl,h'.get? b=some { o with slots:=sl }
abbrev Gone (l:List Env) (e T T':Addr) (cls:Value) (dd:Option Addr) (h h':Heap):Prop:=GoneAt l e T T' cls .none dd h h'
section
variable {M:Model} {A:Around} {E:Value→Shared→Prop} {s:Shared} {base:Heap} {env:Env} {outer:List Env} {L e T:Addr} {cls fl:Value} {dd:Option Addr} {Q:Unit→Shared→Prop}
theorem Zih {oe:Obj}{vs:Array Value}{head:Value}{hadNext:Bool} (hfr:A.frames=some (env :: outer)) (hl:s.heap.FunFrames base (env :: outer)) (hf:env.frame=some L) (he:s.heap.get? e=some oe) (hd:oe.data=.fields vs) (hsz:1<vs.size)
 (h:∀ h' T',(∀ b o,s.heap.get? b=some o→b≠e→b ∉ frs (env :: outer)→h'.get? b=some o)→(∀ b o,s.heap.get? b=some o→b∈frs (env :: outer)→∃ sl,h'.get? b=some { o with slots:=sl })→s.heap.get? T'=none→T'≠e →
  (∃ oe',h'.get? e=some oe'∧oe'.cls=oe.cls∧oe'.dict=oe.dict∧oe'.data=.fields (vs.setIfInBounds 1 (.ref T')))→(∃ oT ts,h'.get? T'=some oT∧oT.data=.fields ts∧ts[3]?=some (rawInt L))→Q () { s with heap:=h' }) :
 wpAny M A (do let a ←frameOf env;let pl ←entryPlaceOf L hadNext;let b ←EntryCells.newEntry head a .none (rawInt L) .none pl;setField (.ref e) 1 b) Q E s:=by
 have ne:e ∉ frs (env :: outer):=fun m=>by
  obtain ⟨_,o,ho,nf⟩:=hl.mem m;rw [he] at ho;cases ho;exact nf vs hd
 refine Xbg (wpAny_frameOf_fun hfr hl hf fun g1 so=>?_);refine Xbg (wpAny_entryPlaceOf fun pl hpl=>?_);unfold EntryCells.newEntry newFields;refine Xbg (wpAny_newObj_type ?_ (hpl.sizeOk5 _ _ _ _ _))
 generalize hob:({ cls:=.type "traceback",dict:=none,data:=.fields ([head,.ref L,.none,rawInt L,.none]++(if pl.isEmpty then List.replicate 6 Value.none else pl)).toArray }:Obj)=ob
 have q1:g1.get? e=some oe:=(so.2.1 e ne).trans he;have q2:(g1.push ob).get? e=some oe:=Xbk _ q1;have nz:g1.objs.size≠e:=Nat.ne_of_gt (Xbl q1);refine wpAny_setField q2 hd hsz (h _ g1.objs.size (fun b o q n m=>?_) (fun b o q m=>?_) ?_ nz ?_ ?_)
 · rw [Heap.get?_update_other _ _ (Ne.symm n)]
   exact Xbk _ ((so.2.1 b m).trans q)
 · obtain ⟨sl,q'⟩:=so.2.2 b o q
   refine ⟨sl,?_⟩;rw [Heap.get?_update_other _ _ (fun z=>ne (by rw [z];exact m))];exact Xbk _ q'
 · exact Heap.get?_none_of_le (by rw [so.1];exact XaS _)
 · have d3:=Obj.data_mapFields hd (·.setIfInBounds 1 (Value.ref g1.objs.size))
   refine ⟨_,Heap.get?_update_self _ q2 (Obj.isFreed_of_fields d3),Obj.cls_mapFields _ _,?_,d3⟩;obtain ⟨c,dd,dt,sl⟩:=oe
   cases dt <;> first | rfl | (simp at hd)
 · have q4:(g1.push ob).get? g1.objs.size=some ob:=Xbm _ (by rw [←hob];rfl)
   refine ⟨ob,_,(Heap.get?_update_other _ _ (Ne.symm nz)).trans q4,by rw [←hob],?_⟩
   first | (simp;done) | (rcases hpl with rfl | ⟨_,_,_,_,_,_,_,rfl⟩ <;> simp)
theorem ZeI (hfr:A.frames=some (env :: outer)) (hl:s.heap.FunFrames base (env :: outer)) (hf:env.frame=some L) (ht:Zf7 s.heap e T cls fl dd)
 (h:∀ h' T',GoneAt (env :: outer) e T T' cls (rawInt L) dd s.heap h'→Q () { s with heap:=h' }):wpAny M A (noteFrame (.ref e) env) Q E s:=by
 obtain ⟨oe,vs,oT,ts,e1,e2,e2d,e3,e4,e5,e6,e7,e8⟩:=ht;have hz:3<ts.size:=(Array.getElem?_eq_some_iff.mp e8).1;have oth:∀ b,b≠T→(s.heap.update T (Obj.mapFields (·.setIfInBounds 3 Value.none))).get? b=s.heap.get? b:=fun b hb=>Heap.get?_update_other _ _ (Ne.symm hb)
 have nf:∀ b o,s.heap.get? b=some o→(∀ vs,o.data≠.fields vs)→b≠T:=fun b o q n z=>by
  rw [z,e6] at q;cases q;exact n ts e7
 unfold noteFrame;simp only [hf];refine Xbg (wpAny_field e1 e3 e4 ?_);rw [Xba (show (Value.ref T != Value.none)=true from by simp)];refine Xbg (wpAny_field e6 e7 e8 ?_)
 by_cases z:(fl == rawInt L)=true
 · rw [Xba z]
   refine Xbh (h s.heap T ⟨⟨oe,vs,oT,ts,e1,e2,e2d,e3,e4,e5,e6,e7,by rw [e8,beq_iff_eq.mp z]⟩,.inl rfl,fun b o q _ _ _=>q,fun b o q _=>⟨o.slots,q⟩⟩)
 rw [Xa9 z];refine Xbg (wpAny_setField e6 e7 hz ?_);refine Zih (base:=base) hfr (hl.of_keeps fun b o q n=>⟨o,(oth b (nf b o q n)).trans q,rfl⟩) hf ((oth e (Ne.symm e5)).trans e1) e3 (Array.getElem?_eq_some_iff.mp e4).1 fun h' T' k1 k2 k3 k4 ⟨oe',y1,y2,y3,y4⟩ ⟨oT',ts',z1,z2,z3⟩=>?_
 have nT:T'≠T:=fun z=>by
  have:=Heap.get?_update_self (Obj.mapFields (·.setIfInBounds 3 Value.none)) e6 (Obj.isFreed_of_fields (Obj.data_mapFields e7 _))
  rw [←z] at this;rw [z] at k3 this;rw [k3] at this;cases this
 refine h h' T' ⟨⟨oe',_,oT',ts',y1,y2.trans e2,y3.trans e2d,y4,?_,k4,z1,z2,z3⟩,.inr ((oth T' nT).symm.trans k3),fun b o q n1 n2 n3=>k1 b o ((oth b n2).trans q) n1 n3,fun b o q m=>?_⟩
 · simp [(Array.getElem?_eq_some_iff.mp e4).1]
 · obtain ⟨_,o',q',n⟩:=hl.mem m
   rw [q] at q';cases q';exact k2 b o ((oth b (nf b o q n)).trans q) m
theorem Zfw {oe:Obj}{vs:Array Value} (hfr:A.frames=some (env :: outer)) (hl:s.heap.FunFrames base (env :: outer)) (hf:env.frame=some L) (he:s.heap.get? e=some oe) (hd:oe.data=.fields vs) (h1:vs[1]?=some .none)
 (h:∀ h' T',GoneAt (env :: outer) e e T' oe.cls (rawInt L) oe.dict s.heap h'→Q () { s with heap:=h' }):wpAny M A (noteFrame (.ref e) env) Q E s:=by
 unfold noteFrame;simp only [hf];refine Xbg (wpAny_field he hd h1 ?_);rw [Xa9 (by decide)];refine Zih (base:=base) hfr hl hf he hd (Array.getElem?_eq_some_iff.mp h1).1 fun h' T' k1 k2 k3 k4 ⟨oe',y1,y2,y3,y4⟩ ⟨oT',ts',z1,z2,z3⟩=>?_;refine h h' T' ⟨⟨oe',_,oT',ts',y1,y2,y3,y4,?_,k4,z1,z2,z3⟩,.inr k3,fun b o q n1 _ n3=>k1 b o q n1 n3,k2⟩;simp [(Array.getElem?_eq_some_iff.mp h1).1]
theorem Zdj (ht:Zf7 s.heap e T cls fl dd) (h:∀ h',Fly h' e T cls dd→(∀ b o,s.heap.get? b=some o→b≠T→h'.get? b=some o)→Q () { s with heap:=h' }):wpAny M A (setFlight (.ref e) none) Q E s:=by
 obtain ⟨oe,vs,oT,ts,e1,e2,e2d,e3,e4,e5,e6,e7,e8⟩:=ht;have hz:3<ts.size:=(Array.getElem?_eq_some_iff.mp e8).1;have oth:∀ b,b≠T→(s.heap.update T (Obj.mapFields (·.setIfInBounds 3 ((none:Option Addr).elim Value.none fun f=>rawInt f)))).get? b=s.heap.get? b:=fun b hb=>Heap.get?_update_other _ _ (Ne.symm hb);unfold setFlight;refine Xbg (wpAny_field e1 e3 e4 ?_);rw [Xba (show (Value.ref T != Value.none)=true from by simp)];refine wpAny_setField e6 e7 hz (h _ ?_ fun b o q n=>(oth b n).trans q);exact ⟨oe,vs,_,_,(oth e (Ne.symm e5)).trans e1,e2,e2d,e3,e4,e5,Heap.get?_update_self _ e6 (Obj.isFreed_of_fields (Obj.data_mapFields e7 _)),Obj.data_mapFields e7 _,by simp [hz]⟩
theorem Zii {T':Addr}{h1 h2:Heap} (hl:s.heap.FunFrames base (env :: outer)) (hT:∀ b∈frs (env :: outer),b≠T) (g:GoneAt (env :: outer) e T T' cls fl dd s.heap h1) (f:Fly h2 e T' cls dd) (k:∀ b o,h1.get? b=some o→b≠T'→h2.get? b=some o):Gone (env :: outer) e T T' cls dd s.heap h2:=by
 have nn:∀ b o,s.heap.get? b=some o→b≠T→b≠T':=fun b o q n z=>by
  rcases g.tr with y | y
  · exact n (z.trans y)
  · rw [z,y] at q;cases q
 refine ⟨f,g.tr,fun b o q n1 n2 n3=>k b o (g.keep b o q n1 n2 n3) (nn b o q n2),fun b o q m=>?_⟩;obtain ⟨sl,q'⟩:=g.slot b o q m;exact ⟨sl,k b _ q' (nn b o q (hT b m))⟩
theorem ZiU (hfr:A.frames=some (env :: outer)) (hl:s.heap.FunFrames base (env :: outer)) (hf:env.frame=some L) (ht:Zf7 s.heap e T cls fl dd)
 (h:∀ h' T',Gone (env :: outer) e T T' cls dd s.heap h'→Q () { s with heap:=h' }):wpAny M A (leaving env (.ref e)) Q E s:=by
 unfold leaving;refine Xbg (ZeI hfr hl hf ht fun h1 T1 g1=>Zdj g1.fly fun h2 f2 k2=>h h2 T1 (Zii hl (fun b m z=>?_) g1 f2 k2));obtain ⟨oe,vs,oT,ts,_,_,_,_,_,_,e6,e7,_⟩:=ht;obtain ⟨_,o,ho,n⟩:=hl.mem m;rw [z,e6] at ho;cases ho;exact n ts e7
theorem ZhB {oe:Obj}{vs:Array Value} (hfr:A.frames=some (env :: outer)) (hl:s.heap.FunFrames base (env :: outer)) (hf:env.frame=some L) (he:s.heap.get? e=some oe) (hd:oe.data=.fields vs) (h1:vs[1]?=some .none)
 (h:∀ h' T',Gone (env :: outer) e e T' oe.cls oe.dict s.heap h'→Q () { s with heap:=h' }):wpAny M A (leaving env (.ref e)) Q E s:=by
 unfold leaving;refine Xbg (Zfw hfr hl hf he hd h1 fun h1 T1 g1=>Zdj g1.fly fun h2 f2 k2=>h h2 T1 (Zii hl (fun b m z=>?_) g1 f2 k2));obtain ⟨_,o,ho,n⟩:=hl.mem m;rw [z,he] at ho;cases ho;exact n vs hd
end
theorem ObjOk.there {P:Program}{w:World}{H:Hp}{h:Heap}{a:Addr}{o:HO} (x:ObjOk P w H h a o):∃ u,h.get? a=some u:=by
 cases o with
 | lst xs=>obtain ⟨_,_,_,_,e⟩:=x;exact ⟨_,e⟩
 | tup xs=>obtain ⟨_,_,_,u,e,_⟩:=x;exact ⟨u,e⟩
 | dK kvs=>obtain ⟨_,_,_,_,u,_,_,e,_⟩:=x;exact ⟨u,e⟩
 | dT kvs=>obtain ⟨_,_,_,_,u,_,_,e,_⟩:=x;exact ⟨u,e⟩
 | set S n=>obtain ⟨u,_,_,_,e,_⟩:=x;exact ⟨u,e⟩
 | ins C dx fs=>obtain ⟨_,_,_,e,_⟩:=x;exact ⟨_,e⟩
 | own y=>exact x
 | xd fs=>obtain ⟨_,⟨u,_,_,e,_⟩,_⟩:=x;exact ⟨u,e⟩
 | rng lo hi=>obtain ⟨_,_,_,e⟩:=x;exact ⟨_,e⟩
 | frz ob u=>obtain ⟨e,_⟩:=x;exact ⟨_,e⟩
 | tbl ps=>exact ⟨_,(show h.get? a=some _ from x)⟩
 | met f y=>exact ⟨_,(show h.get? a=some _ from x)⟩
 | ext φ=>obtain ⟨_,e,_⟩:=x;exact e
def Thr (h0 h:Heap) (H':Hp) (a:Addr) (cls:Value) (dd:Option Addr):Prop :=
 (∃ oe vs,h.get? a=some oe∧oe.cls=cls∧oe.dict=dd∧oe.data=.fields vs∧vs[1]?=some .none)∨∃ T fl,Zf7 h a T cls fl dd∧h0.get? T=none∧H' T=none
structure Th (P:Program) (w:World) (stack:List Env) (H:Hp) (s:Shared) (H':Hp) (s':Shared) (a C:Addr) (dd:Option Addr):Prop where
 os:s'.os=s.os
 bare:AllBare s'.gens
 un:Un (frs stack) [] H H' s.heap s'.heap
 hok:HOk P w H' s'.heap
 new:s.heap.get? a=none
 free:H' a=none
 thr:Thr s.heap s'.heap H' a (.ref C) dd
def CXE (P:Program) (w:World):CXT:=fun outer H s E e s'=>∃ a C dd H',e=.ref a∧Th P w outer H s H' s' a C dd∧(∃ T,Fly s'.heap a T (.ref C) dd∧s.heap.get? T=none∧H' T=none)∧E (.ref C) dd H'
def Throws (X:Cx) (E:XK):Prop:=∀ (pins:List (Addr×Obj)) (σ:St) (H:Hp) (s:Shared) (H':Hp) (s':Shared) (a C:Addr) (dd:Option Addr),Inv X pins σ H s→Th X.prog X.w X.stack H s H' s' a C dd→E (.ref C) dd H'→X.xe (.ref a) s'
theorem Throws.passes {X:Cx}{E:XK} (h:Throws X E):ZhV (CXE X.prog X.w) X E:=fun pins σ H s e s' I hx=>by
 obtain ⟨a,C,dd,H',rfl,t,_,q⟩:=hx;exact h pins σ H s H' s' a C dd I t q
theorem ZkV {h h' base:Heap}{H H':Hp}:∀ {l:List Env}{fs:List Addr},(∀ b∈frs l,b∈fs)→(∀ b∈frs l,H b=none)→Un fs [] H H' h h'→h.FunFrames base l→h'.FunFrames base l
 | [],_,_,_,_,_=>trivial
 | env :: rest,fs,hs,hn,u,⟨k,⟨L,o,hf,hb,ho,hd⟩,hr⟩=>by
   have mL:L∈frs (env :: rest):=by simp [frs,hf]
   have sub:∀ b∈frs rest,b∈frs (env :: rest):=fun b m=>by
    simp only [frs,Xbe,hf];exact Xap _ m
   obtain ⟨sl,e⟩:=u.slot L o ho (hn L mL) (hs L mL) (by simp);exact ⟨k,⟨L,_,hf,hb,e,hd⟩,ZkV (fun b m=>hs b (sub b m)) (fun b m=>hn b (sub b m)) u hr⟩
section
variable {P:Program} {w:World} {K:XFg} {mg:Str→Option Value} {base:Heap} {N:List Str} {qual:Str} {scope:Scope} {f:Addr} {cd:Value} {A:Around} {outer:List Env} {s:Shared} {H:Hp} {E:XK}
theorem Zau:Throws (cxOf (CXE P w) P w K mg base N qual scope f cd A outer s H E) E:=by
 intro pins σ H1 s1 H' s' a C dd I t q;obtain ⟨X,hX⟩:∃ X,X=cxOf (CXE P w) P w K mg base N qual scope f cd A outer s H E:=⟨_,rfl⟩;have tk:=t.hok;rw [←hX] at I t ⊢
 have e1:X.stack=X.env :: outer:=by rw [hX];rfl
 have e2:X.env.frame=some X.env.locals:=by rw [hX];rfl
 have e3:X.s₀=s:=by rw [hX];rfl
 have e4:X.H₀=H:=by rw [hX];rfl
 have e5:X.fs=frs outer:=by rw [hX];rfl
 have e6:X.ex=[]:=by rw [hX];rfl
 have e7:X.env.locals=s.heap.objs.size:=by rw [hX];rfl
 have hfr:=I.ok.frames;have hff:=ZkV (fun b m=>m) I.stkFree t.un I.stack;rw [e1] at hfr hff
 have hfrN:∀ b∈frs (X.env :: outer),H' b=none:=fun b m=>by
  rw [←e1] at m;obtain ⟨_,o,ho,_⟩:=I.stack.mem m;exact t.un.free b o ho (I.stkFree b m) (by simp)
 have hb:=I.base;rw [e3,e4,e5,e6] at hb
 have big : ∀ T T' h', (T = a ∨ (s1.heap.get? T = none ∧ H' T = none)) → Gone (X.env :: outer) a T T' (.ref C) dd s'.heap h' → CXE P w outer H s E (.ref a) { s' with heap := h' } := fun T T' h' hT g => by
  have nT:∀ b o,s1.heap.get? b=some o→b≠T:=fun b o e z=>by
   rcases hT with y | y
   · rw [z,y,t.new] at e;cases e
   · rw [z,y.1] at e;cases e
  have nA:∀ b o,s1.heap.get? b=some o→b≠a:=fun b o e z=>by rw [z,t.new] at e;cases e
  have H'T:H' T=none:=by
   rcases hT with y | y
   · rw [y];exact t.free
   · exact y.2
  have H'T' : H' T'=none:=by
   rcases g.tr with y | y
   · rw [y];exact H'T
   · cases z:H' T' with
     | none=>rfl
     | some o=>obtain ⟨u,e⟩:=(t.hok T' o z).there;rw [y] at e;cases e
  have up:∀ b o,s.heap.get? b=some o→∃ o',s1.heap.get? b=some o':=fun b o e=>hb.there b o e (by simp)
  have loc:∀ b o,s.heap.get? b=some o→b ∉ frs outer→b ∉ frs (X.env :: outer):=fun b o e n m=>by
   simp only [frs,Xbe,e2] at m
   rcases Xam.mp m with z | z
   · rw [z,e7] at e;exact XaT _ (Xbl e)
   · exact n z
  have out:∀ b,b∈frs outer→b∈frs (X.env :: outer):=fun b m=>by
   simp only [frs,Xbe,e2];exact Xap _ m
  have one:∀ b,s1.heap.get? b=none→s.heap.get? b=none:=fun b e=>by
   cases z:s.heap.get? b with
   | none=>rfl
   | some o=>obtain ⟨o',e'⟩:=up b o z;rw [e] at e';cases e'
  have hT' : s.heap.get? T' = none := by
   rcases g.tr with y | y
   · rw [y]
     rcases hT with z | z
     · rw [z];exact one a t.new
     · exact one T z.1
   · cases z:s.heap.get? T' with
     | none=>rfl
     | some o =>
       obtain ⟨o1,z1⟩:=up T' o z;obtain ⟨o2,z2⟩:=t.un.there T' o1 z1 (by simp);rw [y] at z2;cases z2
  refine ⟨a,C,dd,H',rfl,⟨t.os.trans (I.os.trans (by rw [e3])),t.bare,⟨fun b o e n m _=>?_,fun b o e n m _=>?_,fun b o e n _=>?_,fun b o e _=>?_,fun b xs e=>t.un.tups b xs (hb.tups b xs e),fun b o u e=>t.un.frzs b o u (hb.frzs b o u e),fun b ps e=>?_⟩,fun b o e=>?_,one a t.new,t.free,.inr ⟨T',_,g.fly,hT',H'T'⟩⟩,⟨T',g.fly,hT',H'T'⟩,q⟩
  · have k1:=hb.keep b o e n m (by simp)
    have k2:=t.un.keep b o k1 (hb.free b o e n (by simp)) (by rw [e1];exact loc b o e m) (by simp);exact g.keep b o k2 (nA b o k1) (nT b o k1) (loc b o e m)
  · obtain ⟨sl,k1⟩:=hb.slot b o e n m (by simp)
    obtain ⟨sl2,k2⟩:=t.un.slot b _ k1 (hb.free b o e n (by simp)) (by rw [e1];exact out b m) (by simp);obtain ⟨sl3,k3⟩:=g.slot b _ k2 (out b m);exact ⟨sl3,k3⟩
  · obtain ⟨o1,k1⟩:=up b o e
    exact t.un.free b o1 k1 (hb.free b o e n (by simp)) (by simp)
  · obtain ⟨o1,k1⟩:=up b o e
    obtain ⟨o2,k2⟩:=t.un.there b o1 k1 (by simp)
    by_cases m:b∈frs (X.env :: outer)
    · obtain ⟨sl,k3⟩:=g.slot b o2 k2 m
      exact ⟨_,k3⟩
    · exact ⟨_,g.keep b o2 k2 (nA b o1 k1) (nT b o1 k1) m⟩
  · obtain ⟨more,k1⟩:=hb.tbls b ps e
    obtain ⟨more2,k2⟩:=t.un.tbls b _ k1;exact ⟨more++more2,by rw [k2,Array.append_assoc]⟩
  · refine (show ObjOk P w H' h' b o from (tk b o e).stay (fun c u hc k=>g.keep c u k ?_ ?_ ?_) (fun _ z=>z) fun _ _ z=>z)
    all_goals
     intro z
     rcases hc with y | y
     · first
        | (rw [←y,z,t.free] at e;cases e)
        | (rw [←y,z,H'T] at e;cases e)
        | (rw [←y,hfrN c z] at e;cases e)
     · first
        | (rw [z,t.free] at y;cases y)
        | (rw [z,H'T] at y;cases y)
        | (rw [hfrN c z] at y;cases y)
 have hxe:X.xe (.ref a) s'=wpAny (model P w) X.A (leaving X.env (.ref a)) (fun _ s''=>CXE P w outer H s E (.ref a) s'') (fun e' s''=>CXE P w outer H s E e' s'') s':=by rw [hX];rfl
 rw [hxe]
 rcases t.thr with ⟨oe,vs,h1,h2,hdi,h3,h4⟩ | ⟨T,_,h1,h2,h3⟩
 · refine ZhB hfr hff e2 h1 h3 h4 fun h' T' g=>?_
   rw [h2,hdi] at g;exact big a T' h' (.inl rfl) g
 · exact ZiU hfr hff e2 h1 fun h' T' g=>big T T' h' (.inr ⟨h2,h3⟩) g
end
structure Exk (K:XFg) (mg:Str→Option Value) (x:Str) (C:Addr):Prop where
 at_:mg x=some (.ref C)
 ok:PySem.W.excIn K C [.type "ValueError",.type "Exception",.type "BaseException",.type "object"] "ValueError.__new__" = true
def subIn (K:XFg) (C Cp:Addr):Bool:=match K.lookup C with
 | some ⟨_,_,.cls cd,_⟩=>cd.mro.contains (.ref Cp)
 | _=>false
theorem ZhC {K:XFg}{C:Addr}{bmB:List Value}{newId:String} (q:PySem.W.excIn K C bmB newId=true) :
 ∃ nm qn N bs bm hdct sn sub ab col dd k0 k1 k2 k3 k5,(∀ h:Heap,K.In h→h.get? C=some (excClassObj nm qn C N bs bm hdct sn sub ab col dd k0 k1 k2 k3 k5 newId))∧PySem.W.nsOkIn K N=true∧PySem.W.nsIn K N "__init__" = some none∧PySem.W.tailIn K bmB bm=true∧∀ Cp,subIn K C Cp=(Value.ref C :: bm).contains (.ref Cp):=by
 unfold PySem.W.excIn at q
 split at q
 next dd cd sl look =>
  split at q
  next C' bm k0 k1 k2 k3 n k5 em es =>
   simp only [Bool.and_eq_true,beq_iff_eq,Bool.not_eq_true'] at q
   rcases q with ⟨⟨⟨⟨⟨eC,en⟩,ed⟩,et⟩,ek⟩,ei⟩
   subst eC;subst en;refine ⟨cd.name,cd.qualname,cd.ns,cd.bases,bm,cd.hasDict,cd.slotNames,cd.subclasses,cd.abstract,cd.collection,dd,k0,k1,k2,k3,k5,fun h I=>?_,ek,ei,et,fun Cp=>by unfold subIn;rw [look];simp only [em]⟩;rw [I _ _ look]
   have e1:sl=#[k0,k1,k2,k3,some (.builtin n),k5]:=by cases sl;simp only at es;rw [es]
   rw [e1];cases cd;simp only at em ed;rw [em,ed]
  next=>cases q
 next=>cases q
def tRaise (C:Addr) (E:XK) (t:TA):TS:=fun _ σ H=>t σ H fun vs H1=>vs.length≤sizeLine∧E (.ref C) none H1
theorem Zbd {X:Cx}{E:XK}{C:Addr}{x:Str}{np cpos pos:Pos}{e0:Expr}{es:List Expr}{t:TA} (hT:Throws X E) (hc:X.calm=true) (k:Exk X.K X.mg x C) (hg:Gl X x) (ha:PA X (e0 :: es) t)
 (hdb:(x == ("__debug__" : Str))=false:=by decide) (he:starEach (e0 :: es) X.env=(false,eval e0 X.env) :: starEach es X.env:=by rfl) (hpl:(backTo cpos (starEach es X.env)).any (·.1)=false:=by rfl) :
 PS X (.Raise (some (.Call (.Name x np) (e0 :: es) [] cpos)) none pos) (tRaise C E t):=by
 intro pins s σ H D I h;obtain ⟨nm,qn,N,bs,bm,hdct,sn,sub,ab,col,dd,k0,k1,k2,k3,k5,hC,hok,hni,htl,_⟩:=ZhC k.ok;have hB:X.base.Ns N (X.base.nsMap N):=.of_isNs (PySem.W.isNs_of_in I.mod.kin hok)
 refine wpAny_Raise_call_subT (nm:=nm) (q:=qn) (N:=N) (bs:=bs) (bm:=bm) (hdct:=hdct) (sn:=sn) (sub:=sub) (ab:=ab) (col:=col) (dd:=dd) (k0:=k0) (k1:=k1) (k2:=k2) (k3:=k3) (k5:=k5) (mN:=X.base.nsMap N) PySem.F.excBase_ValueError (OwnTail.hasType (PySem.W.tail_of_in I.kIn htl) (X := "BaseException") (by decide)) (I.ok.hd hc) ?_ (PySem.W.nsMap_none_of_in I.mod.kin hok hni) (Zdw I hg k.at_ ⟨rfl,?_⟩ hdb)
 · rw [he]
   show (false || (backTo cpos (starEach es X.env)).any (·.1))=false;rw [hpl];rfl
 · have h1:=ha cpos pins s σ H _ I h
   rw [he] at h1 ⊢;refine Calls.evalArgs_plain (thn h1 fun us s2 ⟨vs,H2,I2,r,q⟩=>⟨rfl,?_,hC _ I2.kIn,hB.keeps I2.bk,PySem.W.tail_of_in I2.kIn htl,fun h' e m=>?_⟩)
   · show us.length≤sizeLine
     rw [←r.length];exact q.1
   · obtain ⟨tp,t1,t2,t3⟩:=m.there
     refine hT pins σ H2 s2 H2 _ e C none I2 ⟨rfl,I2.bare,Un.kept m.keeps,I2.hok.kept m.keeps,m.new,?_,.inl ⟨_,_,t1,rfl,rfl,rfl,rfl⟩⟩ q.2
     cases z:H2 e with
     | none=>rfl
     | some o =>
       obtain ⟨u,y⟩:=(I2.hok e o z).there;rw [m.new] at y;cases y
section
variable {M:Model} {A:Around} {E:Value→Shared→Prop}
variable {nm q nm2 q2:Str} {C N C2 N2:Addr} {bs bm bs2 bm2:List Value} {hdct hdct2:Bool} {sn sn2:List Str} {sub sub2:List Value} {ab ab2:Bool} {col col2:Option Bool} {dd dd2:Option Addr} {k0 k1 k2 k3 k5 j0 j1 j2 j3 j5:Option Value} {newId newId2:String}
theorem ZjV {h:Heap}{g:Array GenState}{d:Drawn}{t:Nat}{os:OsState}{e:Addr}{oe:Obj}{b:Bool}{Q:Bool→Shared→Prop}
 (hC:h.get? C=some (excClassObj nm q C N bs bm hdct sn sub ab col dd k0 k1 k2 k3 k5 newId)) (hC2:h.get? C2=some (excClassObj nm2 q2 C2 N2 bs2 bm2 hdct2 sn2 sub2 ab2 col2 dd2 j0 j1 j2 j3 j5 newId2))
 (he:h.get? e=some oe) (hcls:oe.cls=.ref C) (hbase:bm2.contains (.type "BaseException")=true) (hb:(Value.ref C :: bm).contains (.ref C2)=b)
 (hq:Q b ⟨h,g,d,t,os⟩):wpAny M A (excMatches (.ref e) (.ref C2)) Q E ⟨h,g,d,t,os⟩:=by
 have hcB:(Value.ref C2 :: bm2).contains (.type "BaseException")=true:=by rw [List.contains_cons,hbase,Bool.or_true]
 have f:=tc_notTuple;unfold excMatches
 repeat (first | (with_reducible refine wpAny_loadPart_at he ?_;rw [hcls]) | with_reducible refine wpAny_loadPart_at hC2 ?_ | (with_reducible refine wpAny_isSubtype_exc hC2 ?_;rw [hcB]) | (with_reducible refine wpAny_isSubtype_exc hC ?_;rw [hb]) | wp_step)
 cases b <;> (wp_walk;exact hq)
end
section
variable {X:Cx} {pins:List (Addr×Obj)} {σ:St} {H:Hp} {s:Shared}
theorem Inv.unset {i:Nat}{x:Str}{m:Str→Option Value}{u:Option Value}{h':Heap} (I:Inv X pins σ H s) (hN:X.N.Nodup) (hi:X.N[i]?=some x) (hm:∀ (j:Nat) (y:Str) (v:V),X.N[j]?=some y→σ[j]?=some (some v)→Vis X.env.scope y→∃ u,RelV v u∧Look X.env s.heap m y u)
 (hn':h'.Ns X.env.locals (fun y=>if y=x then u else m y)) (hs:Heap.SameBut X.env.locals s.heap h'):Inv X pins (σ.set i none) H { s with heap:=h' }:=by
 obtain ⟨m0,⟨oL,_,_,hoL,_⟩,_⟩:=id I.loc;have lo:∀ b o,X.s₀.heap.get? b=some o→b≠X.env.locals:=fun b o e=>XaV (Xbb (Xbl e) I.ok.above)
 have iL:i<σ.length:=by rw [I.len];exact (Xae.mp hi).1
 refine ⟨I.ok,I.os,I.bare,⟨fun b o e n hb hx=>(hs.2 b (lo b o e)).trans (I.base.keep b o e n hb hx),fun b o e n hb hx=>?_,I.base.free,fun b o e hx=>?_,I.base.tups,I.base.frzs,I.base.tbls⟩,⟨_,hn',fun j y v e1 e2 e3=>?_⟩,fun y c e=>?_,I.free,I.freeC,fun p hp=>?_,fun b o e=>?_,by simpa using I.len⟩
 · obtain ⟨sl,q⟩:=I.base.slot b o e n hb hx
   exact ⟨sl,(hs.2 b (lo b o e)).trans q⟩
 · obtain ⟨o',q⟩:=I.base.there b o e hx
   exact ⟨o',(hs.2 b (lo b o e)).trans q⟩
 · by_cases hj:i=j
   · subst hj
     rw [List.getElem?_set_self iL] at e2;cases e2
   · rw [List.getElem?_set_ne hj] at e2
     obtain ⟨u',r',q⟩:=hm j y v e1 e2 e3;have ny:y≠x:=fun z=>hj (ZfJ hN hi (z ▸ e1));refine ⟨u',r',?_⟩
     rcases q with ⟨k,z⟩ | ⟨k,c,z,z'⟩
     · exact .inl ⟨k,(Xa9 ny).trans z⟩
     · exact .inr ⟨k,c,z,z'.sameBut hs (I.cne y c z)⟩
 · obtain ⟨w',z⟩:=I.cell y c e
   exact ⟨w',z.sameBut hs (I.cne y c e)⟩
 · obtain ⟨q,n,ne,nf,d⟩:=I.pin p hp
   exact ⟨(hs.2 p.1 ne).trans q,n,ne,nf,d⟩
 · refine (I.hok b o e).stay (fun c w' hc q=>(hs.2 c fun z=>?_).trans q) (fun _ q=>q) fun _ _ q=>q
   rcases hc with y | y
   · rw [←y,z,I.free] at e;cases e
   · rw [z,I.free] at y;cases y
theorem ZgX {M:Model}{A:Around}{E:Value→Shared→Prop}{i:Nat}{x:Str}{pos:Pos}{Q:Unit→Shared→Prop} (I:Inv X pins σ H s) (hN:X.N.Nodup) (hi:X.N[i]?=some x) (hx:X.env.scope.names.lookup x=some .local)
 (h:∀ s',Inv X pins (σ.set i none) H s'→Q () s'):wpAny M A (do bindName X.env x .none;unbindBehindTheSuite X.env x pos) Q E s:=by
 refine Xbg (wpAny_bindName (Zes I hN hi (.inl hx) (v:=.non) (u:=.none) rfl (fun s1 I1=>?_) (.inr hx)));obtain ⟨m,hn,hl⟩:=id I1.loc
 have iL:i<σ.length:=by rw [I.len];exact (Xae.mp hi).1
 obtain ⟨u,ru,q⟩:=hl i x .non hi (List.getElem?_set_self iL) (.inl hx);have hk:X.env.kindOf x=some .local:=hx
 have hv:m x=some u:=by
  rcases q with ⟨_,z⟩ | ⟨z,_⟩
  · exact z
  · rw [hk] at z
    rcases z with z | z <;> cases z
 unfold unbindBehindTheSuite;refine wpAny_onRaise (wpAny_unbindName_local hk hn hv (by rw [I.ok.kind];rfl) fun h' u' hn' hs=>?_);have I2:=I1.unset hN hi hl hn' hs;rw [List.set_set] at I2;exact h _ I2
end
def ExcO (a C:Addr) (dd:Option Addr):HO:=.ext fun h=>∃ oe vs,h.get? a=some oe∧oe.cls=.ref C∧oe.dict=dd∧oe.data=.fields vs
abbrev Cx.held (X:Cx) (v:Value):Cx:={ X with A:=X.A.mark (some v),calm:=false,xe:=fun _ _=>False }
section
variable {X:Cx} {pins:List (Addr×Obj)} {σ:St} {H H':Hp} {s s':Shared} {v:Value}
theorem Cx.Ok.held (ok:X.Ok):(X.held v).Ok :=
 ⟨ok.mod,ok.kind,ok.glob,ok.blt,ok.above,ok.inj,ok.has,ok.cab,fun z=>(by cases z),ok.frames,ok.stk,ok.exf,ok.bs,ok.bsz,ok.noex,ok.exfs,ok.funs,ok.frf⟩
theorem Inv.held (I:Inv X pins σ H s):Inv (X.held v) pins σ H s:=⟨I.ok.held,I.os,I.bare,I.base,I.loc,I.cell,I.free,I.freeC,I.pin,I.hok,I.len⟩
theorem Inv.unheld (ok:X.Ok) (I:Inv (X.held v) pins σ H s):Inv X pins σ H s:=⟨ok,I.os,I.bare,I.base,I.loc,I.cell,I.free,I.freeC,I.pin,I.hok,I.len⟩
theorem ZeJ {P:Program}{w:World}{stack:List Env}{h0 h1 h2:Heap}{a T:Addr} (un:Un (frs stack) [] H H' h0 h1) (hok:HOk P w H' h1) (na:h0.get? a=none) (nT:h0.get? T=none) (fa:H' a=none) (fT:H' T=none) (ff:∀ b∈frs stack,H' b=none)
 (k:∀ b o,h1.get? b=some o→b≠a→b≠T→b ∉ frs stack→h2.get? b=some o) (sl:∀ b o,h1.get? b=some o→b∈frs stack→∃ sl,h2.get? b=some { o with slots:=sl }):Un (frs stack) [] H H' h0 h2∧HOk P w H' h2:=by
 have n1:∀ b o,h0.get? b=some o→b≠a∧b≠T:=fun b o e=>⟨fun z=>(by rw [z,na] at e;cases e),fun z=>(by rw [z,nT] at e;cases e)⟩;refine ⟨⟨fun b o e n m _=>k b o (un.keep b o e n m (by simp)) (n1 b o e).1 (n1 b o e).2 m,fun b o e n m _=>?_,un.free,fun b o e _=>?_,un.tups,un.frzs,un.tbls⟩,fun b o e=>(hok b o e).stay (fun c u hc q=>k c u q (fun z=>?_) (fun z=>?_) fun z=>?_) (fun _ z=>z) fun _ _ z=>z⟩
 · obtain ⟨s1,q1⟩:=un.slot b o e n m (by simp)
   obtain ⟨s2,q2⟩:=sl b _ q1 m;exact ⟨s2,q2⟩
 · obtain ⟨o1,q1⟩:=un.there b o e (by simp)
   by_cases m:b∈frs stack
   · obtain ⟨s2,q2⟩:=sl b o1 q1 m
     exact ⟨_,q2⟩
   · exact ⟨o1,k b o1 q1 (n1 b o e).1 (n1 b o e).2 m⟩
 · rcases hc with y | y
   · rw [←y,z,fa] at e;cases e
   · rw [z,fa] at y;cases y
 · rcases hc with y | y
   · rw [←y,z,fT] at e;cases e
   · rw [z,fT] at y;cases y
 · rcases hc with y | y
   · rw [←y,ff c z] at e;cases e
   · rw [ff c z] at y;cases y
end
def Zar (P:Program) (w:World) (K:XFg) (mg:Str→Option Value) (base:Heap) (x:Str) (k:Nat) (ps:List Str) (sp:Sp):Prop :=
 ∃ f fd,FnOk P w K mg base (CXE P w) k f fd ps sp∧mg x=some (.ref f)∧PySem.W.keepIn K (.ref f)=true∧Binds K fd ps []
section
variable {X:Cx} {x y:Str} {k:Nat} {ps:List Str} {sp:Sp} {e:Expr} {es:List Expr} {t:TA} {p pos:Pos} {E:XK}
theorem Zcx (C:Zar X.prog X.w X.K X.mg X.base x k ps sp) (hT:Throws X E) (hr:Room k X.A) (hg:Gl X x) (ha:PA X (e :: es) t) (hdb:(x == ("__debug__" : Str))=false:=by decide)
 (he:starEach (e :: es) X.env=(false,eval e X.env) :: starEach es X.env:=by rfl) (hpl:(backTo pos (starEach es X.env)).any (·.1)=false:=by rfl):PE X (.Call (.Name x p) (e :: es) [] pos) (ZkE sp [] E t):=by
 obtain ⟨f,fd,F,hm,hk,hb⟩:=C;exact Zju F hr hg hm hk hb .nil hT.passes ha hdb he hpl
theorem Fun.okE {P:Program}{w:World}{K:XFg}{mg:Str→Option Value}{base:Heap}{qual:Str}{st:Stmt}{f:Addr}{fd:FuncData}{N:List Str} (F:Fun K x qual st f fd) (S:FnScope N ps (Zae st)) (len:∀ vs H Q E,sp vs H Q E→vs.length=ps.length)
 (hbody:∀ (cdv:Value) (A:Around) (outer:List Env) (s:Shared) (H:Hp) (vs:List V) (Q:VK) (E:XK),Room k (A.deeper (envOfC qual (Zae st) s.heap.objs.size f cdv))→sp vs H Q E →
  ∃ t,PSs (cxOf (CXE P w) P w K mg base N qual (Zae st) f cdv A outer s H E) (Zav st) t∧t { nx:=fun _ H'=>Q .non H',rt:=Q } (start N vs) H):FnOk P w K mg base (CXE P w) (k+1) f fd ps sp:=by
 obtain ⟨oc,od,kV,doc,pm,an,cdv,ct,osl,rfl,lk,hcd⟩:=F.ex;exact fn_of lk hcd S len fun A outer s H vs Q E hr hsp=>hbody cdv A outer s H vs Q E hr hsp
end
end L2
set_option maxRecDepth 100000
namespace PySem
open Sem (wp)
section
variable {prog:Program} {w:World} {A:Around} {E:Value→Shared→Prop} {h:Heap} {g:Array GenState} {d:Drawn} {t:Nat} {os:OsState}
variable {nm q:Str} {C N:Addr} {bs bm bmB:List Value} {hdct:Bool} {sn:List Str} {sub:List Value} {ab:Bool} {col:Option Bool} {dd:Option Addr} {k0 k1 k2 k3 k5:Option Value} {B Bn newId nid initId inN:String} {bmN:List Value}
theorem ZiV (Fn:ExcBaseFacts Bn newId inN bmN) (hBn:bmB.contains (.type Bn)=true) (F:ExcBaseFacts B nid initId bmB) (T:OwnTail h bmB bm) {mN:Str→Option Value} {rest:List Value} {fI:Addr} {oI:Obj} {Q:Fin→Shared→Prop}
 (hC:h.get? C=some (excClassObj nm q C N bs bm hdct sn sub ab col dd k0 k1 k2 k3 k5 newId)) (hn:h.Ns N mN) (hi:mN "__init__" = some (.ref fI)) (hfI:h.get? fI=some oI) (hfc:oI.cls=.type "function")
 (hq:∀ h' e,Heap.MadeExcOf h h' e (.ref C) rest→wpAny (model prog w) A (call (.ref fI) (.ref e :: rest)) (fun r s'=>r=.none∧Q (.done (.ret (.ref e))) s') E ⟨h',g,d,t,os⟩) (hrest:rest.length≤sizeLine) :
 wpAny (model prog w) A (Builtin.«type.__call__» ⟨.ref C :: rest,[]⟩) Q E ⟨h,g,d,t,os⟩:=by
 repeat (first | with_reducible refine wpAny_loadPart_at hC ?_ | with_reducible refine wpAny_madeBy_exc hC ?_ | wp_step)
 refine codeAny_call_builtin_code (Code.quiet_builtin _ Fn.quiet) (wpAny_check_new_subU Fn hBn T hC ?_);refine codeAny_exc_new_subU Fn hBn F T hC ?_ hrest;show wpAny _ _ _ _ _ _
 have hC₁:=Xbk { cls:=.ref C,data:=.fields #[.ref h.objs.size,.none,.none,.none,.bool false,.none] }
  (Xbk { cls:=.type "tuple",data:=.seq rest.toArray } hC)
 have hfI₁:=Xbk { cls:=.ref C,data:=.fields #[.ref h.objs.size,.none,.none,.none,.bool false,.none] }
  (Xbk { cls:=.type "tuple",data:=.seq rest.toArray } hfI)
 have hn₁:((h.push { cls:=.type "tuple",data:=.seq rest.toArray }).push { cls:=.ref C,data:=.fields #[.ref h.objs.size,.none,.none,.none,.bool false,.none] }).Ns N mN :=
  let ⟨o,es,ep,e,r⟩:=hn;⟨o,es,ep,Xbk _ (Xbk _ e),r⟩
 have hget:((h.push { cls:=.type "tuple",data:=.seq rest.toArray }).push
  { cls:=.ref C,data:=.fields #[.ref h.objs.size,.none,.none,.none,.bool false,.none] }).get? (h.objs.size+1)=some
  { cls:=.ref C,data:=.fields #[.ref h.objs.size,.none,.none,.none,.bool false,.none] }:=by heap_get
 have hcC:(Value.ref C :: bm).contains (.ref C)=true:=by simp
 have T₁:=T.keeps (h':=(h.push { cls:=.type "tuple",data:=.seq rest.toArray }).push { cls:=.ref C,data:=.fields #[.ref h.objs.size,.none,.none,.none,.bool false,.none] })
  fun b o e=>Xbk _ (Xbk _ e)
 unfold isInstance
 repeat (first | with_reducible refine wpAny_loadPart_at hget ?_ | (with_reducible refine wpAny_isSubtype_exc hC₁ ?_;rw [hcC]) | wp_step)
 show wpAny _ _ (typeLookup (.ref C) _) _ _ _;refine wpAny_typeLookup_tail hC₁ hn₁ T₁ F.mroIs F.init.lookup ?_;rw [hi];refine Xbi (Xbg ?_);unfold bindSpecial
 refine Xbg (wpAny_typeOf (T := "function") ⟨_,hfI₁,hfc⟩ ?_)
 rw [Xba (by decide)];refine Xbh (Xbg (Xbq (hq _ (h.objs.size+1) ⟨fun b o hb=>Xbk _ (Xbk _ hb),Heap.get?_none_of_le (Nat.le_succ _),h.objs.size,hget,Heap.get?_none_of_le (XaS _),?_⟩) (fun r s' hr=>?_) fun _ _ x=>x))
 · exact Xbk _ (Heap.get?_push_at rfl rfl)
 · obtain ⟨rfl,hQ⟩:=hr
   wp_walk
   exact hQ
theorem ZjW (Fn:ExcBaseFacts Bn newId inN bmN) (hBn:bmB.contains (.type Bn)=true) (F:ExcBaseFacts B nid initId bmB) (T:OwnTail h bmB bm) {mN:Str→Option Value} {rest:List Value} {fI:Addr} {oI:Obj} {Q:Value→Shared→Prop}
 (hC:h.get? C=some (excClassObj nm q C N bs bm hdct sn sub ab col dd k0 k1 k2 k3 k5 newId)) (hn:h.Ns N mN) (hi:mN "__init__" = some (.ref fI)) (hfI:h.get? fI=some oI) (hfc:oI.cls=.type "function")
 (hq:∀ h' e,Heap.MadeExcOf h h' e (.ref C) rest→wpAny (model prog w) (A.under (.builtin "type.__call__" ⟨.ref C :: rest,[]⟩)) (call (.ref fI) (.ref e :: rest)) (fun r s'=>r=.none∧Q (.ref e) s') E ⟨h',g,d,t,os⟩) (hrest:rest.length≤sizeLine) :
 wpAny (model prog w) A (call (.ref C) rest) Q E ⟨h,g,d,t,os⟩:=by
 have f1:=tc_lookup;have f2:=tc_bind (.ref C)
 have hT:(⟨h,g,d,t,os⟩:Shared).TypeIs (.ref C) "type" := ⟨_,hC,rfl⟩
 refine wpAny_call (codeAny_of_tree ?_);show wpAny _ _ (callAny (.ref C) _) _ _ _
 repeat (any_goals (first | assumption | with_reducible refine wpAny_loadPart_at hC ?_ | wp_step))
 refine ⟨rfl,?_⟩;refine codeAny_call_builtin_at (Code.quiet_builtin _ (by decide +kernel)) entry_typeCall (wpAny_check_type_call_sub hC (ZiV (hrest:=hrest) Fn hBn F T hC hn hi hfI hfc fun h' e hm=>?_));exact hq h' e hm
end
section
variable {M:Model} {A:Around} {E:Value→Shared→Prop} {env:Env}
variable {nm q:Str} {C N:Addr} {bs bm:List Value} {hdct:Bool} {sn:List Str} {sub:List Value} {ab:Bool} {col:Option Bool} {dd:Option Addr} {k0 k1 k2 k3 k5:Option Value} {newId:String}
theorem ZiW {s:Shared}{x:Sem Value}{Q:Flow→Shared→Prop} (hbase:bm.contains (.type "BaseException")=true) (hh:A.handled=none)
 (h:wpAny M A x (fun v s₁=>∃ e t dx,v=.ref e∧s₁.heap.get? C=some (excClassObj nm q C N bs bm hdct sn sub ab col dd k0 k1 k2 k3 k5 newId) ∧
  s₁.heap.get? e=some { cls:=.ref C,dict:=dx,data:=.fields #[.ref t,.none,.none,.none,.bool false,.none] }∧E (.ref e) s₁) E s) :
 wpAny M A (raiseStmt env (some x) none) Q E s:=by
 have hcB:(Value.ref C :: bm).contains (.type "BaseException")=true:=by rw [List.contains_cons,hbase,Bool.or_true]
 unfold raiseStmt;refine Xbg (Xbq h (fun v s₁ h₁=>?_) fun _ _ x=>x);obtain ⟨e,t,dx,rfl,hC,he,hE⟩:=h₁;obtain ⟨hp,g,d,tk,os⟩:=s₁
 repeat (first | with_reducible refine wpAny_loadPart_at he ?_ | with_reducible refine wpAny_loadPart_at hC ?_ | (with_reducible refine wpAny_isSubtype_exc hC ?_;rw [hcB]) | wp_step)
 exact wpAny_raiseNew_none hh hE
end
end PySem
set_option maxRecDepth 100000
namespace PySem.W
open PySem PySem.Calls PyProof.Rows Builtin Builtin.ObjectAttr
theorem Zfx {l:List Value} (h:mroV l=true):(∃ c r,l=.ref c :: r∧mroV r=true)∨l=VEm:=by
 unfold mroV at h
 split at h
 · exact .inl ⟨_,_,rfl,h⟩
 · exact .inr (eq_of_beq h)
theorem Zij (self:Value):∀ {l:List Value},mroV l=true→refuseLoop self "__setattr__" l=pure ()
 | [],h=>by cases h
 | v :: l, h => by
   rcases Zfx h with ⟨c,r,e,k⟩ | e
   · cases e
     rw [refuseLoop_ref];exact Zij self k
   · rw [e];exact PySem.F.store_ValueError.passes self
theorem Zik {b:Value} (hb:VEm.contains b=true):∀ {l:List Value},mroV l=true→l.contains b=true
 | [],h=>by cases h
 | v :: l, h => by
   rcases Zfx h with ⟨c,r,e,k⟩ | e
   · cases e
     rw [List.contains_cons,Zik hb k,Bool.or_true]
   · rw [e];exact hb
def overV (K:Frag) (C:Addr):Bool:=(clsIn K C).any fun cd=>mroV cd.mro
section
variable {prog:Program} {w:World} {A:Around} {s:Shared} {K:Frag} {x C:Addr} {R:Result→Shared→Prop}
theorem ZjX {ox:Obj}{od:Option Obj}{name:Str}{tk:Tok}{v:Value}{r:Option Value} (X:K.In s.heap) (I:InstAt s.heap x ox C od) (hp:overV K C=true) (ht:takerIn K C name=some r)
 (h:∀ b,wpAny (model prog w) A.in1 (match r with | some a=>setByDescriptor a (.ref x) v | none=>storeInOwnDict (.ref x) (.ref C) (.str name tk) name v b)
  (fun fin s'=>match fin with | .done f=>R (.ok f) s' | .again c'=>c'.quiet=true∧codeAny (model prog w) A c' R s') (fun e s'=>R (.error e) s') s) :
 codeAny (model prog w) A (.call (.builtin "object.__setattr__") ⟨[.ref x,.str name tk,v],[]⟩) R s:=by
 have SF:=PySem.F.store_object;obtain ⟨cd,hc,ho⟩:=any_some hp
 have ne:cd.mro.isEmpty=false:=by cases q:cd.mro with | nil=>rw [q] at ho;cases ho | cons _ _=>rfl
 have sub:Looks (model prog w) s.heap (isInstance (.ref x) (.type "object")) true:=I.type.andThen (looks_mroIn X (by unfold mroIn;rw [hc,Option.bind_some,Xa9 (by rw [ne];decide),Zik (by decide) ho]))
 refine codeAny_call_builtin SF.slot.plain SF.entry (@check_slot (model prog w) _ _ s "object.__setattr__" "object" "__setattr__" (.ref x) [.str name tk,v] [] _ SF.kind SF.split sub (SF.args (.ref x) (.str name tk) v) ?_)
 obtain ⟨attr,ha,hr⟩:=Option.bind_eq_some_iff.mp ht;have hm:Looks (model prog w) s.heap (mroOf (.ref C)) cd.mro:=(looks_clsIn X hc).andThen .now
 have L3:Looks (model prog w) s.heap (storeTaker? attr) r:=by
  cases attr with
  | none=>cases hr;exact .now
  | some a =>
    obtain ⟨b,hb,rfl⟩:=XaR.mp hr;refine (looks_takesIn X hb).andThen ?_
    cases b <;> exact .now
 rw [osa_eq,refuse_eq];refine Xbg (Xbg (I.type.here (Xbg (hm.here ?_))));rw [Zij _ ho];refine Xbh (Xbg (I.type.here (Xbg ((looks_findIn X ha).here (Xbg (L3.here ?_))))));exact h _
theorem xset {E:Value→Shared→Prop}{vs:Array Value}{name:Str}{v:Value}{Q:Unit→Shared→Prop} (X:K.In s.heap) (hx:s.heap.get? x=some { cls:=.ref C,data:=.fields vs })
 (hs:findIn K (.ref C) "__setattr__" = some (some (.builtin "object.__setattr__"))) (hp:overV K C=true) (ht:takerIn K C name=some none) (hh:hasDictIn K C=true)
 (h:∀ h' dx,(∀ b o,s.heap.get? b=some o→b≠x→h'.get? b=some o)→s.heap.get? dx=none→dx≠x→h'.get? x=some { cls:=.ref C,dict:=some dx,data:=.fields vs }→h'.Ns1 dx (fun y=>if y=name then some v else none)→Q () { s with heap:=h',toks:=s.toks+2 }) :
 wpAny (model prog w) A (setAttr (.ref x) name v) Q E s:=by
 have I:InstAt s.heap x { cls:=.ref C,data:=.fields vs } C none:=⟨hx,rfl,rfl,True.intro⟩;refine set_plain X I hs (ZjX (s:={ s with toks:=s.toks+1 }) (r:=none) X I hp ht fun b=>?_);obtain ⟨cd,hc,hd'⟩:=any_some hh;refine Xbg (Xbh (Xbg (Xbg (wpAny_loadPart hx (Xbg (Looks.here (s:={ s with toks:=s.toks+1 }) (looks_clsIn X hc) ?_))))));rw [hd']
 have hx₁:(s.heap.push { cls:=.type "dict",data:=.dict #[] }).get? x=some { cls:=.ref C,data:=.fields vs }:=Xbk _ hx
 have hxs:x≠s.heap.objs.size:=XaV (Xbl hx)
 have hgd:((s.heap.push { cls:=.type "dict",data:=.dict #[] }).update x fun o=>{ cls:=o.cls,dict:=some s.heap.objs.size,data:=o.data,slots:=o.slots }).get? s.heap.objs.size=some { cls:=.type "dict",data:=.dict #[] } :=
  (Heap.get?_update_ne _ _ _ _ hxs.symm).trans (Heap.get?_push_at rfl rfl)
 have hnd:((s.heap.push { cls:=.type "dict",data:=.dict #[] }).update x fun o=>{ cls:=o.cls,dict:=some s.heap.objs.size,data:=o.data,slots:=o.slots }).Ns s.heap.objs.size (fun _=>none) :=
  ⟨_,#[],_,hgd,rfl,fun e he=>absurd he (by simp),fun _=>rfl⟩
 refine Xbg (wpAny_alloc (Xbg (wpAny_update hx₁ ?_)));refine Xbh (a:=some s.heap.objs.size) ?_;show wpAny _ _ (storeInDict s.heap.objs.size (.str name s.toks) name v) _ _ _;unfold storeInDict newKeyGuard;refine Xbg (Xbh (Xbg (wpAny_nsSet1 (s:={ s with heap:=_,toks:=s.toks+1 }) (Heap.Ns1.of_empty hnd) fun h' hn' hs'=>?_)));obtain ⟨oD,esD,epD,hoD,hdD,hcD⟩:=hn'.count (Within.cons name v Within.nil);refine Xbg (wpAny_lookBehind hoD (by rw [hdD];exact pastItsLine_dict (Xbc hcD (by rw [XaB,XaL,sizeLine_eq];omega))) ?_);refine Xbh (h h' s.heap.objs.size (fun b o e hb=>?_) (Heap.get?_none_of_le (XaS _)) hxs.symm ?_ hn')
 · exact (hs'.2 b (XaV (Xbl e))).trans ((Heap.get?_update_ne _ _ _ _ hb).trans (Xbk _ e))
 · exact (hs'.2 x hxs).trans (Heap.get?_update_self _ hx₁ rfl)
end
end PySem.W
namespace L2
open PySem PySem.Spec PySem.Calls PyProof.Rows PySem.W
structure ExcCl (K:XFg) (D:Addr):Prop where
 hg:findIn K (.ref D) "__getattribute__" = some (some (.builtin "BaseException.__getattribute__"))
 hk:findIn K (.ref D) "__getattr__" = some none
 hb:mroIn K D (.type "BaseException")=some true
 hc:(clsIn K D).isSome=true
 ha:findIn K (.ref D) "__class__" = some (some (.builtin "object.__class__"))
 hn:specialIn K (.builtin "object.__class__") "__get__" = some (some (.builtin "getset_descriptor.__get__"))
 ht:takesIn K (.builtin "object.__class__")=some true
 hm:mroIn K D (.type "object")=some true
section
variable {prog:Program} {w:World} {A:Around} {E:Value→Shared→Prop} {s:Shared} {K:XFg} {x D:Addr} {ox:Obj} {od:Option Obj} {c:Value}
theorem x_check {nameV:Value}{Q:Unit→Shared→Prop} (k:ExcCl K D) (X:K.In s.heap) (I:InstAt s.heap x ox D od) (h:Q () s):wpAny (model prog w) A (checkBuiltinCall "BaseException.__getattribute__" ⟨[.ref x,nameV],[]⟩) Q E s:=by
 obtain ⟨hh,g,d,t,os⟩:=s
 have hk:builtinKind "BaseException.__getattribute__" = some .slot:=by decide +kernel
 have hsplit:splitId "BaseException.__getattribute__" = some ("BaseException", "__getattribute__"):=by decide +kernel
 have ha:=PySem.F.args_bexc_ga (.ref x) nameV;have L0:=I.type (M:=model prog w)
 have LI:Looks (model prog w) hh (isInstance (.ref x) (.type "BaseException")) true:=L0.andThen (looks_mroIn (M:=model prog w) X k.hb)
 simp only [checkBuiltinCall,hk,hsplit];refine Xbg (LI.at ?_)
 repeat (first | exact h | wp_step)
theorem ZkW {tk:Tok}{Q:Fin→Shared→Prop} (k:ExcCl K D) (X:K.In s.heap) (I:InstAt s.heap x ox D od) (h:Q (.done (.ret (.ref D))) s):wpAny (model prog w) A (Builtin.«object.__getattribute__» ⟨[.ref x,.str "__class__" tk],[]⟩) Q E s:=by
 have hf:findObj K D od "__class__" = some (.bind (.builtin "getset_descriptor.__get__") (.builtin "object.__class__")):=by
  obtain ⟨cd,hc⟩:=Option.isSome_iff_exists.mp k.hc;unfold findObj;rw [hc,Option.bind_some,k.ha,Option.bind_some];simp [k.hn,k.ht]
 obtain ⟨hh,g,d,t,os⟩:=s;have L0:=I.type (M:=model prog w);have L1:=looks_find (M:=model prog w) X I hf;refine Xbg (Xbh (Xbg (Xbh (Xbg (L0.at (Xbg (L1.at ?_)))))))
 show wpAny _ _ (holding [.builtin "object.__class__"] (call (.builtin "getset_descriptor.__get__") [.builtin "object.__class__",.ref x,.ref D]) >>= ret) _ _ _
 exact Xbg (Xbi (wpAny_call (class_get (s:=⟨hh,g,d,t,os⟩) (ox:=ox) (od:=od) X I k.hm (Xbh h))))
theorem x_class {Q:Option Value→Shared→Prop} (k:ExcCl K D) (X:K.In s.heap) (I:InstAt s.heap x ox D od) (h:Q (some (.ref D)) { s with toks:=s.toks+1 }):wpAny (model prog w) A (getAttr? (.ref x) "__class__") Q E s:=by
 obtain ⟨hh,g,d,t,os⟩:=s;have L0:=I.type (M:=model prog w);have L1:=looks_findIn (M:=model prog w) X k.hg;have L2:=looks_findIn (M:=model prog w) X k.hk;have f3:=PySem.F.attr_ValueError.ga.bind (.ref x);unfold getAttr? getAttrBy? getAttrBy;refine Xbg (wpAny_mkText (Xbg (wpAny_attempt (Xbi (Xbg (L0.at (Xbg (L1.at ?_))))))))
 have hne:(Value.builtin "BaseException.__getattribute__" == Value.builtin "object.__getattribute__")=false:=by decide +kernel
 show wpAny _ _ (if (onTheHeap (.ref D) && Value.builtin "BaseException.__getattribute__" == Value.builtin "object.__getattribute__")=true then _ else getAttrByItsOwn _ _ _ _ _ _) _ _ _
 rw [hne,Bool.and_false,Xa9 (by decide)];unfold getAttrByItsOwn;refine Xbg (L2.at ?_);refine Xbg (wpAny_attempt (Xbi ?_));show wpAny _ _ (boundAndCalled _ _ _) _ _ _;unfold boundAndCalled;rw [f3];refine Xbg (Xbh (wpAny_call (codeAny_call_builtin PySem.F.attr_ValueError.ga.plain PySem.F.entry_bexc_ga (x_check k X I (ZkW k X I ?_)))));exact Xbh (Xbh h)
end
end L2
namespace PySem.W
open PySem
end PySem.W
namespace L2
open PySem PySem.Spec PyProof.Rows
def ZiX (K:XFg) (C:Addr):Prop:=∃ nm qn N bs bm hdct sn sub ab col dd k0 k1 k2 k3 k5 newId,(∀ h:Heap,K.In h→h.get? C=some (excClassObj nm qn C N bs bm hdct sn sub ab col dd k0 k1 k2 k3 k5 newId))∧(∀ Cp,subIn K C Cp=(Value.ref C :: bm).contains (.ref Cp))
theorem Zc7 {K:XFg}{C:Addr}{bmB:List Value}{newId:String} (q:PySem.W.excIn K C bmB newId=true):ZiX K C:=by
 obtain ⟨nm,qn,N,bs,bm,hdct,sn,sub,ab,col,dd,k0,k1,k2,k3,k5,h1,_,_,_,h2⟩:=ZhC q;exact ⟨nm,qn,N,bs,bm,hdct,sn,sub,ab,col,dd,k0,k1,k2,k3,k5,newId,h1,h2⟩
theorem ZjY {K:XFg}{C f:Addr} (q:PySem.W.xIn K C f=true) :
 ∃ nm qn N bs bm hdct sn sub ab col dd k0 k1 k2 k3 k5,(∀ h:Heap,K.In h→h.get? C=some (excClassObj nm qn C N bs bm hdct sn sub ab col dd k0 k1 k2 k3 k5 "ValueError.__new__"))∧PySem.W.nsOkIn K N=true∧PySem.W.nsIn K N "__init__" = some (some (.ref f))∧PySem.W.tailIn K PySem.W.VEm bm=true∧(∀ Cp,subIn K C Cp=(Value.ref C :: bm).contains (.ref Cp))∧PySem.W.hasDictIn K C=true∧PySem.W.overV K C=true:=by
 unfold PySem.W.xIn at q
 split at q
 next dd cd sl look =>
  split at q
  next C' bm k0 k1 k2 k3 n k5 em es =>
   simp only [Bool.and_eq_true,beq_iff_eq,Bool.not_eq_true'] at q
   rcases q with ⟨⟨⟨⟨⟨⟨⟨eC,en⟩,ed⟩,et⟩,ek⟩,ei⟩,eh⟩,ev⟩
   subst eC;subst en
   have hcl:PySem.W.clsIn K C'=some cd:=by unfold PySem.W.clsIn;rw [look]
   refine ⟨cd.name,cd.qualname,cd.ns,cd.bases,bm,cd.hasDict,cd.slotNames,cd.subclasses,cd.abstract,cd.collection,dd,k0,k1,k2,k3,k5,fun h I=>?_,ek,ei,et,fun Cp=>by unfold subIn;rw [look];simp only [em],by unfold PySem.W.hasDictIn;rw [hcl];exact eh,by unfold PySem.W.overV;rw [hcl];exact ev⟩;rw [I _ _ look]
   have e1:sl=#[k0,k1,k2,k3,some (.builtin "ValueError.__new__"),k5]:=by cases sl;simp only at es;rw [es]
   rw [e1];cases cd;simp only at em ed;rw [em,ed]
  next=>cases q
 next=>cases q
def ExcN (e C:Addr) (dd:Option Addr):HO:=.ext fun h=>∃ t,h.get? e=some { cls:=.ref C,dict:=dd,data:=.fields #[.ref t,.none,.none,.none,.bool false,.none] }
def del (H:Hp) (e:Addr):Hp:=fun x=>if x=e then none else H x
theorem Zds {H:Hp}{e x:Addr} (h:x≠e):del H e x=H x:=Xa9 h
theorem Zf8 {H:Hp}{e:Addr}:del H e e=none:=Xba rfl
theorem del_hok {P:Program}{w:World}{H:Hp}{h:Heap}{e:Addr}{φ:Heap→Prop} (k:HOk P w H h) (he:H e=some (.ext φ)):HOk P w (del H e) h:=fun b o q=>by
 have hb:b≠e:=fun z=>by rw [z,Zf8] at q;cases q
 rw [Zds hb] at q
 exact (k b o q).stay (fun _ _ _ z=>z) (fun c z=>by
  have:c≠e:=fun y=>by rw [y,he] at z;cases z
  rw [Zds this];exact z) fun c xs z=>by
  have:c≠e:=fun y=>by rw [y,he] at z;cases z
  rw [Zds this];exact z
theorem Un.del {fs:List Addr}{H H2:Hp}{h h2:Heap}{e:Addr} (u:Un fs [] H H2 h h2) (hn:H e=none):Un fs [] H (del H2 e) h h2 :=
 have ne:∀ {b:Addr} {o:HO},H b=some o→b≠e:=fun q z=>by rw [z,hn] at q;cases q
 ⟨u.keep,u.slot,fun b o q n x=>by
  by_cases z:b=e
  · rw [z,Zf8]
  · rw [Zds z];exact u.free b o q n x,u.there,fun b xs q=>by rw [Zds (ne q)];exact u.tups b xs q,fun b o v q=>by rw [Zds (ne q)];exact u.frzs b o v q,fun b ps q=>by
  obtain ⟨more,k⟩:=u.tbls b ps q
  exact ⟨more,by rw [Zds (ne q)];exact k⟩⟩
def ZjZ (C:Addr) (sp:Sp) (E:XK) (t:TA):TS:=fun _ σ H=>t σ H fun vs H1=>vs.length≤sizeLine∧∀ e,H1 e=none→sp (.ref e :: vs) (upd H1 e (ExcN e C none)) (fun v H2=>v=.non∧∃ dd,H2 e=some (ExcN e C dd)∧E (.ref C) dd (del H2 e)) E0
section
variable {X:Cx} {pins:List (Addr×Obj)} {σ:St} {H:Hp} {s:Shared} {E:XK} {C fI:Addr} {fd:FuncData} {ps:List Str} {sp:Sp} {k:Nat}
theorem ZiY {K:XFg}{h:Heap}{N:Addr}{mg:Str→Option Value}{n:Str}{v:Value} (X:K.In h) (G:h.Ns N mg) (e:PySem.W.nsIn K N n=some (some v)):mg n=some v:=by
 obtain ⟨o,es,ep,ho,hd,_,hf⟩:=G;unfold PySem.W.nsIn at e
 split at e
 · rename_i c d es' n' sl q
   have:=X _ _ q
   rw [ho] at this;cases this;cases hd
   split at e
   · rename_i e' he
     cases e;rw [←hf];unfold nsFind findBy;rw [←Array.find?_toList,he];rfl
   · split at e <;> cases e
 · cases e
theorem Zj0 {us:List Value}{vs:List V}{Q:Value→Shared→Prop} (hT:Throws X E) (q:PySem.W.xIn X.K C fI=true) (hf:PySem.W.isFn X.K (.ref fI)=true) (F:FnOk X.prog X.w X.K X.mg X.base CX0 k fI fd ps sp) (hr:Room (k+1) X.A) (hb:Binds X.K fd ps []) (I:Inv X pins σ H s) (r:Vals vs us) (hl:vs.length≤sizeLine)
 (h:∀ e,H e=none→sp (.ref e :: vs) (upd H e (ExcN e C none)) (fun v H2=>v=.non∧∃ dd,H2 e=some (ExcN e C dd)∧E (.ref C) dd (del H2 e)) E0)
 (hQ:∀ e t dx s',s'.heap.get? e=some { cls:=.ref C,dict:=dx,data:=.fields #[.ref t,.none,.none,.none,.bool false,.none] }→X.K.In s'.heap→X.xe (.ref e) s'→Q (.ref e) s') :
 wpAny (model X.prog X.w) X.A (call (.ref C) us) Q X.xe s:=by
 obtain ⟨nm,qn,N,bs,bm,hdct,sn,sub,ab,col,dd,k0,k1,k2,k3,k5,hC,hok,hni,htl,_,_,_⟩:=ZjY q;have hB:X.base.Ns N (X.base.nsMap N):=.of_isNs (PySem.W.isNs_of_in I.mod.kin hok)
 obtain ⟨oI,hfI,hfc⟩:∃ oI,X.K.lookup fI=some oI∧oI.cls=.type "function" := by
  have e:=beq_iff_eq.mp hf;exact XaR.mp e
 obtain ⟨hh,g,d,tk,os⟩:=s;refine ZjW (mN:=X.base.nsMap N) PySem.F.excBase_ValueError (by decide) PySem.F.excBase_ValueError (PySem.W.tail_of_in I.kIn htl) (hC _ I.kIn) (hB.keeps I.bk) (ZiY I.mod.kin hB hni) (I.kIn _ _ hfI) hfc (fun h' e m=>?_) (by rw [←r.length];exact hl)
 have hne:∀ b u,hh.get? b=some u→b≠e:=fun b u q z=>by rw [z,m.new] at q;cases q
 have hn:H e=none:=I.freshN hne;obtain ⟨t0,ht0,_,_⟩:=m.there;have I1:Inv X pins σ (upd H e (ExcN e C none)) ⟨h',g,d,tk,os⟩:=I.laidN (t':=tk) m.keeps hne ⟨⟨t0,ht0⟩,⟨_,ht0⟩,fun g1 g2 ⟨t,p⟩ k=>⟨t,k _ p⟩⟩;have un1:Un (frs X.stack) [] H (upd H e (ExcN e C none)) hh h':=⟨fun b u q _ _ _=>m.keeps b u q,fun b u q _ _ _=>⟨u.slots,m.keeps b u q⟩,fun b u q n _=>by rw [Zaf (hne b u q)];exact n,fun b u q _=>⟨u,m.keeps b u q⟩,fun b xs q=>by rw [Zaf (Zag q hn)];exact q,fun b u xs q=>by rw [Zaf (Zag q hn)];exact q,fun b ps q=>⟨#[],by rw [Zaf (Zag q hn),q];simp⟩⟩;have hsp:=h e hn
 have hlen:(Value.ref e :: us).length=ps.length:=by
  have e1:(V.ref e :: vs).length=ps.length:=F.len _ _ _ _ hsp;rw [←e1];show us.length+1=vs.length+1;rw [r.length]
 have hb':=hb ⟨h',g,d,tk,os⟩ (Value.ref e :: us) I1.kIn (by rw [XaH];exact hlen);rw [XaH] at hb';refine wpAny_call (codeAny_mono (F.run _ X.stack _ _ ⟨Value.ref e :: us,[]⟩ (Value.ref e :: us) (V.ref e :: vs) _ _ (hr.make C us []) (I1.env0.make C us []) hb' (.cons rfl r) hsp) fun r s' hq'=>?_)
 cases r with
 | error e'=>exact False.elim hq'
 | ok fl =>
   cases fl with
   | next=>exact False.elim hq'
   | brk=>exact False.elim hq'
   | cont=>exact False.elim hq'
   | ret u =>
     obtain ⟨v,H',eos,bare,un,hok',rv,ev,dd',hH',qE⟩:=hq';subst ev;obtain ⟨h2,g2,d2,t2,os2⟩:=s';obtain rfl:os2=os:=eos;have I3:Inv X pins σ H' ⟨h2,g2,d2,t2,os2⟩:=I1.call (h':=h2) (g':=g2) (d':=d2) (t':=t2) (ch:=[]) un hok' bare (fun b z=>absurd z (by simp));obtain ⟨⟨t1,ht1⟩,_,_⟩:=hok' e _ hH';refine ⟨rv,hQ e t1 dd' _ ht1 I3.kIn (hT pins σ H _ (del H' e) _ e C dd' I ⟨rfl,bare,(un1.trans un).del hn,del_hok hok' hH',m.new,Zf8,.inl ⟨_,_,ht1,rfl,rfl,rfl,rfl⟩⟩ qE)⟩
theorem Zj1 {x:Str}{np cpos pos:Pos}{e0:Expr}{es:List Expr}{t:TA} (hT:Throws X E) (hc:X.calm=true) (hm:X.mg x=some (.ref C)) (q:PySem.W.xIn X.K C fI=true) (hf:PySem.W.isFn X.K (.ref fI)=true) (hk:PySem.W.keepIn X.K (.ref C)=true) (F:FnOk X.prog X.w X.K X.mg X.base CX0 k fI fd ps sp) (hr:Room (k+1) X.A) (hb:Binds X.K fd ps []) (hg:Gl X x) (ha:PA X (e0 :: es) t)
 (hdb:(x == ("__debug__" : Str))=false:=by decide) (he:starEach (e0 :: es) X.env=(false,eval e0 X.env) :: starEach es X.env:=by rfl) (hpl:(backTo cpos (starEach es X.env)).any (·.1)=false:=by rfl) :
 PS X (.Raise (some (.Call (.Name x np) (e0 :: es) [] cpos)) none pos) (ZjZ C sp E t):=by
 intro pins s σ H D I h;obtain ⟨nm,qn,N,bs,bm,hdct,sn,sub,ab,col,dd,k0,k1,k2,k3,k5,hC,hok,hni,htl,_,_,_⟩:=ZjY q;rw [arm_exec_Raise]
 refine Xbg (wpAny_standAt (ZiW (C:=C) (nm:=nm) (q:=qn) (N:=N) (bs:=bs) (bm:=bm) (hdct:=hdct) (sn:=sn) (sub:=sub) (ab:=ab) (col:=col) (dd:=dd) (k0:=k0) (k1:=k1) (k2:=k2) (k3:=k3) (k5:=k5) (newId := "ValueError.__new__") (OwnTail.hasType (PySem.W.tail_of_in I.kIn htl) (X := "BaseException") (by decide)) (I.ok.hd hc)
  (Xbg (Xbq (Q:=fun v s₃=>∃ e t dx,v=.ref e∧s₃.heap.get? C=some (excClassObj nm qn C N bs bm hdct sn sub ab col dd k0 k1 k2 k3 k5 "ValueError.__new__")∧s₃.heap.get? e=some { cls:=.ref C,dict:=dx,data:=.fields #[.ref t,.none,.none,.none,.bool false,.none] }∧X.xe (.ref e) s₃) ?_ (fun v s₃ h₃=>Xbg (wpAny_standAt (Xbh h₃))) fun _ _ x=>x))))
 refine wpAny_Call_Name_kw (Zdw I hg hm ?_ hdb);refine PySem.W.callWith_K (h₀:=X.base) I.ok.mod.kin hk (thn (ha cpos pins s σ H _ I h) fun us s1 ⟨vs,H1,I1,r,hl,qs⟩=>⟨I1.kIn,?_⟩) he hpl;exact Zj0 hT q hf F hr hb I1 r hl qs fun e t dx s' he' hK hx=>⟨e,t,dx,rfl,hC _ hK,he',hx⟩
end
end L2
set_option maxRecDepth 100000
namespace L2
open PySem PySem.Spec PySem.Calls PyProof.Rows PySem.W
structure ClsAt (K:XFg) (C:Addr) (name:Str) (v:Value):Prop where
 op:nsIn K cStatics "thirdparty.any" = some none
 ty:typeIn K (.ref C)=some (.type "type")
 at_:findCls K (.ref C) (.type "type") name=some (.val v)
theorem Zil {K:XFg}:findIn K (.type "type") "__getattribute__" = some (some (.builtin "type.__getattribute__")):=by show fastLookup "type" "__getattribute__" = _;kernel_rfl
theorem tga_sub {K:XFg}:PySem.W.subIn K (.type "type") (.type "type")=some true:=by show (fastBuiltinMro "type").map (·.contains (.type "type"))=_;kernel_rfl
section
variable {prog:Program} {w:World} {A:Around} {E:Value→Shared→Prop} {s:Shared} {K:XFg} {C:Addr} {name:Str} {v:Value}
theorem getcls {expr:Bool}{Q:Value→Shared→Prop} (X:K.In s.heap) (k:ClsAt K C name v) (hv:handedIn v=true) (h:Q v { s with toks:=s.toks+1 }):wpAny (model prog w) A (getAttr (.ref C) name expr) Q E s:=by
 refine cls_open (r:=.val v) (hook:=none) X (looks_opaque X k.op) (looks_typeIn X k.ty) Zil (looks_hook X rfl) tga_sub k.at_ ?_;show wpAny _ _ (ret v) _ _ _;refine Xbh ?_;show wpAny _ _ (handedOut v) _ _ _;rw [handedOut_of hv];exact Xbh h
theorem ZhD {pl:Sem Bool}{Q:Value×List Value→Shared→Prop} (X:K.In s.heap) (k:ClsAt K C name v) (hv:handedIn v=true) (h:Q (v,[]) { s with toks:=s.toks+1 }):wpAny (model prog w) A (getMethod (.ref C) name pl) Q E s:=by
 have L1:=looks_typeIn (M:=model prog w) X k.ty;unfold getMethod specialOf;refine Xbg (Xbg (L1.here ?_))
 refine (looks_findIn (M:=model prog w) X (t:=.type "type") (name := "__getattribute__") (r:=some (.builtin "type.__getattribute__")) Zil).here ?_
 dsimp only;rw [Xba (by decide +kernel)];exact Xbg (getcls X k hv (Xbh h))
end
section
variable {prog:Program} {w:World} {A:Around} {E:Value→Shared→Prop} {h:Heap} {g:Array GenState} {d:Drawn} {t:Nat} {os:OsState}
variable {nm q:Str} {C N e t0:Addr} {bs bm:List Value} {hdct:Bool} {sn:List Str} {sub:List Value} {ab:Bool} {col:Option Bool} {dd dx:Option Addr} {k0 k1 k2 k3 k5:Option Value} {newId:String} {rest:List Value}
theorem vinit {Q:Value→Shared→Prop} (T:OwnTail h VEm bm) (hC:h.get? C=some (excClassObj nm q C N bs bm hdct sn sub ab col dd k0 k1 k2 k3 k5 newId)) (he:h.get? e=some { cls:=.ref C,dict:=dx,data:=.fields #[.ref t0,.none,.none,.none,.bool false,.none] }) (hrest:rest.length≤sizeLine)
 (hq:∀ h' t1,(∀ b o,h.get? b=some o→b≠e→h'.get? b=some o)→h'.get? e=some { cls:=.ref C,dict:=dx,data:=.fields #[.ref t1,.none,.none,.none,.bool false,.none] }→Q .none ⟨h',g,d,t,os⟩) :
 wpAny (model prog w) A (call (.builtin "ValueError.__init__") (.ref e :: rest)) Q E ⟨h,g,d,t,os⟩:=by
 have F:=PySem.F.excBase_ValueError;refine wpAny_call (codeAny_call_builtin F.init.plain F.initEntry (wpAny_check_init_subU F T hC he rfl ?_))
 wp_walk
 refine hq _ h.objs.size (fun b o hb hn=>?_) ?_
 · rw [Heap.get?_update_other _ _ (Ne.symm hn)]
   exact Xbk _ hb
 · rw [Heap.get?_update_self _ (Xbk _ he) rfl]
   rfl
end
theorem upd_id {H:Hp}{a:Addr}{o:HO} (h:H a=some o):upd H a o=H:=funext fun x=>by
 by_cases e:x=a
 · rw [e,Zac,h]
 · exact Zaf e
def tSup (K:XFg) (t:TA):TE:=fun σ H Q=>t σ H fun vs H1=>∃ (e C f:Addr) (dd:Option Addr) (rest:List V),vs=.ref e :: rest∧H1 e=some (ExcN e C dd)∧xIn K C f=true∧rest.length≤sizeLine∧Q .non H1
def sXFld (K:XFg) (ta tv:TE) (f:Str):TS:=fun D σ H=>tv σ H fun y H1=>ta σ H1 fun x H2=>∃ (e C fI:Addr),x=.ref e∧H2 e=some (ExcN e C none)∧xIn K C fI=true∧findIn K (.ref C) "__setattr__" = some (some (.builtin "object.__setattr__"))∧findIn K (.ref C) f=some none ∧
 ∀ dx,H2 dx=none→dx≠e→D.nx σ (upd (upd H2 dx (.xd [(f,y)])) e (ExcN e C (some dx)))
section
variable {X:Cx} {x f:Str} {e e0 o value:Expr} {es:List Expr} {t:TA} {ta tv:TE} {np apos pos pos':Pos} {Cp:Addr}
theorem pe_sup {pl:Sem Bool} (hm:X.mg x=some (.ref Cp)) (k:ClsAt X.K Cp "__init__" (.builtin "ValueError.__init__")) (hg:Gl X x) (ha:PA X (e0 :: es) t) (hdb:(x == ("__debug__" : Str))=false:=by decide)
 (he:starEach (e0 :: es) X.env=(false,eval e0 X.env) :: starEach es X.env:=by rfl) (hpl:(backTo pos (starEach es X.env)).any (·.1)=false:=by rfl)
 (ht:eval (.Call (.Attribute (.Name x np) "__init__" apos) (e0 :: es) [] pos) X.env=(do
  let ov ←eval (.Name x np) X.env
  standAt apos.atName
  let (f,first) ←holding [ov] (getMethod ov "__init__" pl)
  callWith pos f first (backTo pos (starEach (e0 :: es) X.env)) (backToKw pos (keywordEach [] X.env))):=by rfl) :
 PE X (.Call (.Attribute (.Name x np) "__init__" apos) (e0 :: es) [] pos) (tSup X.K t):=by
 intro pins s σ H Q I h;refine methodCall_KW (pl:=pl) (Zdw I hg hm ?_ hdb) ht;refine ZhD I.kIn k rfl ?_;refine PyProof.Rows.callWith_builtin1 (thn (ha pos pins _ σ H _ (I.tok _) h) fun us s1 ⟨vs,H1,I1,r1,e,C,fI,dd,rest,ev,hH,q,hl,hQ⟩=>?_) he hpl;subst ev;obtain ⟨nm,qn,N,bs,bm,hdct,sn,sub,ab,col,dc,k0,k1,k2,k3,k5,hC,hok,hni,htl,_,_,_⟩:=ZjY q;obtain ⟨⟨t0,ht0⟩,_,hst⟩:=I1.hok e _ hH
 cases r1 with
 | cons r1 rs =>
   cases r1;obtain ⟨hh,g,d,tk,os⟩:=s1;refine vinit (tail_of_in I1.kIn htl) (hC _ I1.kIn) ht0 (by rw [←rs.length];exact hl) fun h' t1 kp ht1=>⟨.non,H1,?_,rfl,hQ⟩;have I2:=I1.write (x:=e) (e:=e) (o:=ExcN e C dd) (h':=h') (t':=tk) (by rw [hH];exact True.intro) (.inl rfl) (fun b u hb q=>kp b u q hb) ⟨_,ht1⟩ ⟨⟨t1,ht1⟩,⟨_,ht1⟩,fun g1 g2 ⟨t,p⟩ k=>⟨t,k _ p⟩⟩;rw [upd_id hH] at I2;exact I2
theorem ps_xfld (ha:PE X o ta) (hv:PE X value tv) (hs:swapsWith value (some (.Attribute o f pos')) pos.line X.env=pure false:=by rfl):PS X (.Assign [.Attribute o f pos'] value pos) (sXFld X.K ta tv f):=by
 intro pins s σ H D I h;refine plainObj_wpAny_Assign_Attribute (thn (hv pins s σ H _ I h) fun u s1 ⟨y,H1,I1,ry,q⟩=>thn (ha pins s1 σ H1 _ I1 q) fun ov s2 ⟨x,H2,I2,rx,e,C,fI,ex,hH,qx,hsa,hna,q2⟩=>?_) hs;subst ex;obtain rfl:ov=Value.ref e:=rx;obtain ⟨_,_,_,_,_,_,_,_,_,_,_,_,_,_,_,_,_,_,_,_,_,hdi,hov⟩:=ZjY qx;obtain ⟨⟨t0,ht0⟩,_,_⟩:=I2.hok e _ hH;refine xset I2.kIn ht0 hsa hov (by unfold takerIn;rw [hna];rfl) hdi fun h' dx kp dn de hx' hns=>?_
 have hdx:H2 dx=none:=I2.freshN fun b u q z=>by rw [z,dn] at q;cases q
 have nb:∀ {b:Addr} {o:HO},H2 b=some o→b≠dx:=fun q z=>by rw [z,hdx] at q;cases q
 have ne:∀ {b:Addr} {o:Obj},s2.heap.get? b=some o→H2 b=none→b≠e:=fun _ n z=>by rw [z,hH] at n;cases n
 have nd:∀ {b:Addr} {o:Obj},s2.heap.get? b=some o→b≠dx:=fun q z=>by rw [z,dn] at q;cases q
 refine ⟨σ,_,I2.call' (s':={ s2 with heap:=h',toks:=s2.toks+2 }) (ch:=[]) rfl ⟨fun b o q n _ _=>kp b o q (ne q n),fun b o q n _ _=>⟨o.slots,kp b o q (ne q n)⟩,fun b o q n _=>?_,fun b o q _=>?_,fun b xs q=>?_,fun b o u q=>?_,fun b ps q=>?_⟩ (fun b o q=>?_) I2.bare (fun b z=>absurd z (by simp)),q2 dx hdx de⟩
 · rw [Zaf (ne q n),Zaf (nd q)];exact n
 · by_cases z:b=e
   · rw [z];exact ⟨_,hx'⟩
   · exact ⟨o,kp b o q z⟩
 · rw [Zaf (fun z=>by rw [z,hH] at q;cases q),Zaf (nb q)];exact q
 · rw [Zaf (fun z=>by rw [z,hH] at q;cases q),Zaf (nb q)];exact q
 · exact ⟨#[],by rw [Zaf (fun z=>by rw [z,hH] at q;cases q),Zaf (nb q),q];simp⟩
 · by_cases z:b=e
   · subst z
     rw [Zac] at q;cases q;exact ⟨⟨t0,hx'⟩,⟨_,hx'⟩,fun g1 g2 ⟨t,p⟩ k=>⟨t,k _ p⟩⟩
   rw [Zaf z] at q
   by_cases z2:b=dx
   · subst z2
     rw [Zac] at q;cases q;refine ⟨_,hns,fun g=>?_⟩
     by_cases y2:g=f
     · subst y2
       simp only [XaI,beq_self_eq_true,if_true];exact ry
     · have:(g == f)=false:=beq_eq_false_iff_ne.mpr y2
       simp only [XaI,this,List.lookup_nil,Xa9 y2];exact True.intro
   rw [Zaf z2] at q;refine (I2.hok b o q).stay (fun c w' hc p=>kp c w' p fun y3=>?_) (fun c p=>?_) fun c xs p=>?_
   · rcases hc with y4 | y4
     · exact z (y4.symm.trans y3)
     · rw [y3,hH] at y4;cases y4
   · rw [Zaf (fun z=>by rw [z,hH] at p;cases p),Zaf (nb p)];exact p
   · rw [Zaf (fun z=>by rw [z,hH] at p;cases p),Zaf (nb p)];exact p
end
def ZgY (x:Str):Prop:=x.length≤8∧∀ c∈x.cps.toList,c<16 ^ 8
theorem Zfy {h:Heap}:∀ {ss:List Str}{us:List Value},Vals (ss.map V.str) us→ReadsAll h us (ss.map PyData.str) []
 | [],_,.nil=>.nil
 | x :: ss,_,.cons r t=>by
   obtain ⟨t',rfl⟩:=r;exact .cons (as:=[]) (bs:=[]) (.str x t') (Zfy t)
theorem ZdJ:∀ ss:List Str,PyData.shownAll (ss.map PyData.str)=ss.map reprText
 | []=>rfl
 | x :: ss=>by
   show PyData.shown (.str x) :: PyData.shownAll (ss.map PyData.str)=_;rw [ZdJ ss];rfl
theorem ZdK:∀ ss:List Str,PyData.showableAll (ss.map PyData.str)=true
 | []=>rfl
 | x :: ss=>by
   show (PyData.showable (.str x) && PyData.showableAll (ss.map PyData.str))=true;rw [ZdK ss];rfl
theorem ZeK:∀ ss:List Str,PyData.hasDictAll (ss.map PyData.str)=false
 | []=>rfl
 | x :: ss=>by
   show (PyData.hasDict (.str x) || PyData.hasDictAll (ss.map PyData.str))=false;rw [ZeK ss];rfl
theorem Zfz:∀ ss:List Str,PyData.depthAll (ss.map PyData.str)≤1
 | []=>XaW _
 | x :: ss=>by
   show max (PyData.depth (.str x)) (PyData.depthAll (ss.map PyData.str))≤1;exact Nat.max_le.mpr ⟨by show 0≤1;decide,Zfz ss⟩
theorem ZgZ:∀ {ss:List Str},(∀ y∈ss,ZgY y)→((ss.map reprText).map (·.length)).sum≤82 * ss.length
 | [],_=>XaS _
 | x :: ss,h=>by
   obtain ⟨h1,h2⟩:=h x Xal
   have:=StrLaws.reprText_len x h2
   have:=ZgZ fun y hy=>h y (Xap _ hy)
   rw [Xao,Xao,List.sum_cons,XaB];omega
def tFs (K:XFg) (tv:TE):TE:=fun σ H Q=>tv σ H fun x H1=>∃ (l:Addr) (ss:List Str),x=.ref l∧SqL K H1 l (ss.map V.str)∧ss.length≤100∧(∀ y∈ss,ZgY y)∧∀ y,Q (.str y) H1
section
variable {X:Cx} {v:Expr} {tv:TE} {k:Nat} {c:Str} {p1 p2 p:Pos}
theorem pe_fstr {kk:Nat} (hr:Room k X.A) (hv:PE X v tv) (hc:c.length≤1000:=by decide):PE X (.JoinedStr [.Constant (.str c) kk p1,.FormattedValue v (-1) none p2] p) (tFs X.K tv):=by
 intro pins s σ H Q I h;refine JoinedStr_many (joinParts_cons ?_);refine thn (Zal (X:=X) pins s σ H (fun v1 H1=>v1=.str c∧H1=H) I ⟨rfl,rfl⟩) fun u s1 ⟨x,H1,I1,r,e1,e2⟩=>?_;subst e1 e2;obtain ⟨t1,rfl⟩:=r;refine ⟨Xbc (by rw [strLen_append];show 0+c.length≤1000;omega) (by decide),?_⟩;refine joinParts_cons (FormattedValue_plain ?_);refine thn (hv pins s1 σ H1 _ I1 h) fun u s2 ⟨x,H2,I2,r,l,ss,ex,hq,l100,hs,q⟩=>?_;subst ex;obtain rfl:u=Value.ref l:=r;obtain ⟨its,rv,pl,_⟩:=I2.list hq;obtain ⟨o,n,e1,e2,_,e3⟩:=pl;have R:Reads s2.heap (.ref l) (.list (ss.map PyData.str)) [l]:=.list e1 e2 e3 (Zfy rv)
 have hsh:(PyData.shown (.list (ss.map PyData.str))).length≤9000:=by
  show (listText (PyData.shownAll (ss.map PyData.str))).length≤9000;rw [ZdJ]
  have:=listText_len_le (ss.map reprText)
  have:=ZgZ hs
  rw [Xaa] at *;omega
 have hdp:PyData.depth (.list (ss.map PyData.str))≤2:=by
  show PyData.depthAll (ss.map PyData.str)+1≤2
  have:=Zfz ss
  omega
 have hun:=hr.units;refine formatField_of_reads R (ZdK ss) (PyData.noDict_hsm (ZeK ss)) hr.gd (by omega) (fun _ _ z=>z) (fun h' u tk kp=>?_) (Xbc hsh (by decide));have I3:Inv X pins σ H2 { s2 with heap:=h',toks:=tk }:=I2.un (Un.kept kp) (I2.hok.kept kp);have hl:(Str.empty++c++PyData.shown (.list (ss.map PyData.str))).length≤sizeLine:=Xbc (by rw [strLen_append,strLen_append];show 0+c.length+_≤10000;omega) (by decide);exact ⟨hl,joinParts_nil ⟨.str _,H2,I3.tok _,⟨_,rfl⟩,q _⟩ hl⟩
end
def CForm (K:XFg) (C:Addr):Prop:=∃ nm qn N bs bm hdct sn sub ab col dd k0 k1 k2 k3 k5 newId,∀ h:Heap,K.In h→h.get? C=some (excClassObj nm qn C N bs bm hdct sn sub ab col dd k0 k1 k2 k3 k5 newId)∧bm.contains (.type "BaseException")=true
theorem Zj2 {K:XFg}{C:Addr}{n:String} (q:PySem.W.excIn K C PySem.W.VEm n=true):CForm K C:=by
 obtain ⟨nm,qn,N,bs,bm,hdct,sn,sub,ab,col,dd,k0,k1,k2,k3,k5,h1,_,_,h2,_⟩:=ZhC q;exact ⟨nm,qn,N,bs,bm,hdct,sn,sub,ab,col,dd,k0,k1,k2,k3,k5,_,fun h I=>⟨h1 h I,OwnTail.hasType (PySem.W.tail_of_in I h2) (by decide)⟩⟩
section
variable {X:Cx} {pins:List (Addr×Obj)} {σ:St} {H H':Hp} {s s':Shared} {v:Value}
theorem ZkX {i:Nat}{x n:Str}{np hpos:Pos}{b₀:Stmt}{suite:List Stmt}{a C Cp:Addr}{dd:Option Addr}{D:Ends}{ts:TS} (I:Inv X pins σ H s) (hst:X.stack=X.env :: X.outer) (hfm:X.env.frame=some X.env.locals)
 (t:Th X.prog X.w X.stack H s H' s' a C dd) (hfly:∃ T,Fly s'.heap a T (.ref C) dd∧s.heap.get? T=none∧H' T=none) (fC:ZiX X.K C) (kP:CForm X.K Cp) (hsub:subIn X.K C Cp=true)
 (hgx:Gl X x) (hmx:X.mg x=some (.ref Cp)) (hdx:(x == ("__debug__" : Str))=false) (hN:X.N.Nodup) (hi:X.N[i]?=some n) (hln:X.env.scope.names.lookup n=some .local)
 (hs:PSs (X.held (.ref a)) (b₀ :: suite) ts) (q:ts { nx:=fun σ' H'=>D.nx (σ'.set i none) H',rt:=D.rt } (σ.set i (some (.ref a))) (upd H' a (ExcO a C dd))) :
 wpAny (model X.prog X.w) X.A (noteFrame (.ref a) X.env) (fun _ s₂=>wpAny (model X.prog X.w) X.A (setFlight (.ref a) none) (fun _ s₃ =>
  wpAny (model X.prog X.w) X.A (handleBy (.ref a) X.env [.ExceptHandler (some (.Name x np)) (some n) (b₀ :: suite) hpos]) (SP X pins D) X.xe s₃) X.xe s₂) X.xe s':=by
 obtain ⟨T,fl,nT,fT⟩:=hfly
 have ff:∀ b∈frs X.stack,H' b=none:=fun b m=>by
  obtain ⟨_,o,ho,_⟩:=I.stack.mem m;exact t.un.free b o ho (I.stkFree b m) (by simp)
 have hff:=ZkV (fun b m=>m) I.stkFree t.un I.stack;have hfr:=I.ok.frames;rw [hst] at hff hfr;refine ZeI hfr hff hfm fl fun h1 T1 g1=>?_;rw [←hst] at g1
 have nT1:s.heap.get? T1=none:=by
  rcases g1.tr with z | z
  · rw [z];exact nT
  · cases y:s.heap.get? T1 with
    | none=>rfl
    | some o=>obtain ⟨o',e⟩:=t.un.there T1 o y (by simp);rw [z] at e;cases e
 have fT1:H' T1=none:=by
  rcases g1.tr with z | z
  · rw [z];exact fT
  · cases y:H' T1 with
    | none=>rfl
    | some o=>obtain ⟨u,e⟩:=(t.hok T1 o y).there;rw [z] at e;cases e
 obtain ⟨un1,hok1⟩:=ZeJ t.un t.hok t.new nT t.free fT ff g1.keep g1.slot;refine Zdj g1.fly fun h2 fl2 k2=>?_
 obtain ⟨un2,hok2⟩:=ZeJ un1 hok1 t.new nT1 t.free fT1 ff (fun b o e _ z _=>k2 b o e z) (fun b o e m=>⟨o.slots,k2 b o e fun z=>by
  obtain ⟨_,o',ho,_⟩:=I.stack.mem m
  rw [z,nT1] at ho;cases ho⟩)
 obtain ⟨nm,qn,N,bs,bm,hdct,sn,sub,ab,col,ddC,k0,k1,k2',k3,k5,newC,hC,hm⟩:=fC;obtain ⟨nm',qn',N',bs',bm',hdct',sn',sub',ab',col',dd',j0,j1,j2,j3,j5,nw',hP⟩:=kP;have I2:Inv X pins σ H' { s' with heap:=h2 }:=I.call' (ch:=[]) t.os un2 hok2 t.bare fun b z=>absurd z (by simp);refine wpAny_handleBy_cons (codeAny_handlers_test (Zdw (X:=X.held (.ref a)) I2.held hgx hmx ?_ hdx)) (by intro z;cases z);obtain ⟨oe,vs,oT,tts,e1,e2,_,e3,e4,e5,e6,e7,e8⟩:=id fl2;refine ZjV (hC h2 I2.kIn) (hP h2 I2.kIn).1 e1 e2 (hP h2 I2.kIn).2 (b:=true) ((hm Cp).symm.trans hsub) ?_;refine codeAny_handlers_suite_as (Zdj (fl:=.none) fl2 fun h3 fl3 k3'=>?_)
 obtain ⟨un3,hok3⟩:=ZeJ un2 hok2 t.new nT1 t.free fT1 ff (fun b o e _ z _=>k3' b o e z) (fun b o e m=>⟨o.slots,k3' b o e fun z=>by
  obtain ⟨_,o',ho,_⟩:=I.stack.mem m
  rw [z,nT1] at ho;cases ho⟩)
 obtain ⟨oe3,vs3,_,_,y1,y2,y3,y4,_⟩:=id fl3
 have I3 : Inv X pins σ (upd H' a (ExcO a C dd)) { s' with heap := h3 } := by
  have nb:∀ b o,s.heap.get? b=some o→b≠a:=fun b o e z=>by rw [z,t.new] at e;cases e
  have nh:∀ b o,H' b=some o→b≠a:=fun b o e z=>by rw [z,t.free] at e;cases e
  refine I.call' (ch:=[]) t.os ⟨un3.keep,un3.slot,fun b o e n m=>?_,un3.there,fun b xs e=>?_,fun b o u e=>?_,fun b ps e=>?_⟩ (fun b o e=>?_) t.bare fun b z=>absurd z (by simp)
  · rw [Zaf (nb b o e)];exact un3.free b o e n m
  · have:=un3.tups b xs e
    rw [Zaf (nh b _ this)];exact this
  · have:=un3.frzs b o u e
    rw [Zaf (nh b _ this)];exact this
  · obtain ⟨more,this⟩:=un3.tbls b ps e
    exact ⟨more,by rw [Zaf (nh b _ this)];exact this⟩
  · by_cases z:b=a
    · subst z
      rw [Zac] at e;cases e;exact ⟨⟨oe3,vs3,y1,y2,y3,y4⟩,⟨oe3,y1⟩,fun g1 g2 ⟨o,v,p1,p2⟩ k=>⟨o,v,k o p1,p2⟩⟩
    · rw [Zaf z] at e
      exact (hok3 b o e).stay (fun _ _ _ z=>z) (fun c z=>by rw [Zaf (nh c _ z)];exact z) fun c xs z=>by rw [Zaf (nh c _ z)];exact z
 refine Zes (X:=X.held (.ref a)) I3.held hN hi (.inl hln) (v:=.ref a) (u:=.ref a) rfl (fun s4 I4=>?_) (.inr hln);refine Xbq (hs pins s4 _ _ _ I4 q) (fun f s5 z=>?_) fun _ _ z=>False.elim z
 cases f with
 | next =>
   obtain ⟨σ5,H5,I5,q5⟩:=z;exact ZgX (I5.unheld I.ok) hN hi hln fun s6 I6=>⟨_,_,I6,q5⟩
 | brk=>obtain ⟨_,_,_,q5⟩:=z;exact False.elim q5
 | cont=>obtain ⟨_,_,_,q5⟩:=z;exact False.elim q5
 | ret u =>
   obtain ⟨v5,σ5,H5,I5,r5,q5⟩:=z;exact ZgX (I5.unheld I.ok) hN hi hln fun s6 I6=>⟨v5,_,_,I6,r5,q5⟩
end
section
variable {X:Cx} {x y:Str} {k:Nat} {ps:List Str} {sp:Sp} {e:Expr} {es:List Expr} {t:TA} {p pos:Pos} {E:XK}
end
open PySem.Calls PySem.W
structure AskC (K:XFg) (D:Addr) (c:Value) (b:Bool):Prop where
 ty:∀ (M:Model) (h:Heap),K.In h→Looks M h (typeOf c) (.type "type")
 is:∀ (M:Model) (h:Heap),K.In h→Looks M h (isType c) true
 sub:∀ (M:Model) (h:Heap),K.In h→Looks M h (isSubtype (.ref D) c) b
section
variable {prog:Program} {w:World} {A:Around} {E:Value→Shared→Prop} {s:Shared} {K:XFg} {x D:Addr} {ox:Obj} {od:Option Obj} {c:Value}
theorem ZkY {b:Bool}{dep:Int}{tk:Tok}{Q:Fin→Shared→Prop} (k:ExcCl K D) (a:AskC K D c b) (X:K.In s.heap) (I:InstAt s.heap x ox D od) (hb:(Value.ref D == c)=true→b=true) (h:∀ t,Q (.done (.ret (.bool b))) { s with toks:=t }) :
 wpAny (model prog w) A (Builtin.«isinstance.nested» ⟨[.ref x,c,.int dep tk],[]⟩) Q E s:=by
 have hisD:Looks (model prog w) s.heap (isType (.ref D)) true:=by
  have hc:=k.hc;unfold clsIn at hc
  split at hc
  · rename_i c' d' cd' sl' ho
    intro A' Q' E' s' kk q;unfold isType loadHead;exact Xbg (wpAny_loadPart (kk _ _ (X _ _ ho)) (Xbh q))
  · cases hc
 obtain ⟨h0,g,d,tt,os⟩:=s;have L0:=I.type (M:=model prog w);have LI:Looks (model prog w) h0 (isInstance (.ref x) c) b:=L0.andThen (a.sub _ _ X);unfold Builtin.«isinstance.nested»;refine Xbg (L0.at ?_)
 by_cases q:(Value.ref D == c)=true
 · rw [Xba q]
   have:=hb q
   subst this;exact Xbg (wpAny_rule (Xbg (Xbh (Xbh (h tt)))))
 · rw [Xa9 q]
   refine Xbg ((a.ty _ _ X).at ?_);rw [Xba (by decide)]
   k_delta "plainIsInstance"
   refine Xbg (Xbg ((a.is _ _ X).at ?_));simp only [Bool.not_true,Xbd,if_false];refine Xbg (LI.at ?_)
   cases b with
   | true =>
     simp only [if_true];exact Xbh (Xbh (h tt))
   | false =>
     simp only [Xbd,if_false];refine Xbg (x_class k X I ?_);refine Xbg (hisD.at ?_);simp only [Bool.not_true,Xbd,if_false];refine Xbg (wpAny_rule ?_);refine (a.sub _ _ X).at ?_
     first
      | exact Xbh (h _)
      | exact Xbh (Xbh (h _))
      | exact Xbg (Xbh (Xbh (h _)))
theorem x_isi {b:Bool}{Q:Value→Shared→Prop} (k:ExcCl K D) (a:AskC K D c b) (X:K.In s.heap) (I:InstAt s.heap x ox D od) (hb:(Value.ref D == c)=true→b=true) (h:∀ t,Q (.bool b) { s with toks:=t }):wpAny (model prog w) A (call (.builtin "isinstance") [.ref x,c]) Q E s :=
 call_isinstance (S:=fun _ R s=>(K.In s.heap∧InstAt s.heap x ox D od)∧∀ t,R (.ok (.ret (.bool b))) { s with toks:=t })
  (fun _ _ _ _ _ hs=>isinstance_outer (ZkY k a hs.1.1 hs.1.2 hb hs.2) (by intro q;cases q)) ⟨⟨X,I⟩,h⟩
end
def rIsiX (K:XFg):List V→Hp→VK→Prop:=fun vs H Q=>∃ (a C:Addr) (dd:Option Addr) (c:V) (u:Value) (b:Bool),vs=[.ref a,c]∧(∀ u',RelV c u'→u'=u)∧H a=some (ExcO a C dd)∧(∀ dx,dd=some dx→∃ o,H dx=some o)∧ExcCl K C∧AskC K C u b∧((Value.ref C == u)=true→b=true)∧Q (.bl b) H
theorem ZbO {X:Cx}:CallR X (.builtin "isinstance") (rIsiX X.K):=by
 intro pins s σ H vs us Q I r h;obtain ⟨a,C,dd,c,u,b,rfl,hu,hH,hd,kC,ka,hb,q⟩:=h;obtain ⟨u1,u2,rfl,ru,ru2⟩:=Zjt r;obtain rfl:u1=Value.ref a:=ru;obtain rfl:=hu _ ru2;obtain ⟨⟨oe,vs',e1,e2,e3,e4⟩,_,_⟩:=I.hok a _ hH
 have no:notCls oe=true:=by unfold notCls;rw [e4]
 cases dd with
 | none=>exact x_isi kC ka I.kIn (ox:=oe) (od:=none) ⟨e1,e2,no,by rw [e3];trivial⟩ hb fun t=>⟨.bl b,H,I.tok t,rfl,q⟩
 | some dx =>
   obtain ⟨o,ho⟩:=hd dx rfl;obtain ⟨od,hod⟩:=(I.hok dx o ho).there;exact x_isi kC ka I.kIn (ox:=oe) (od:=some od) ⟨e1,e2,no,by rw [e3];exact hod⟩ hb fun t=>⟨.bl b,H,I.tok t,rfl,q⟩
def clsA (K:XFg) (x:Str):Addr:=match PySem.W.nsIn K mainGlobals x with
 | some (some (.ref C))=>C
 | _=>0
theorem Zcy {K:XFg}{x:Str}{C:Addr} (h:PySem.W.nsIn K mainGlobals x=some (some (.ref C))):clsA K x=C:=by unfold clsA;rw [h]
def askB (K:XFg) (C C2:Addr) (b:Bool):Bool:=(clsIn K C2).isSome && typeIn K (.ref C2) == some (.type "type") && PySem.W.subIn K (.ref C) (.ref C2) == some b
theorem Zap {K:XFg}{C C2:Addr}{b:Bool} (e:askB K C C2 b=true):AskC K C (.ref C2) b:=by
 unfold askB at e;simp only [Bool.and_eq_true,beq_iff_eq] at e;obtain ⟨⟨e1,e2⟩,e3⟩:=e;refine ⟨fun M h X=>looks_typeIn X e2,fun M h X=>?_,fun M h X=>looks_subIn X e3⟩;unfold clsIn at e1
 split at e1
 · rename_i c' d' cd' sl' ho
   intro A' Q' E' s' kk q;unfold isType loadHead;exact Xbg (wpAny_loadPart (kk _ _ (X _ _ ho)) (Xbh q))
 · cases e1
theorem ZfA {K:XFg}{C:Addr}{b:Bool} (e:PySem.W.subIn K (.ref C) (.type "ValueError")=some b):AskC K C (.type "ValueError") b :=
 ⟨fun M h _=>Looks.of_pure (by kernel_rfl),fun M h _=>Looks.of_pure (by kernel_rfl),fun M h X=>looks_subIn X e⟩
theorem xform_x {K:XFg}{C f:Addr} (q:PySem.W.xIn K C f=true):ZiX K C:=by
 obtain ⟨nm,qn,N,bs,bm,hdct,sn,sub,ab,col,dd,k0,k1,k2,k3,k5,h1,_,_,_,h2,_,_⟩:=ZjY q;exact ⟨nm,qn,N,bs,bm,hdct,sn,sub,ab,col,dd,k0,k1,k2,k3,k5,_,h1,h2⟩
def ZeL (P:Program) (w:World) (K:XFg) (mg:Str→Option Value) (base:Heap) (C:Addr) (k:Nat) (ps:List Str) (sp:Sp):Prop :=
 ∃ f fd,FnOk P w K mg base CX0 k f fd ps sp∧PySem.W.xIn K C f=true∧PySem.W.isFn K (.ref f)=true∧Binds K fd ps []
theorem Zj3 {X:Cx}{E:XK}{C:Addr}{ps:List Str}{sp:Sp}{k:Nat}{x:Str}{np cpos pos:Pos}{e0:Expr}{es:List Expr}{t:TA} (c:ZeL X.prog X.w X.K X.mg X.base C k ps sp) (hT:Throws X E) (hc:X.calm=true) (hm:X.mg x=some (.ref C)) (hk:PySem.W.keepIn X.K (.ref C)=true) (hr:Room (k+1) X.A) (hg:Gl X x) (ha:PA X (e0 :: es) t)
 (hdb:(x == ("__debug__" : Str))=false:=by decide) (he:starEach (e0 :: es) X.env=(false,eval e0 X.env) :: starEach es X.env:=by rfl) (hpl:(backTo cpos (starEach es X.env)).any (·.1)=false:=by rfl) :
 PS X (.Raise (some (.Call (.Name x np) (e0 :: es) [] cpos)) none pos) (ZjZ C sp E t):=by
 obtain ⟨f,fd,F,q,hf,hb⟩:=c;exact Zj1 hT hc hm q hf hk F hr hb hg ha hdb he hpl
theorem ZfB {K:XFg}{C:Addr}{v:Value}{b:Bool} (h:PySem.W.mroIn K C v=some b):(PySem.W.clsIn K C).isSome=true:=by
 obtain ⟨cd,a,_⟩:=Option.bind_eq_some_iff.mp h;rw [a];rfl
theorem Zdk {K:XFg}{C:Addr} (p:PySem.W.findIn K (.ref C) "__getattribute__" = some (some (.builtin "BaseException.__getattribute__"))) (p2:PySem.W.findIn K (.ref C) "__getattr__" = some none) (p3:PySem.W.mroIn K C (.type "BaseException")=some true) (q:PySem.W.findIn K (.ref C) "__class__" = some (some (.builtin "object.__class__"))) (hn:PySem.W.specialIn K (.builtin "object.__class__") "__get__" = some (some (.builtin "getset_descriptor.__get__"))) (ht:PySem.W.takesIn K (.builtin "object.__class__")=some true) (m:PySem.W.mroIn K C (.type "object")=some true):ExcCl K C :=
 ⟨p,p2,p3,ZfB m,q,hn,ht,m⟩
theorem Zcr {K:XFg}{C Cp:Addr} (h:PySem.W.mroIn K C (.ref Cp)=some true):L2.subIn K C Cp=true:=by
 obtain ⟨cd,a,b⟩:=Option.bind_eq_some_iff.mp h;unfold PySem.W.clsIn at a;unfold L2.subIn
 split at a
 · rename_i ho
   cases a;rw [ho];show cd.mro.contains (.ref Cp)=true
   split at b
   · cases b
   · exact Xa8 b
 · cases a
theorem Zaq {K:XFg}{C C2:Addr}{b:Bool} (o:PySem.W.mroIn K C2 (.type "object")=some true) (t:PySem.W.typeIn K (.ref C2)=some (.type "type")) (r:PySem.W.subIn K (.ref C) (.ref C2)=some b):askB K C C2 b=true:=by
 unfold askB;rw [ZfB o,t,r]
 simp
open Ord
structure RingOk (ps:List (Str×Str)) (ring:List Str):Prop where
 ne:0<ring.length
 nd:ring.Nodup
 up:∀ (i:Nat) (x y:Str),ring[i]?=some x→ring[i+1]?=some y→(x,y)∈ps
 cl:∀ x y,ring[ring.length - 1]?=some x→ring[0]?=some y→(x,y)∈ps
theorem Zf9 {c:List Str}{i:Nat}{x:Str} (h:c.dropLast[i]?=some x):c[i]?=some x:=by
 rw [List.getElem?_dropLast] at h
 split at h
 · exact h
 · cases h
theorem RingOk.of {ps:List (Str×Str)} {b:Str} {c:List Str} (C:Chain ps b b c):RingOk ps c.dropLast:=by
 have h2:=C.two;have hlen:c.dropLast.length=c.length - 1:=List.length_dropLast;refine ⟨by omega,C.nl,fun i x y h1 h2=>C.link i x y (Zf9 h1) (Zf9 h2),fun x y h1 h2=>?_⟩;have e1:=Zf9 h1;have e2:=Zf9 h2;have e3:=C.hd;rw [e2] at e3;cases e3;refine C.link _ _ _ e1 ?_;rw [hlen,show c.length - 1 - 1+1=c.length - 1 by omega];exact C.lst
theorem RingOk.mem {ps:List (Str×Str)} {ring:List Str} (R:RingOk ps ring) {y:Str} (h:y∈ring):∃ p∈ps,y=p.2:=by
 obtain ⟨i,hi,e⟩:=XaG.mp h
 have hi':ring[i]?=some y:=by rw [Xab hi,e]
 cases i with
 | zero =>
   have h0:=R.ne
   have hl:ring.length - 1<ring.length:=by omega
   exact ⟨_,R.cl _ _ (Xab hl) hi',rfl⟩
 | succ i =>
   have hl:i<ring.length:=by omega
   exact ⟨_,R.up i _ _ (Xab hl) hi',rfl⟩
def Keep1 (e:Addr) (H H':Hp):Prop:=∀ b o,H b=some o→b≠e→H' b=some o
section
variable {X:Cx}
def rIndex (K:XFg):V→List V→Hp→VK→Prop:=fun x vs H Q=>∃ l y n d ds xs,∃ j:Nat,x=.ref l∧vs=[y]∧(∀ e∈ds,Cmp n e d)∧n≤60∧IsDt K H y d∧SqL K H l xs∧IsDts K H xs ds∧ds[j]?=some d∧(∀ m,m<j→ds[m]?≠some d)∧Q (.int j) H
theorem Zga (hu:X.A.units+64<cLine):MtR X "list.index" (rIndex X.K):=by
 intro pins s σ H x vs v us Q I rx rv h;obtain ⟨l,y,n,d,ds,xs,j,rfl,rfl,hc,hn,td,hq,t,hj,hm,q⟩:=h;cases rx;obtain ⟨u,rfl,ru⟩:=rv.one;obtain ⟨its,r,p,hz⟩:=I.list hq;obtain ⟨h1,h2⟩:=Zic (A:=X.A.in1) I r t hc td ru (by rw [ZdH];omega);obtain ⟨⟨oc,od,oD,os⟩,e,e1,k,e2⟩:=p.isList;cases e1;cases e2;have ll:=r.length;have lt:=t.length;have hjl:j<ds.length:=(Xae.mp hj).1
 have hji:j<its.toArray.size:=by rw [Xak];omega
 have at_:∀ m (h:m<its.toArray.size),dec (∃ u',RelV u' its.toArray[m]∧IsDt X.K H u' d)=true↔ds[m]?=some d:=fun m h=>by
  have hl:m<its.length:=by simpa using h
  obtain ⟨y',hy',ry⟩:=r.get (i:=m) (x:=xs[m]'(by omega)) (Xab (by omega));obtain ⟨e',he,te⟩:=t.get (i:=m) (v:=xs[m]'(by omega)) (Xab (by omega))
  have e3:its.toArray[m]=y':=by
   rw [Xab hl] at hy'
   simpa using hy'
  rw [dec_iff,e3,he];refine ⟨fun ⟨u',ru',tu'⟩=>?_,fun z=>?_⟩
  · have:=ry.inj ru'
    subst this;rw [IsDt.inj I te tu']
  · cases z
    exact ⟨_,ry,te⟩
 have sl:=ZeB;have hs:sizeLine=16777216:=sizeLine_eq;refine call_meets PySem.F.slot_list_index ⟨_,e,rfl⟩ PySem.F.entry_list_index (PySem.F.args_list_index_2 _ _) (SeqAt.list_indexAt l its.toArray k od os u (fun y=>dec (∃ u',RelV u' y∧IsDt X.K H u' d)) j hji (by omega) ((at_ j hji).mpr hj) fun m h hmj=>?_) ⟨e,h1,?_⟩
 · exact Bool.eq_false_iff.mpr fun z=>hm m hmj ((at_ m h).mp z)
 · exact ⟨.int j,H,I.tok _,⟨_,rfl⟩,q⟩
end
theorem ZiZ {K:XFg}{a:Addr}{xs:List V}{k:Nat}{caps:List Nat}{g:TG}{tc:TT}{te:TE}{σ:St}{H1:Hp}{Q:Addr→Hp→Prop} (Pv:Addr→Nat→List V→Hp→Prop)
 (h0:∀ D,H1 D=none→Pv D 0 [] (upd H1 D (.lst []))) (hq:∀ D i ys H2,Pv D i ys H2→SqL K H2 a xs)
 (hs:∀ D i x ys H2 (R:VK) (R0:Hp→Prop),H1 D=none→xs[i]?=some x→Pv D i ys H2→(∀ y H6,H6 D=some (.lst ys)→ys.length<sizeLine→Pv D (i+1) (ys++[y]) (upd H6 D (.lst (ys++[y])))→R y H6)→(∀ H5,Pv D (i+1) ys H5→R0 H5)→g x (Zbo k caps σ) H2 fun σ4 H4=>tc σ4 H4 fun b H5=>if b=true then te σ4 H5 R else R0 H5)
 (hd:∀ D ys H2,H1 D=none→Pv D xs.length ys H2→Q D H2) :
 ∀ D,H1 D=none→∃ W:Nat→Nat→List V→Hp→Prop,(∃ m,W 0 m [] (upd H1 D (.lst [])))∧∀ i m ys H2,W i m ys H2 →
  ((Itl K a).stop i H2∧Q D H2)∨((Itl K a).go i H2∧∀ x H3,(Itl K a).yld i H2 x H3→g x (Zbo k caps σ) H3 fun σ4 H4=>tc σ4 H4 fun b H5 =>
   if b=true then te σ4 H5 fun y H6=>H6 D=some (.lst ys)∧ys.length<sizeLine∧∃ m',m' < m∧W (i+1) m' (ys++[y]) (upd H6 D (.lst (ys++[y]))) else ∃ m',m' < m∧W (i+1) m' ys H5):=by
 intro D hD;refine ⟨fun i m ys H2=>m=xs.length - i∧i≤xs.length∧Pv D i ys H2,⟨xs.length,rfl,XaW _,h0 D hD⟩,?_⟩;rintro i m ys H2 ⟨rfl,hi,p⟩;have q2:=hq D i ys H2 p
 by_cases hlt:i<xs.length
 · refine .inr ⟨⟨xs,xs[i],q2,by simp [hlt]⟩,fun x H3 y=>?_⟩
   obtain ⟨rfl,y⟩:=y;have hx:=y xs q2;refine hs D i x ys H3 _ _ hD hx p (fun v H6 e6 hz p6=>?_) (fun H5 p5=>?_)
   · exact ⟨e6,hz,xs.length - (i+1),by omega,rfl,hlt,p6⟩
   · exact ⟨xs.length - (i+1),by omega,rfl,hlt,p5⟩
 · have e:i=xs.length:=by omega
   subst e;exact .inl ⟨⟨xs,q2,XaS _⟩,hd D ys H2 hD p⟩
theorem RingOk.path {ps:List (Str×Str)} {ring:List Str} (R:RingOk ps ring):∃ a,Path ps a a:=by
 have h0:=R.ne
 have hx:∀ i (h:i<ring.length),i≠0→Path ps (ring[0]'(h0)) (ring[i]'(h)):=by
  intro i
  induction i with
  | zero=>intro _ h;exact absurd rfl h
  | succ i ih =>
    intro h _;have e:=R.up i _ _ (Xab (by omega)) (Xab h)
    by_cases hi:i=0
    · subst hi;exact .one e
    · exact (ih (by omega) hi).snoc e
 have hl:ring.length - 1<ring.length:=by omega
 have e:=R.cl _ _ (Xab hl) (Xab h0)
 by_cases h1:ring.length - 1=0
 · refine ⟨ring[0]'(h0),.one ?_⟩
   have e2:ring[ring.length - 1]'(hl)=ring[0]'(h0):=by congr 1
   rw [e2] at e;exact e
 · exact ⟨ring[0]'(h0),(hx _ hl h1).snoc e⟩
section
variable {X:Cx}
def rCountD (K:XFg):V→List V→Hp→VK→Prop:=fun x vs H Q=>∃ (n:Nat) (d:Dt) (ds:List Dt) (a:Addr) (us:List V) (y:V),x=.ref a∧vs=[y]∧SqL K H a us∧IsDts K H us ds∧IsDt K H y d∧(∀ e∈ds,Cmp n e d)∧n≤60∧Q (.int (ds.countP fun e=>dec (e=d):Nat)) H
theorem Zg0 {pins:List (Addr×Obj)} {σ:St} {H:Hp} {s:Shared} (I:Inv X pins σ H s) {d:Dt}:∀ {vs:List V} {its:List Value} {ds:List Dt},Vals vs its→IsDts X.K H vs ds→its.countP (fun y=>dec (∃ u,RelV u y∧IsDt X.K H u d))=ds.countP fun e=>dec (e=d)
 | _,_,_,.nil,.nil=>rfl
 | _,_,_,.cons ru r,.cons te t=>by
   rw [List.countP_cons,List.countP_cons,Zg0 I r t];congr 1
   have e:dec (∃ u,RelV u _∧IsDt X.K H u d)=dec (_=d):=Zc6 ⟨fun ⟨u',ru',te'⟩=>by
    have e1:=ru.inj ru';subst e1
    exact IsDt.inj I te te',fun z=>⟨_,ru,z ▸ te⟩⟩
   rw [e]
theorem Zj4 (hu:X.A.units+64<cLine):MtR X "list.count" (rCountD X.K):=by
 intro pins s σ H x vs v us Q I rx rv h;obtain ⟨n,d,ds,a,ws,y,rfl,rfl,hq,t,td,hc,hn,q⟩:=h;cases rx;obtain ⟨u,rfl,ru⟩:=Zdx rv;obtain ⟨its,r,p,_⟩:=I.list hq;obtain ⟨h1,h2⟩:=Zic (A:=X.A.in1) I r t hc td ru (by rw [ZdH];omega);obtain ⟨⟨c,dct,dt,sl⟩,hl,hcl,m,hd⟩:=p.isList
 replace hcl:c=.type "list" := hcl
 replace hd:dt=.seq its.toArray m:=hd
 subst hcl hd;refine call_meets F.slot_list_count ⟨_,hl,rfl⟩ F.entry_list_count (F.args_list_count_2 _ _) (PySem.SeqAt.list_countAt a its.toArray m dct sl u (fun y=>dec (∃ u,RelV u y∧IsDt X.K H u d))) ⟨hl,h1,?_⟩;refine ⟨.int (ds.countP fun e=>dec (e=d):Nat),H,I.tok _,?_,q⟩;rw [show its.toArray.toList=its from rfl,Zg0 I r t];exact ⟨_,rfl⟩
end
section
variable {X:Cx}
def rSetT (P:Program) (w:World) (K:XFg):List V→Hp→VK→Prop:=fun vs H Q=>∃ (p:Addr) (xs:List Str),vs=[.ref p]∧SqL K H p (xs.map V.str)∧xs.length≤1000∧∀ q n,(n=xs.length↔xs.Nodup)→n≤xs.length→H q=none→Q (.ref q) (upd H q (SetS P w q n))
theorem Zg1 (hc:X.calm=true):CallR X (.type "set") (rSetT X.prog X.w X.K):=by
 intro pins s σ H vs us Q I r h;obtain ⟨p,xs,rfl,hq,hz,q⟩:=h;obtain ⟨u,rfl,ru⟩:=Zdx r;obtain rfl:u=Value.ref p:=ru;obtain ⟨its,rv,pl,_⟩:=I.list hq;have hl:=rv.length;rw [Xaa] at hl
 have hsz:its.toArray.size=xs.length:=by rw [Xak,hl]
 refine ZfY (f:=fun i=>xs.getD i default) (I.ok.hd hc) pl.isList (strs_at rv) (by rw [hsz];unfold scanBound;omega) fun h' tk hS k=>?_
 have hn:(metS (fun i=>xs.getD i default) its.toArray.size).length=xs.length↔xs.Nodup:=by
  rw [hsz,Zh9,ZkN]
 have hle:(metS (fun i=>xs.getD i default) its.toArray.size).length≤xs.length:=by
  rw [hsz];exact ZfW _ _
 have kk:∀ b u,s.heap.get? b=some u→h'.get? b=some u:=fun b u e=>k b u (Xbl e) e;refine ⟨.ref s.heap.objs.size,upd H s.heap.objs.size (SetS X.prog X.w s.heap.objs.size _),I.laid (t':=tk) kk (XaS _) ?_,rfl,q _ _ hn hle I.fresh⟩;refine ⟨⟨_,hS⟩,?_,fun h1 h2 ⟨S,o,es,ep,t,e,more⟩ hk=>⟨S,o,es,ep,t,hk o e,more⟩⟩;obtain ⟨o,_,_,_,e,_⟩:=hS;exact ⟨o,e⟩
end
section
variable {X:Cx} {x y:Str} {k:Nat} {ps:List Str} {sp:Sp} {e:Expr} {es:List Expr} {t:TA} {p pos:Pos} {E:XK}
def tTryX (K:XFg) (Cp:Addr) (i:Nat) (sp:Sp) (t:TA) (ts:TS):TS:=fun D σ H=>t σ H fun vs H1=>sp vs H1 (fun _ H2=>D.nx σ H2) fun cls dd H2=>∃ C,cls=.ref C∧ZiX K C∧subIn K C Cp=true ∧
 ∀ a,H2 a=none→ts { nx:=fun σ' H'=>D.nx (σ'.set i none) H',rt:=D.rt } (σ.set i (some (.ref a))) (upd H2 a (ExcO a C dd))
theorem Zi0 {i:Nat}{n:Str}{np hpos cpos epos:Pos}{b₀:Stmt}{suite:List Stmt}{Cp:Addr}{ts:TS} (C:Zar X.prog X.w X.K X.mg X.base y k ps sp) (hr:Room k X.A) (hgy:Gl X y) (ha:PA X.nox (e :: es) t)
 (hst:X.stack=X.env :: X.outer) (hfm:X.env.frame=some X.env.locals) (kP:CForm X.K Cp) (hgx:Gl X x) (hmx:X.mg x=some (.ref Cp))
 (hN:X.N.Nodup) (hi:X.N[i]?=some n) (hln:X.env.scope.names.lookup n=some .local) (hs:∀ a:Addr,PSs (X.held (.ref a)) (b₀ :: suite) ts) (hdx:(x == ("__debug__" : Str))=false:=by decide) (hdy:(y == ("__debug__" : Str))=false:=by decide)
 (he:starEach (e :: es) X.env=(false,eval e X.env) :: starEach es X.env:=by rfl) (hpl:(backTo cpos (starEach es X.env)).any (·.1)=false:=by rfl) (hsw:swapsWith (.Call (.Name y p) (e :: es) [] cpos) none epos.line X.env=pure false:=by rfl) :
 PS X (.Try [.Expr (.Call (.Name y p) (e :: es) [] cpos) epos] [.ExceptHandler (some (.Name x np)) (some n) (b₀ :: suite) hpos] [] [] pos) (tTryX X.K Cp i sp t ts):=by
 intro pins s σ H D I h;obtain ⟨f,fd,F,hm,hk,hb⟩:=C;refine wpAny_Try_except (wpAny_execs_cons (wpAny_Expr_any ?_ I.quiet hsw));refine wpAny_Call_Name_kw (Zdw I hgy hm ?_ hdy);refine PySem.W.callWith_K (h₀:=X.base) I.ok.mod.kin hk (Xbq (ha cpos pins s σ H _ (I.wish _) h) (fun us s1 ⟨vs,H1,I1,r,q⟩=>⟨I1.kIn,?_⟩) fun _ _ z=>False.elim z) he hpl;have I1:=I1.unwish
 have hl:us.length=ps.length:=by rw [←r.length];exact F.len _ _ _ _ q
 have hb':=hb s1 us I1.kIn (by rw [XaH];exact hl);rw [XaH] at hb';refine wpAny_call (codeAny_mono (F.run X.A X.stack s1 H1 ⟨us,[]⟩ us vs _ _ hr I1.env0 hb' r q) fun r s' hq=>?_)
 cases r with
 | error ev =>
   obtain ⟨a,C,dd,H',rfl,th,hfl,C',hc,kC,hsub,qs⟩:=hq;cases hc;exact ZkX I1 hst hfm th hfl kC kP hsub hgx hmx hdx hN hi hln (hs a) (qs a th.free)
 | ok fl =>
   cases fl with
   | ret u =>
     obtain ⟨v,H2,I2,_,q2⟩:=I1.after hq;exact wpAny_execs_nil (wpAny_execs_nil ⟨σ,H2,I2,q2⟩)
   | next=>exact False.elim hq
   | brk=>exact False.elim hq
   | cont=>exact False.elim hq
end
section
variable {X:Cx}
def rIns:V→List V→Hp→VK→Prop:=fun x vs H Q=>∃ l xs y,∃ i:Int,x=.ref l∧vs=[.int i,y]∧H l=some (.lst xs)∧0≤i∧i≤xs.length∧xs.length≤1000∧Q .non (upd H l (.lst (xs.take i.toNat++y :: xs.drop i.toNat)))
theorem ZeM:MtR X "list.insert" rIns:=by
 intro pins s σ H x vs v us Q I rx rv h;obtain ⟨l,xs,y,i,rfl,rfl,hH,h0,h1,hz,q⟩:=h;cases rx;obtain ⟨u1,u2,rfl,ru1,ru2⟩:=Zjt rv;obtain ⟨t,rfl⟩:=ru1;obtain ⟨z,its,n,r,hl,e⟩:=I.lstM hH
 have hs:(1001:Nat)≤sizeLine:=by decide
 have hfit:Builtin.List.listFitsIndex i=true:=by
  unfold Builtin.List.listFitsIndex;simp only [Bool.and_eq_true,decide_eq_true_eq];omega
 refine call_meets PySem.F.slot_list_insert ⟨_,e,rfl⟩ PySem.F.entry_list_insert (PySem.F.args_list_insert_3 _ _ _) (PySem.AutoSeq1.list_insert_list_int_val_1 l _ n i t u2 (by simp [hfit]) (by rw [Xak];omega)) ⟨e,?_⟩;refine ⟨.non,_,I.lset (its':=its.take i.toNat++u2 :: its.drop i.toNat) hH e ?_ ((r.take i.toNat).append (.cons ru2 (r.drop i.toNat))) ?_,rfl,q⟩
 · have hk:(if i<0 then (i+(its.toArray.size:Int)).toNat else min i.toNat its.toArray.size)=i.toNat:=by
    rw [Xa9 (by omega),Xak];omega
   show (its.toArray.extract 0 (if i<0 then (i+(its.toArray.size:Int)).toNat else min i.toNat its.toArray.size)).push u2++its.toArray.extract (if i<0 then (i+(its.toArray.size:Int)).toNat else min i.toNat its.toArray.size)=_;rw [hk]
   simp
   rw [List.take_of_length_le (by rw [XaF];omega)]
 · rw [Xac,XaB,Xaw,XaF]
   omega
end
section
variable {K:XFg} {M:Addr→Prop} {H H':Hp}
end
theorem StRows.stE {K:XFg}{F:Addr→Prop}{H:Hp}{a:Addr}{us:List Addr}{rs:List Stt} (e:H a=some (.lst (us.map V.ref))) (h:StRows K F H a us rs):StE K H a rs:=by
 refine ⟨_,SqL.of e,by rw [Xaa,h.len],fun i v s hv hs=>?_⟩;rw [Xag] at hv;obtain ⟨u,hu,rfl⟩:=XaR.mp hv;obtain ⟨G,E,xs,a1,a2,a3,a4,_⟩:=h.at_ i u s hu hs;exact ⟨u,G,E,rfl,SqT.of a1,a2,a4⟩
theorem Zj5 {bs:List Bool}:(List.range bs.length).any (fun i=>bs.getD i false)=bs.any id:=by
 rw [Bool.eq_iff_iff,XaO,XaO]
 constructor
 · rintro ⟨i,hi,h⟩
   have hi':=List.mem_range.mp hi;rw [Xaq,Xab hi'] at h;exact ⟨_,Xav hi',h⟩
 · rintro ⟨b,hb,h⟩
   obtain ⟨i,hi,e⟩:=XaG.mp hb;refine ⟨i,List.mem_range.mpr hi,?_⟩;rw [Xaq,Xab hi,e];exact h
def rAny (K:XFg):List V→Hp→VK→Prop:=fun vs H Q=>∃ (a:Addr) (bs:List Bool),vs=[.ref a]∧SqL K H a (bs.map V.bl)∧Q (.bl (bs.any id)) H
theorem Zj6 {X:Cx} (hc:X.calm=true):CallR X (.builtin "any") (rAny X.K):=by
 intro pins s σ H vs us Q I r h;obtain ⟨a,bs,rfl,hq,q⟩:=h;obtain ⟨u,rfl,ru⟩:=Zdx r;obtain rfl:u=Value.ref a:=ru;obtain ⟨its,rv,p,hz⟩:=I.list hq;have hl:=rv.length;rw [Xaa] at hl
 have hlt:a<s.heap.objs.size:=by obtain ⟨_,e,_⟩:=p.isList;exact Xbl e
 refine call_any_walk (wpAny_pyIter_list p.isList ?_);refine ⟨s.heap.objs.size,[s.heap.objs.size,a],[s.heap.objs.size],its.toArray.size,(fun i v=>its.toArray[i]?=some v),(fun i h=>h.IsListIter s.heap.objs.size a i∧h.IsList a its.toArray),(fun i=>bs.getD i false),rfl,Walks.list (A:=X.A.in1) (I.ok.hd hc) s.heap.objs.size a (XaV hlt) its.toArray,⟨⟨_,Xbm _ rfl,rfl,rfl⟩,p.isList.push _⟩,Zh2 rv,fun h' tk hk=>?_⟩;refine ⟨.bl (bs.any id),H,I.kept fun b o e=>hk b o (fun z=>?_) (Xbk _ e),?_,q⟩
 · have z':b=s.heap.objs.size:=by simpa using z
   exact absurd (Xbl e) (by rw [z'];exact XaT _)
 · have e:its.toArray.size=bs.length:=by rw [Xak,hl]
   show Value.bool _=Value.bool _;rw [e,Zj5]
def rSplit:V→List V→Hp→VK→Prop:=fun x vs H Q=>∃ (a b:Str),x=.str a∧vs=[.str b]∧(b.length == 0)=false∧a.length≤100000∧∀ D,H D=none→Q (.ref D) (upd H D (.lst ((Txt.split a b).map V.str)))
theorem ZfC:∀ (l:List (Str×Tok)),Vals ((l.map (·.1)).map V.str) (strValues l)
 | []=>.nil
 | p :: l=>.cons ⟨p.2,rfl⟩ (ZfC l)
theorem ZkZ {X:Cx}:MtR X "str.split" rSplit:=by
 intro pins s σ H x vs v us Q I rx rv h;obtain ⟨a,b,rfl,rfl,hb,ha,q⟩:=h;obtain ⟨t,rfl⟩:=rx;obtain ⟨u,rfl,ru⟩:=Zdx rv;obtain ⟨t2,rfl⟩:=ru
 have hs:(200000:Nat)≤sizeLine:=by decide
 have e1:=StrLaws.occ_length_le a b 0 a.length (a.length+1)
 have hn:(Builtin.Str.partsBetween a (Builtin.Str.occurrences a b 0 a.length (a.length+1)) b.length).length≤sizeLine:=by
  rw [length_partsBetween];omega
 have fin:∀ (l:List (Str×Tok)) (k:Nat),l.map (·.1)=Txt.split a b→l.length≤sizeLine→EP X pins σ Q (.ref s.heap.objs.size) { s with heap:=s.heap.push { cls:=.type "list",data:=.seq (strValues l).toArray },toks:=k }:=fun l k e hz =>
  ⟨.ref s.heap.objs.size,_,I.laid (t':=k) (fun b o e=>Xbk _ e) (XaS _) (show ObjOk X.prog X.w _ _ _ (.lst ((Txt.split a b).map V.str)) from ⟨by rw [←e,Xaa,Xaa];exact hz,strValues l,0,by rw [←e];exact ZfC l,Xbm _ rfl⟩),rfl,q _ (I.hok.fresh (XaS _))⟩
 cases h1:(decide (a.length<b.length) || decide (Builtin.Str.strKind a<Builtin.Str.strKind b))
 · cases hf:(Builtin.Str.occurrences a b 0 a.length (a.length+1)).isEmpty
   · refine call_meets F.slot_str_split (typeIs_str _ _ _) F.entry_str_split (F.args_str_split_2 _ _) (meets_str_split_sep a b t t2 h1 hb hf (by omega) hn) ?_
     show wants _ _ _ { s with toks:=_,heap:=s.heap.push { cls:=.type "list",data:=.seq (strsFrom s.toks (Builtin.Str.partsBetween a (Builtin.Str.occurrences a b 0 a.length (a.length+1)) b.length)).toArray } }
     rw [strsFrom_eq];have e2:=numbered_texts s.toks (Builtin.Str.partsBetween a (Builtin.Str.occurrences a b 0 a.length (a.length+1)) b.length);exact fin (numbered s.toks _) _ (e2.trans ((Xa9 (ne_true_of_eq_false h1)).trans (Xa9 (ne_true_of_eq_false hf))).symm) (by rw [←Xaa (f:=fun p:Str×Tok=>p.1),e2];exact hn)
   · exact call_meets F.slot_str_split (typeIs_str _ _ _) F.entry_str_split (F.args_str_split_2 _ _) (meets_str_split_not_found a b t t2 h1 hb hf) (fin [(a,t)] s.toks ((Xa9 (ne_true_of_eq_false h1)).trans (Xba hf)).symm (show 1≤sizeLine by decide))
 · exact call_meets F.slot_str_split (typeIs_str _ _ _) F.entry_str_split (F.args_str_split_2 _ _) (meets_str_split_cannot_occur a b t t2 h1) (fin [(a,t)] s.toks (Xba h1).symm (show 1≤sizeLine by decide))
theorem ZeN {X:Cx}:CallR X (.type "str") (fun vs H Q=>∃ n:Int,vs=[.int n]∧n.natAbs.log2<1920∧Q (.str (toString n)) H):=by
 intro pins s σ H vs us Q I r h;obtain ⟨n,rfl,hn,q⟩:=h;obtain ⟨u,rfl,ru⟩:=Zdx r;obtain ⟨t,rfl⟩:=ru;exact PySem.P.str_of_int hn ⟨.str _,H,I.tok _,⟨_,rfl⟩,q⟩
theorem Zj7 {X:Cx}:CallR X (.type "int") (fun vs H Q=>∃ (x:Str) (n:Int),vs=[.str x]∧PySem.intText? x=some n∧x.length≤640∧Q (.int n) H):=by
 intro pins s σ H vs us Q I r h;obtain ⟨x,n,rfl,hx,hl,q⟩:=h;obtain ⟨u,rfl,ru⟩:=Zdx r;obtain ⟨t,rfl⟩:=ru;exact PySem.W.KIN.call_text hx hl ⟨.int n,H,I.tok _,⟨_,rfl⟩,q⟩
theorem Zim {c:Nat}:∀ {a b r q:List Nat},c ∉ a→c ∉ b→a++c :: r=b++c :: q→a=b∧r=q
 | [],[],_,_,_,_,e=>⟨rfl,by injection e⟩
 | [],y :: b,_,_,_,hb,e=>by
   injection e with e1 _
   exact absurd (by rw [e1];exact Xal) hb
 | x :: a,[],_,_,ha,_,e=>by
   injection e with e1 _
   exact absurd (by rw [e1];exact Xal) ha
 | x :: a,y :: b,r,q,ha,hb,e=>by
   injection e with e1 e2
   obtain ⟨h1,h2⟩:=Zim (fun h=>ha (Xap _ h)) (fun h=>hb (Xap _ h)) e2;exact ⟨by rw [e1,h1],h2⟩
theorem ZeO (c:Nat) (a b:Str) (r:List Str):(Str.join ⟨#[c]⟩ (a :: b :: r)).cps.toList=a.cps.toList++c :: (Str.join ⟨#[c]⟩ (b :: r)).cps.toList:=by
 rw [join_cons_cons,ZfT,ZfT];show a.cps.toList++[c]++_=_;rw [XaE];rfl
theorem Zg2 {c:Nat}:∀ {l m:List Str},l≠[]→m≠[]→(∀ x∈l,c ∉ x.cps.toList)→(∀ x∈m,c ∉ x.cps.toList)→(Str.join ⟨#[c]⟩ l).cps.toList=(Str.join ⟨#[c]⟩ m).cps.toList→l=m
 | [],_,h,_,_,_,_=>absurd rfl h
 | _,[],_,h,_,_,_=>absurd rfl h
 | [a],[b],_,_,_,_,e=>by rw [show a=b from ext_toList e]
 | [a],b :: d :: r,_,_,hl,hm,e=>by
   rw [ZeO] at e;have e':a.cps.toList=b.cps.toList++c :: (Str.join ⟨#[c]⟩ (d :: r)).cps.toList:=e;exact absurd (by rw [e'];simp) (hl a (by simp))
 | a :: d :: r,[b],_,_,hl,hm,e=>by
   rw [ZeO] at e;have e':a.cps.toList++c :: (Str.join ⟨#[c]⟩ (d :: r)).cps.toList=b.cps.toList:=e;exact absurd (by rw [←e'];simp) (hm b (by simp))
 | a :: d :: r,b :: f :: q,_,_,hl,hm,e=>by
   rw [ZeO,ZeO] at e;obtain ⟨h1,h2⟩:=Zim (hl a (by simp)) (hm b (by simp)) e;have ih:=Zg2 (c:=c) (l:=d :: r) (m:=f :: q) (by simp) (by simp) (fun x hx=>hl x (Xap _ hx)) (fun x hx=>hm x (Xap _ hx)) h2;rw [ext_toList h1,ih]
theorem Zk0 (x y:Str):Txt.split x y≠[]:=by
 unfold Txt.split
 split
 · simp
 · split
   · simp
   · rw [StrLaws.partsBetween_eq]
     obtain ⟨p,r,e⟩:=StrLaws.partsFrom_ne x y.length 0 (Builtin.Str.occurrences x y 0 x.length (x.length+1));rw [e];simp
theorem Zi1 {c:Nat}{ws:List Str} (h:ws≠[]) (hf:∀ x∈ws,c ∉ x.cps.toList):Txt.split (Txt.join ⟨#[c]⟩ ws) ⟨#[c]⟩=ws:=by
 have e:Txt.join ⟨#[c]⟩ ws=Str.join ⟨#[c]⟩ ws:=StrLaws.glued_eq_join _ _;rw [e];exact Zg2 (Zk0 _ _) h (StrLaws.split_free _ c) hf (by rw [StrLaws.join_split])
theorem Zin:(" " : Str)=⟨#[32]⟩:=by decide +kernel
theorem ZhE {ws:List Str} (h:ws≠[]) (hf:∀ x∈ws,32 ∉ x.cps.toList):Txt.split (Txt.join (" " : Str) ws) (" " : Str)=ws:=by
 rw [Zin];exact Zi1 h hf
def gLst (K:XFg) (n:Nat) (t:TGs):TG:=fun v σ H Q=>∃ a xs,v=.ref a∧SqL K H a xs∧xs.length=n∧t xs σ H Q
theorem pg_lst {X:Cx}{pos:Pos}{es:List Expr}{k:Nat}{t:TGs}{n:Nat} (hc:X.calm=true) (h:PGs X es t)
 (hn:(assignEach es X.env).length=n:=by rfl) (hst:(assignEach es X.env).findIdx? (·.1)=none:=by rfl):PG X (.Tuple es k pos) (gLst X.K n t):=by
 intro pins s σ H v u Q I r hw;obtain ⟨a,xs,e1,hq,hl,hw⟩:=hw;subst e1;cases r;obtain ⟨its,rv,ht,hz⟩:=I.list hq
 have hsz:(assignEach es X.env).length=its.toArray.size:=by simp [hn,←hl,rv.length]
 rw [arm_assign_Tuple];refine Xbg (wpAny_standAt ?_);unfold unpack;rw [hsz,hst];refine Xbg (Xbi (PySem.W.kun_itemsOf (I.ok.hd hc) ht.isList fun h' hx=>?_));have I1:Inv X pins σ H { s with heap:=h' }:=I.kept (t':=s.toks) fun b o e=>hx b o (XaV (Xbl e)) e;exact h pins _ σ H xs _ Q I1 (by simpa using rv) hw
def btw (sg:Str):List (List Str)→List Str
 | []=>[]
 | [g]=>g
 | g :: h :: r=>g++sg :: btw sg (h :: r)
theorem Zio {sg:Str}{g:List Str}:∀ {gs:List (List Str)},gs≠[]→btw sg (gs++[g])=btw sg gs++[sg]++g
 | [],h=>absurd rfl h
 | [a],_=>by show a++sg :: g=_;simp [btw]
 | a :: b :: r,_=>by
   have:=Zio (sg:=sg) (g:=g) (gs:=b :: r) (by simp)
   show a++sg :: btw sg (b :: r++[g])=_;rw [this];simp [btw]
theorem Zip {sg:Str}{ws:List (List Str)} {i:Nat} {g:List Str} (h:ws[i]?=some g):btw sg (ws.take (i+1))=(if i=0 then [] else btw sg (ws.take i)++[sg])++g:=by
 rw [Xar,h];have hi:i<ws.length:=(Xae.mp h).1
 by_cases h0:i=0
 · subst h0
   rw [Xba rfl,Xaz];rfl
 · rw [Xa9 h0]
   exact Zio (g:=g) (fun z=>by have:=Xbf List.length z;rw [Xaw,XaL] at this;omega)
theorem ZhF {sg x:Str}:∀ {gs:List (List Str)},x∈btw sg gs→x=sg∨∃ g∈gs,x∈g
 | [],h=>absurd h (by simp [btw])
 | [a],h=>.inr ⟨a,by simp,h⟩
 | a :: b :: r, h => by
   rcases Xaf.mp h with h | h
   · exact .inr ⟨a,by simp,h⟩
   · rcases Xam.mp h with h | h
     · exact .inl h
     · rcases ZhF h with h | ⟨g,h1,h2⟩
       · exact .inl h
       · exact .inr ⟨g,Xap _ h1,h2⟩
theorem Zgb {sg:Str}{m:Nat}:∀ {gs:List (List Str)},(∀ g∈gs,g.length≤m)→(btw sg gs).length≤gs.length * (m+1)
 | [],_=>XaW _
 | [a],h=>by have:=h a (by simp);show a.length≤1 * (m+1);omega
 | a :: b :: r,h=>by
   have h1:=h a (by simp);have h2:=Zgb (sg:=sg) (gs:=b :: r) fun g hg=>h g (Xap _ hg);show (a++sg :: btw sg (b :: r)).length≤_;rw [Xac,XaB];rw [show (a :: b :: r).length=(b :: r).length+1 from rfl,Nat.succ_mul];omega
theorem ZhG {sg:Str}{gs:List (List Str)} (h:∀ g∈gs,g≠[]) (e:btw sg gs=[]):gs=[]:=by
 cases gs with
 | nil=>rfl
 | cons a r =>
   cases r with
   | nil=>exact absurd e (h a (by simp))
   | cons b r=>exact absurd e (by simp [btw])
def prtS (sg:Str) (gs:List (List Str)) (w:Str):List (List Str):=if w=sg then gs++[[]] else gs.dropLast++[gs.getLast?.getD []++[w]]
def prt (sg:Str) (ws:List Str):List (List Str):=ws.foldl (prtS sg) [[]]
theorem Zg3 {sg:Str}{acc:List (List Str)} {h:List Str} {w:Str} (hw:w≠sg):prtS sg (acc++[h]) w=acc++[h++[w]]:=by
 unfold prtS;rw [Xa9 hw]
 simp
theorem Zg4 {sg:Str}:∀ {g:List Str}{acc:List (List Str)} {h:List Str},sg ∉ g→g.foldl (prtS sg) (acc++[h])=acc++[h++g]
 | [],acc,h,_=>by simp
 | w :: g,acc,h,hn=>by
   rw [List.foldl_cons,Zg3 (fun e=>hn (by rw [←e];exact Xal)),Zg4 fun hh=>hn (Xap _ hh)]
   simp
theorem Ziq {sg:Str}:∀ {gs acc:List (List Str)},gs≠[]→(∀ g∈gs,sg ∉ g)→(btw sg gs).foldl (prtS sg) (acc++[[]])=acc++gs
 | [],_,h,_=>absurd rfl h
 | [a],acc,_,h=>by
   show a.foldl _ _=_;rw [Zg4 (h a (by simp))];simp
 | a :: b :: r,acc,_,h=>by
   show (a++sg :: btw sg (b :: r)).foldl _ _=_;rw [XaQ,Zg4 (h a (by simp)),List.foldl_cons]
   have e:prtS sg (acc++[[]++a]) sg=(acc++[a])++[[]]:=by unfold prtS;rw [Xba rfl];simp
   rw [e,Ziq (by simp) fun g hg=>h g (Xap _ hg)]
   simp
theorem Zgc {sg:Str}{gs:List (List Str)} (h:gs≠[]) (hn:∀ g∈gs,sg ∉ g):prt sg (btw sg gs)=gs:=Ziq (acc:=[]) h hn
theorem ZhH {sg:Str}:∀ (ws:List Str) (gs:List (List Str)),gs≠[]→ws.foldl (prtS sg) gs≠[]∧(ws.foldl (prtS sg) gs).length≤gs.length+ws.length
 | [],gs,h=>⟨h,XaS _⟩
 | w :: ws,gs,h=>by
   have hl:gs.length≠0:=fun e=>h (List.length_eq_zero_iff.mp e)
   have e:prtS sg gs w≠[]∧(prtS sg gs w).length≤gs.length+1:=by
    unfold prtS
    split
    · exact ⟨by simp,by simp⟩
    · refine ⟨by simp,?_⟩
      rw [Xac,List.length_dropLast,Xau];omega
   obtain ⟨a,b⟩:=ZhH ws (prtS sg gs w) e.1;rw [List.foldl_cons];refine ⟨a,?_⟩;rw [XaB];omega
structure Wds (H:Hp) (us:List Addr) (ws:List (List Str)):Prop where
 len:us.length=ws.length
 at_:∀ (n:Nat) (u:Addr) (g:List Str),us[n]?=some u→ws[n]?=some g→H u=some (.lst (g.map V.str))
theorem Wds.nil {H:Hp}:Wds H [] []:=⟨rfl,fun n u g h=>by simp at h⟩
theorem Wds.same {H H':Hp}{us:List Addr}{ws:List (List Str)} (e:Same H H') (h:Wds H us ws):Wds H' us ws:=⟨h.len,fun n u g a b=>e _ _ (h.at_ n u g a b)⟩
theorem Wds.upd {H:Hp}{D:Addr}{o:HO}{us:List Addr}{ws:List (List Str)} (h:Wds H us ws) (hn:∀ u∈us,u≠D):Wds (upd H D o) us ws:=⟨h.len,fun n u g a b=>by rw [Zaf (hn u (Xah a))];exact h.at_ n u g a b⟩
theorem Wds.snoc {H:Hp}{u:Addr}{us:List Addr}{ws:List (List Str)} {g:List Str} (h:Wds H us ws) (e:H u=some (.lst (g.map V.str))):Wds H (us++[u]) (ws++[g]):=by
 refine ⟨by rw [Xac,Xac,h.len];rfl,fun n v q h1 h2=>?_⟩
 rcases Nat.lt_or_ge n us.length with hlt | hge
 · rw [Xat hlt] at h1
   rw [Xat (by rw [←h.len];exact hlt)] at h2;exact h.at_ n v q h1 h2
 · have hn1:n<(us++[u]).length:=(Xae.mp h1).1
   rw [Xac,Xau] at hn1
   have e':n=us.length:=by omega
   subst e';rw [Xay (XaS _),Nat.sub_self] at h1;rw [Xay (by rw [h.len];exact XaS _),h.len,Nat.sub_self] at h2;cases h1;cases h2;exact e
abbrev nS (n:Int):Str:=toString n
def sgs (m:Nat):List Nat:=(Nat.toDigits 10 m).map Char.toNat
theorem Zj8:∀ d:Nat,d<10→(Nat.digitChar d).toNat=48+d:=by decide
theorem Zj9 {m:Nat} (h:m<10):sgs m=[48+m]:=by unfold sgs;rw [Nat.toDigits_of_lt_base h];show [(Nat.digitChar m).toNat]=_;rw [Zj8 m h]
theorem sgs_ge {m:Nat} (h:10≤m):sgs m=sgs (m / 10)++[48+m % 10]:=by
 have hm:m % 10<10:=Nat.mod_lt m (by decide);have t:Nat.toDigits 10 (m / 10)++Nat.toDigits 10 (m % 10)=Nat.toDigits 10 (10 * (m / 10)+m % 10):=Nat.toDigits_append_toDigits (by decide) (by omega) hm;rw [Nat.div_add_mod] at t;unfold sgs;rw [←t,Xad,Nat.toDigits_of_lt_base hm];show _++[(Nat.digitChar (m % 10)).toNat]=_;rw [Zj8 _ hm]
theorem sgs_ok (m:Nat):(∀ c∈sgs m,48≤c∧c≤57)∧(0<m→∃ c,(sgs m).head?=some c∧c≠48)∧sgs m≠[]:=by
 induction m using Nat.strongRecOn with
 | _ m ih =>
   by_cases h:m<10
   · rw [Zj9 h]
     refine ⟨fun c hc=>?_,fun h0=>⟨48+m,rfl,by omega⟩,by simp⟩;rw [Xaj.mp hc];omega
   · obtain ⟨h1,h2,h3⟩:=ih (m / 10) (by omega)
     rw [sgs_ge (by omega)];refine ⟨fun c hc=>?_,fun _=>?_,by simp⟩
     · rcases Xaf.mp hc with hc | hc
       · exact h1 c hc
       · rw [Xaj.mp hc];omega
     · obtain ⟨c,hc,hn⟩:=h2 (by omega)
       refine ⟨c,?_,hn⟩
       cases e:sgs (m / 10) with
       | nil=>exact absurd e h3
       | cons a r=>rw [e] at hc;exact hc
theorem Zka:∀ (k m:Nat),m<10 ^ (k+1)→(sgs m).length≤k+1
 | 0,m,h=>by rw [Zj9 (by omega)];exact XaS _
 | k + 1, m, h => by
   by_cases h1:m<10
   · rw [Zj9 h1];show 1≤_;omega
   · rw [sgs_ge (by omega),Xac]
     have:=Zka k (m / 10) (by rw [Nat.pow_succ] at h;omega)
     show _+1≤_;omega
theorem Zgd (m:Nat):(nS (m:Int)).cps.toList=sgs m:=PySem.W.KIN.signs_num m
structure NumW (w:Str):Prop where
 l1:1≤w.length
 l4:w.length≤4
 z:w.cps.toList.head?=some 48→w = "0"
 d:∀ c∈w.cps.toList,48≤c∧c≤57
def Num (w:Str) (n:Int):Prop:=NumW w∧PySem.intText? w=some n
theorem Zir {w:Str} (h:NumW w):∃ n,Num w n :=
 ⟨_, h, intText_digits (fun c hc => h.d c hc) (fun e => by have := h.l1; have z : w.cps.toList.length = w.length := by simp [Str.length]
                                                           rw [e] at z;simp at z;omega) (Xbc h.l4 (by decide))⟩
theorem Zei {n:Int} (h0:0≤n) (h1:n<10000):Num (nS n) n:=by
 have e2:PySem.intText? (nS n)=some n:=PySem.W.KIN.num_reads h0 (Int.lt_trans h1 (by decide));obtain ⟨m,rfl⟩:=XaZ h0;obtain ⟨k1,k2,k3⟩:=sgs_ok m
 have z:(nS (m:Int)).length=(sgs m).length:=by rw [←Zgd];simp [Str.length]
 refine ⟨⟨?_,?_,fun e=>?_,fun c hc=>k1 c (by rw [←Zgd];exact hc)⟩,e2⟩
 · rw [z];exact List.length_pos_iff.mpr k3
 · rw [z];exact Zka 3 m (by omega)
 · rw [Zgd] at e
   rcases Nat.eq_zero_or_pos m with h | h
   · subst h;decide +kernel
   · obtain ⟨c,hc,hn⟩:=k2 h
     rw [e] at hc;cases hc;exact absurd rfl hn
theorem Zis {w:Str}{n m:Int} (h:Num w n) (k:Num w m):n=m:=by have:=h.2.symm.trans k.2;cases this;rfl
theorem ZeP {n:Int} (h0:0≤n) (h9:n<10000):n.natAbs.log2<1920:=by
 have:n.natAbs<2 ^ 20:=by omega
 by_cases hz:n.natAbs=0
 · rw [hz];decide
 · have:=(Nat.log2_lt hz).mpr this
   omega
def numB (w:Str):Bool:=decide (1≤w.length∧w.length≤4) && (!(w.cps.toList.head? == some 48) || decide (w = "0")) && w.cps.toList.all fun c=>decide (48≤c∧c≤57)
theorem numB_of {w:Str} (h:numB w=false):¬NumW w:=fun k=>by
 have:numB w=true:=by
  unfold numB;simp only [Bool.and_eq_true,Bool.or_eq_true,decide_eq_true_eq,List.all_eq_true,Bool.not_eq_true',beq_eq_false_iff_ne];refine ⟨⟨⟨k.l1,k.l4⟩,?_⟩,k.d⟩
  by_cases e:w.cps.toList.head?=some 48
  · exact .inr (k.z e)
  · exact .inl e
 rw [h] at this;cases this
theorem put_at {h g:Heap}{C:Addr} (hC:C<h.objs.size) (hg:C<g.objs.size):∃ h',Heap.SameBut C h h'∧h'.get? C=g.get? C:=by
 refine ⟨{ h with objs:=h.objs.setIfInBounds C g.objs[C] },⟨by simp,fun b hb=>?_⟩,?_⟩
 · unfold Heap.get?
   rw [Array.getElem?_setIfInBounds_ne (Ne.symm hb)]
 · unfold Heap.get?
   rw [Array.getElem?_setIfInBounds_self_of_lt hC,Array.getElem?_eq_getElem hg]
theorem Zi2 {M:Model}{A:Around}{E:Value→Shared→Prop}{s:Shared}{e T:Addr}{cls fl:Value}{dd:Option Addr}{Q:Unit→Shared→Prop}{fr:Option Addr} (ht:Zf7 s.heap e T cls fl dd)
 (h:∀ h',Zf7 h' e T cls (fr.elim .none fun f=>rawInt f) dd→(∀ b o,s.heap.get? b=some o→b≠T→h'.get? b=some o)→Q () { s with heap:=h' }):wpAny M A (setFlight (.ref e) fr) Q E s:=by
 obtain ⟨oe,vs,oT,ts,e1,e2,e2d,e3,e4,e5,e6,e7,e8⟩:=ht;have hz:3<ts.size:=(Array.getElem?_eq_some_iff.mp e8).1;have oth:∀ b,b≠T→(s.heap.update T (Obj.mapFields (·.setIfInBounds 3 (fr.elim Value.none fun f=>rawInt f)))).get? b=s.heap.get? b:=fun b hb=>Heap.get?_update_other _ _ (Ne.symm hb);unfold setFlight;refine Xbg (wpAny_field e1 e3 e4 ?_);rw [Xba (show (Value.ref T != Value.none)=true from by simp)];refine wpAny_setField e6 e7 hz (h _ ?_ fun b o q n=>(oth b n).trans q);exact ⟨oe,vs,_,_,(oth e (Ne.symm e5)).trans e1,e2,e2d,e3,e4,e5,Heap.get?_update_self _ e6 (Obj.isFreed_of_fields (Obj.data_mapFields e7 _)),Obj.data_mapFields e7 _,by simp [hz]⟩
def xeC (Y:Cx) (E:XK):Value→Shared→Prop:=fun e s'=>∃ pins σ H1 s1 H' a C dd,e=.ref a∧Inv Y pins σ H1 s1∧Th Y.prog Y.w Y.stack H1 s1 H' s' a C dd∧E (.ref C) dd H'
theorem Zb9 {Y:Cx}{E:XK}:Throws (Y.wish (xeC Y E)) E:=fun pins σ H s H' s' a C dd I t q=>⟨pins,σ,H,s,H',a,C,dd,rfl,I.unwish,t,q⟩
theorem Zit {X:Cx}{E:XK}{pins:List (Addr×Obj)} {σ:St} {C:Addr} {m:Str→Option Value} {H1 H':Hp} {s1 s':Shared} {a Cl:Addr} {dd:Option Addr} {env':Env} {use:Option (Value→Sem Unit)} {Q:Value→Shared→Prop} {acc:Value}
 (hT:Throws X E) (hst:X.stack=X.env :: X.outer) (hfm:X.env.frame=some X.env.locals) (hfe:env'.frame=X.env.frame) (hI:∀ h',Heap.SameBut C s1.heap h'→Inv X pins σ H1 { s1 with heap:=h' })
 (hn:s1.heap.Ns C m) (hCf:H1 C=none) (hCs:C ∉ frs X.stack) (t:Th X.prog X.w X.stack H1 s1 H' s' a Cl dd) (q:E (.ref Cl) dd H') :
 notedBy (model X.prog X.w) X.A env' (fun x s''=>compPost (model X.prog X.w) X.A X.xe use Q acc C (.error x) s'') (.ref a) s':=by
 have I:Inv X pins σ H1 s1:=hI s1.heap (.refl ..)
 have ff:∀ b∈frs X.stack,H' b=none:=fun b mb=>by
  obtain ⟨_,o,ho,_⟩:=I.stack.mem mb;exact t.un.free b o ho (I.stkFree b mb) (by simp)
 have hff:=ZkV (fun b mb=>mb) I.stkFree t.un I.stack;have hfr:=I.ok.frames;rw [hst] at hff hfr
 have main : ∀ T h1 T1, (T = a ∨ (s1.heap.get? T = none ∧ H' T = none)) → GoneAt (X.env :: X.outer) a T T1 (.ref Cl) (rawInt X.env.locals) dd s'.heap h1 → compPost (model X.prog X.w) X.A X.xe use Q acc C (.error (.ref a)) { s' with heap := h1 } := fun T h1 T1 hT1 g => by
  have nT:s1.heap.get? T=none:=by
   rcases hT1 with z | z
   · rw [z];exact t.new
   · exact z.1
  have fT:H' T=none:=by
   rcases hT1 with z | z
   · rw [z];exact t.free
   · exact z.2
  rw [←hst] at g
  have nT1:s1.heap.get? T1=none:=by
   rcases g.tr with z | z
   · rw [z];exact nT
   · cases y:s1.heap.get? T1 with
     | none=>rfl
     | some o=>obtain ⟨o',e⟩:=t.un.there T1 o y (by simp);rw [z] at e;cases e
  have fT1:H' T1=none:=by
   rcases g.tr with z | z
   · rw [z];exact fT
   · cases y:H' T1 with
     | none=>rfl
     | some o=>obtain ⟨u,e⟩:=(t.hok T1 o y).there;rw [z] at e;cases e
  obtain ⟨un1,hok1⟩:=ZeJ t.un t.hok t.new nT t.free fT ff g.keep g.slot;obtain ⟨oC,es,ep,hC,hd⟩:=id hn;have hC1:h1.get? C=some oC:=un1.keep C oC hC hCf hCs (by simp);have fC:H' C=none:=un1.free C oC hC hCf (by simp)
  have nCa:C≠a:=fun z=>by rw [z,t.new] at hC;cases hC
  have nCT:C≠T1:=fun z=>by rw [z,nT1] at hC;cases hC
  have goal:∃ m,h1.Ns C m∧∀ h',Heap.SameBut C h1 h'→∀ cenv:Env,cenv.locals=C→wpAny (model X.prog X.w) X.A (passOn "comprehension.variables-let-go" (.ref a) cenv:Sem Value) (fun _ _=>False) X.xe { s' with heap:=h' }:=by
   refine ⟨m,⟨oC,es,ep,hC1,hd⟩,fun h2 sb cenv hce=>?_⟩
   have fl2:Zf7 h2 a T1 (.ref Cl) (rawInt X.env.locals) dd:=by
    obtain ⟨oe,vs,oT,ts,e1,e2,e2d,e3,e4,e5,e6,e7,e8⟩:=g.fly;exact ⟨oe,vs,oT,ts,(sb.2 a (Ne.symm nCa)).trans e1,e2,e2d,e3,e4,e5,(sb.2 T1 (Ne.symm nCT)).trans e6,e7,e8⟩
   obtain ⟨oe,vs,oT,ts,e1,e2,e2d,e3,e4,e5,e6,e7,e8⟩:=id fl2;unfold PySem.passOn;refine Xbg (wpAny_field e1 e3 e4 ?_);rw [Xa9 (show ¬((Value.ref T1 == Value.none)=true) from by simp)];refine Xbg (Zi2 (s:={ s' with heap:=h2 }) fl2 fun h3 fl3 k3=>wpAny_throw ?_);obtain ⟨hm,sm,gm⟩:=put_at (h:=s1.heap) (g:=h2) (C:=C) (Xbl hC) (by rw [sb.1];exact Xbl hC1);have newM:∀ b,b≠C→s1.heap.get? b=none→hm.get? b=none:=fun b nb e=>(sm.2 b nb).trans e
   have un2 : Un (frs X.stack) [] H1 H' hm h2 := by
    refine ⟨fun b o e n mb _=>?_,fun b o e n mb _=>?_,fun b o e n _=>?_,fun b o e _=>?_,un1.tups,un1.frzs,un1.tbls⟩
    · by_cases z:b=C
      · subst z;rw [←gm];exact e
      · exact (sb.2 b z).trans (un1.keep b o ((sm.2 b z).symm.trans e) n mb (by simp))
    · have z:b≠C:=fun z=>hCs (z ▸ mb)
      obtain ⟨sl,y⟩:=un1.slot b o ((sm.2 b z).symm.trans e) n mb (by simp);exact ⟨sl,(sb.2 b z).trans y⟩
    · by_cases z:b=C
      · subst z;exact fC
      · exact un1.free b o ((sm.2 b z).symm.trans e) n (by simp)
    · by_cases z:b=C
      · subst z;exact ⟨o,by rw [←gm];exact e⟩
      · obtain ⟨o',y⟩:=un1.there b o ((sm.2 b z).symm.trans e) (by simp)
        exact ⟨o',(sb.2 b z).trans y⟩
   have hok2:=hok1.but sb fC;have nTm:=newM T1 (Ne.symm nCT) nT1
   obtain ⟨un3,hok3⟩:=ZeJ un2 hok2 (newM a (Ne.symm nCa) t.new) nTm t.free fT1 ff (fun b o e _ z _=>k3 b o e z) (fun b o e mb=>⟨o.slots,k3 b o e fun z=>by
    obtain ⟨_,o',ho,_⟩:=I.stack.mem mb
    rw [z,nT1] at ho;cases ho⟩)
   exact hT pins σ H1 { s1 with heap:=hm } H' _ a Cl dd (hI hm sm) ⟨t.os,t.bare,un3,hok3,newM a (Ne.symm nCa) t.new,t.free,.inr ⟨T1,_,fl3,nTm,fT1⟩⟩ q
  cases use <;> exact goal
 have en:noteFrame (.ref a) env'=noteFrame (.ref a) X.env:=by unfold noteFrame PySem.frameOf;rw [hfe]
 unfold notedBy;rw [en]
 rcases t.thr with ⟨oe,vs,e1,e2,e2d,e3,e4⟩ | ⟨T,fl,f1,f2,f3⟩
 · refine Zfw hfr hff hfm e1 e3 e4 fun h1 T1 g=>?_
   rw [e2,e2d] at g;exact main a h1 T1 (.inl rfl) g
 · exact ZeI hfr hff hfm f1 fun h1 T1 g=>main T h1 T1 (.inr ⟨f2,f3⟩) g
theorem Zi3 {prog:Program}{w:World}{A:Around}{R:Result→Shared→Prop}{s:Shared}{elt target iter:Expr}{ifs:List Expr}{scope:Scope}{pos:Pos}{it acc:Value}{env:Env} (I:Nat→Shared→Prop)
 (turn:∀ n s,I n s→wpAny (model prog w) A (pyNext it) (fun r s₁=>match r with
  | none=>R (.ok .next) s₁
  | some v=>wpAny (model prog w) A (letOwnedTupleGo target it v) (fun _ s₁=>wpAny (model prog w) A (assign target env v) (fun _ s₂ =>
   wpAny (model prog w) A (forIn ifs true fun c r=>if r=true then do let ok ←isTrue c env (eval c env);pure (ForInStep.yield ok) else pure (ForInStep.yield r)) (fun ok s₃ =>
    if ok=true then wpAny (model prog w) A (eval elt env) (fun x s₄ =>
     wpAny (model prog w) A (call (.builtin "list.append") [acc,x]) (fun _ s₅=>∃ m,m<n∧I m s₅) (fun _ _=>False) s₄) (notedBy (model prog w) A env fun e s'=>R (.error e) s') s₃
    else ∃ m,m<n∧I m s₃) (fun _ _=>False) s₂) (fun _ _=>False) s₁) (fun _ _=>False) s₁) (fun _ _=>False) s)
 (n:Nat) (h:I n s) :
 codeAny (model prog w) A (.compLoop (.ListComp elt [⟨target,iter,ifs,0⟩] scope pos) 0 it acc env) R s:=by
 refine codeAny_loop rfl I (fun n s hI=>?_) n h
 show wpAny _ A ((compTurn (.ListComp elt [⟨target,iter,ifs,0⟩] scope pos) 0 it acc env).onRaise (fun x=>do noteFrame x env;theTreesLotGoes x)) _ _ s
 refine wpAny_noted ?_;rw [compTurn_list];refine Xbg (wpAny_standAt (Xbg (Xbq (turn n s hI) (fun r s₁ h₁=>?_) fun _ _ h'=>h'.elim)))
 cases r with
 | none=>exact Xbh h₁
 | some v =>
   refine Xbg (Xbq h₁ (fun _ s₁ h₁=>?_) fun _ _ h'=>h'.elim);refine Xbg (Xbq h₁ (fun _ s₂ h₂=>Xbg (Xbq h₂ (fun ok s₃ h₃=>?_) fun _ _ h'=>h'.elim)) fun _ _ h'=>h'.elim)
   cases ok with
   | false=>exact Xbh ⟨rfl,h₃⟩
   | true =>
     exact Xbg (Xbg (Xbq h₃ (fun x s₄ h₄=>Xbg (Xbq h₄ (fun _ s₅ h₅=>Xbh (Xbh ⟨rfl,h₅⟩)) fun _ _ h'=>h'.elim)) fun _ _ h'=>h'))
theorem ZeQ {X:Cx}{elt iter tg:Expr}{ifs:List Expr}{scope:Scope}{pos:Pos}{N:List Str}{k:Nat}{caps:List Nat}{g:TG}{tc:TT}{te:TE}{pins:List (Addr×Obj)} {σ:St} {H:Hp} {s:Shared} {E:Value→Shared→Prop} {Q:VK}
 {it:Addr} {fp:List Addr} {tn:Nat→Heap→Prop} {J:It} {RR:Value→Addr→Result→Shared→Prop} {EX:XK} (hc:X.calm=true) (S:CompScope X.env.scope X.N scope N k caps) (I:Inv X pins σ H s)
 (T:Turn X.prog X.w X.K tg J fp it tn) (st:tn 0 s.heap) (hf:∀ b∈fp,FpOk X pins H b)
 (hg:∀ cs C s H ex,PG (ZaG X N scope cs C s H ex) tg g) (ht:∀ cs C s H ex,PF (ZaG X N scope cs C s H ex) ifs tc) (he:∀ cs C s H ex,PE ((ZaG X N scope cs C s H ex).wish (xeC (ZaG X N scope cs C s H ex) EX)) elt te)
 (q:∀ D,H D=none→∃ W:Nat→Nat→List V→Hp→Prop,(∃ m,W 0 m [] (upd H D (.lst [])))∧∀ i m ys H2,W i m ys H2 →
  (J.stop i H2∧Q (.ref D) H2)∨(J.go i H2∧∀ x H3,J.yld i H2 x H3→g x (Zbo k caps σ) H3 fun σ4 H4=>tc σ4 H4 fun b H5 =>
   if b=true then te σ4 H5 fun y H6=>H6 D=some (.lst ys)∧ys.length<sizeLine∧∃ m',m' < m∧W (i+1) m' (ys++[y]) (upd H6 D (.lst (ys++[y]))) else ∃ m',m' < m∧W (i+1) m' ys H5))
 (hRR:∀ D C H' s' m,C≠X.env.locals→(∀ x c,X.env.cells.lookup x=some c→c≠C)→s'.heap.Ns C m→(∀ h',Heap.SameBut C s'.heap h'→Inv X pins σ H' { s' with heap:=h' })→H' C=none→s.heap.objs.size≤C→Q (.ref D) H'→RR (.ref D) C (.ok .next) s')
 (hRE:∀ D C m H1 s1 H' s' a Cl dd (env':Env),env'.frame=X.env.frame→(∀ h',Heap.SameBut C s1.heap h'→Inv X pins σ H1 { s1 with heap:=h' })→s1.heap.Ns C m→H1 C=none→C ∉ frs X.stack→Th X.prog X.w X.stack H1 s1 H' s' a Cl dd→EX (.ref Cl) dd H'→notedBy (model X.prog X.w) X.A env' (fun x s''=>RR (.ref D) C (.error x) s'') (.ref a) s') :
 wpAny (model X.prog X.w) X.A (newList []) (fun acc s₃=>wpAny (model X.prog X.w) X.A (newFunctionEnv scope X.env.globals (ZbV X.env scope.names []) [] X.env.qual none .none (some X.env)) (fun cenv s₄ =>
  codeAny (model X.prog X.w) X.A (.compStart (.ListComp elt [⟨tg,iter,ifs,0⟩] scope pos) 0 (.ref it) acc { cenv with scope:=relabel scope X.env }) (RR acc cenv.locals) s₄) E s₃) E s:=by
 refine wpAny_newObj_type (Zh5 ?_);generalize hD:s.heap.objs.size=D
 have hsz1:(s.heap.push { cls:=.type "list",dict:=none,data:=.seq ([]:List Value).toArray }).objs.size=D+1:=by rw [Heap.size_push,hD]
 dsimp only;rw [hsz1];have hfo:∀ b∈fp,∃ o,s.heap.get? b=some o:=fun b hb=>let ⟨o,e,_⟩:=T.obj 0 _ st b hb;⟨o,e⟩;have hHD:H D=none:=I.hok.fresh (by rw [hD];exact XaS _);have J0:=Zfr (t':=s.toks) I S hf hfo (D:=D) (C:=D+1) hD.symm rfl rfl;have hfc:∀ x c,X.env.cells.lookup x=some c→c ∉ fp:=fun x c e hb=>(hf c hb).2.2.2.2.1 x c e rfl
 have fpo:∀ {pins':List (Addr×Obj)} {H':Hp},(∀ b∈fp,H' b=none)→pins'=[]→∀ b∈fp,FpOk (ZaG X N scope (ZaT X scope (D+1)) (D+1) s H fp) pins' H' b:=fun {pins' H'} hn hp b hb=>by
  obtain ⟨o,e⟩:=hfo b hb
  have hlt:@LT.lt Nat _ b D:=by rw [←hD];exact Xbl e
  subst hp;refine ⟨hn b hb,?_,fun z=>?_,.inl hb,fun x c e=>(J0.ok.exf b hb).2 x c e,fun p hp=>absurd hp (by simp)⟩
  · show @Ne Nat b (D+1)
    omega
  · have z':b∈frs X.stack:=z
    rcases Xam.mp (I.stkSub b z') with w | w
    · exact (hf b hb).2.1 w
    · exact (hf b hb).2.2.1 w
 obtain ⟨W,⟨m0,w0⟩,turn⟩:=q D hHD
 have st1:tn 0 (pushCells ((s.heap.push { cls:=.type "list",data:=.seq #[] }).push { cls:=.type "dict",data:=.dict #[] }) scope.names):=T.keep 0 _ _ st fun b hb o e=>pushCells_keeps _ _ b o (Xbk _ (Xbk _ e))
 have fr0:∀ b∈fp,(upd H D (.lst [])) b=none:=fun b hb=>by
  obtain ⟨o,e⟩:=hfo b hb
  have hlt:@LT.lt Nat _ b D:=by rw [←hD];exact Xbl e
  rw [Zaf (show @Ne Nat b D by omega)];exact (hf b hb).1
 have fin:∀ {H':Hp} {s':Shared} {σ':St} {pins':List (Addr×Obj)},Inv (ZaG X N scope (ZaT X scope (D+1)) (D+1) s H fp) pins' σ' H' s'→Q (.ref D) H'→RR (.ref D) (D+1) (.ok .next) s':=fun {H' s' σ' pins'} J q=>by
  obtain ⟨m,hn,_⟩:=id J.loc;refine hRR D (D+1) H' s' m (fun z=>?_) (fun x c e z=>?_) hn (fun h' hs=>?_) J.free (by rw [hD];exact Nat.le_succ _) q
  · have h1:@LT.lt Nat _ X.env.locals D:=by rw [←hD];exact I.lt
    have z':@Eq Nat (D+1) X.env.locals:=z;omega
  · obtain ⟨v,y⟩:=I.cell x c e
    have h1:@LT.lt Nat _ c D:=by rw [←hD];exact y.lt
    have z':@Eq Nat c (D+1):=z;omega
  · refine I.call' (ch:=fp) J.os (J.base.but hs (by rw [hD];exact Nat.le_succ _)) (J.hok.but hs J.free) J.bare fun b hb=>?_
    exact ⟨(hf b hb).2.2.2.1,(hf b hb).2.1,(hf b hb).2.2.2.2.1,(hf b hb).2.2.2.2.2⟩
 have loop : codeAny (model X.prog X.w) X.A (.compLoop (.ListComp elt [⟨tg, iter, ifs, 0⟩] scope pos) 0 (.ref it) (.ref D) (compEnvC scope (ZaT X scope (D + 1)) (D + 1) X.env)) (RR (.ref D) (D + 1))
  { s with heap:=pushCells ((s.heap.push { cls:=.type "list",data:=.seq #[] }).push { cls:=.type "dict",data:=.dict #[] }) scope.names }:=by
  refine Zi3 (fun n s'=>∃ i ys H',Inv (ZaG X N scope (ZaT X scope (D+1)) (D+1) s H fp) [] (Zbo k caps σ) H' s'∧tn i s'.heap∧(∀ b∈fp,H' b=none)∧W i n ys H') ?_ m0 ⟨0,[],_,J0,st1,fr0,w0⟩;rintro n s3 ⟨i,ys,H3,I3,st3,fr3,w3⟩
  rcases turn i n ys H3 w3 with ⟨stop,qn⟩ | ⟨go,step⟩
  · refine thn (T.done (ZaG X N scope (ZaT X scope (D+1)) (D+1) s H fp) rfl rfl rfl hc i [] s3 _ H3 _ I3 (fpo fr3 rfl) st3 stop) fun r s4 ⟨hr,I4⟩=>?_
    subst hr;exact fin I4 qn
  · refine thn (T.item (ZaG X N scope (ZaT X scope (D+1)) (D+1) s H fp) rfl rfl rfl hc i [] s3 _ H3 _ I3 (fpo fr3 rfl) st3 go) fun r s4 ⟨u,hr,h4⟩=>?_
    subst hr;refine thn h4 fun _ s5 ⟨x,H5,I5,r5,y5,st5,fr5⟩=>?_;have I5':=I5.pinned (fpo fr5 rfl) (T.obj _ _ st5)
    have again:∀ {σ7:St} {H7:Hp} {s7:Shared} {m':Nat} {zs:List V},Inv (ZaG X N scope (ZaT X scope (D+1)) (D+1) s H fp) ([]++Zfp fp s5.heap) σ7 H7 s7→m' < n→W (i+1) m' zs H7 →
     ∃ m,m<n∧∃ i ys H',Inv (ZaG X N scope (ZaT X scope (D+1)) (D+1) s H fp) [] (Zbo k caps σ) H' s7∧tn i s7.heap∧(∀ b∈fp,H' b=none)∧W i m ys H':=fun {σ7 H7 s7 m' zs} I7 hm w7=>by
     refine ⟨m',hm,i+1,zs,H7,Zfs I S hfc (by rw [hD];exact Nat.le_succ _) I7.unpinned,T.keep _ _ _ st5 fun b hb o e=>(I7.pin (b,o) (Xan _ (Xan _ (Zcq hb e)))).1,fun b hb=>?_,w7⟩;obtain ⟨o,e,d⟩:=T.obj _ _ st5 b hb;exact (I7.pin (b,o) (Xan _ (Xan _ (Zcq hb e)))).2.1
    refine thn (hg _ _ _ _ _ _ s5 _ H5 x u _ I5' r5 (step x H5 y5)) fun _ s6 ⟨σ6,H6,I6,q6⟩=>?_;refine thn (ht _ _ _ _ _ _ s6 σ6 H6 _ I6 q6) fun b s7 ⟨H7,I7,q7⟩=>?_
    cases b with
    | false =>
      rw [Xa9 Xa7] at q7 ⊢;obtain ⟨m',hm,w7⟩:=q7;exact again I7 hm w7
    | true =>
      rw [Xba rfl] at q7 ⊢;refine Xbq (he _ _ _ _ _ _ s7 σ6 H7 _ (I7.wish _) q7) (fun y s8 ⟨yv,H8,I8,r8,hD8,hz8,m',hm,w8⟩=>?_) fun ev s8 ⟨pins8,σ8,H1,s1,H',a,Cl,dd,ea,J8,t8,q8⟩=>?_;rotate_left
      · subst ea
        obtain ⟨m,hn,_⟩:=id J8.loc;refine hRE D (D+1) m H1 s1 H' s8 a Cl dd _ rfl (fun h' hs=>?_) hn J8.free (fun z=>?_) t8 q8
        · refine I.call' (ch:=fp) J8.os (J8.base.but hs (by rw [hD];exact Nat.le_succ _)) (J8.hok.but hs J8.free) J8.bare fun b hb=>?_
          exact ⟨(hf b hb).2.2.2.1,(hf b hb).2.1,(hf b hb).2.2.2.2.1,(hf b hb).2.2.2.2.2⟩
        · obtain ⟨_,o,ho,_⟩:=I.stack.mem z
          have h1:@LT.lt Nat _ (D+1) D:=by rw [←hD];exact hD ▸ Xbl ho
          omega
      have I8:=I8.unwish;refine thn (ZeC (X:=ZaG X N scope (ZaT X scope (D+1)) (D+1) s H fp) _ s8 σ6 H8 (.ref D) [yv] (.ref D) [y] (fun _ H9=>W (i+1) m' (ys++[yv]) H9) I8 rfl (.cons r8 .nil) ⟨D,ys,yv,rfl,rfl,hD8,hz8,w8⟩) fun _ s9 ⟨_,H9,I9,_,w9⟩=>?_;exact again I9 hm w9
 exact codeAny_compStart_list loop (T.self _ 0 _ _ _ st1 loop)
theorem Zk1 {X:Cx}{EX:XK}{elt iter tg:Expr}{ifs:List Expr}{scope:Scope}{pos:Pos}{N:List Str}{k:Nat}{caps:List Nat}{wi:TI}{g:TG}{tc:TT}{te:TE} (hT:Throws X EX) (hst:X.stack=X.env :: X.outer) (hfm:X.env.frame=some X.env.locals) (hc:X.calm=true) (S:CompScope X.env.scope X.N scope N k caps) (hi:PI X tg iter wi)
 (hg:∀ cs C s H ex,PG (ZaG X N scope cs C s H ex) tg g) (ht:∀ cs C s H ex,PF (ZaG X N scope cs C s H ex) ifs tc) (he:∀ cs C s H ex,PE ((ZaG X N scope cs C s H ex).wish (xeC (ZaG X N scope cs C s H ex) EX)) elt te)
 (hs:∀ x,foldedSetIterable iter X.env x=pure x:=by intro _;rfl):PE X (.ListComp elt [⟨tg,iter,ifs,0⟩] scope pos) (ZkI k caps wi g tc te):=by
 intro pins s σ H Q I h;have hcl:closureFor scope X.env=pure (ZbV X.env scope.names []):=Zcm fun x hx hfr=>I.ok.has x.1 (S.free x hx hfr);rw [eval_ListComp];refine wpAny_comprehension_free (use:=none) rfl hs hcl S.kind S.loc (thn (hi pins s σ H _ I h) fun v s1 h1=>thn h1 fun itv s2 h2=>?_);obtain ⟨it,fp,tn,J,H2,e,I2,T,st2,f2,q⟩:=h2;subst e;refine ZeQ (Q:=Q) hc S I2 T st2 f2 hg ht he q ?_ fun D C m H1 s1 H' s' a Cl dd env' hfe hI hn hCf hCs t8 q8=>Zit hT hst hfm hfe hI hn hCf hCs t8 q8;intro D C H' s' m _ _ hn hI _ _ hq;exact ⟨m,hn,fun h' hs'=>⟨.ref D,H',hI h' hs',rfl,hq⟩⟩
theorem Zge {X:Cx}{EX:XK}{elt iter tg:Expr}{ifs:List Expr}{scope:Scope}{pos spos:Pos}{N:List Str}{k i:Nat}{x:Str}{pos':Pos}{caps:List Nat}{wi:TI}{g:TG}{tc:TT}{te:TE} (hN:X.N.Nodup) (hi':X.N[i]?=some x) (hx:Loc X.env.scope x)
 (hT:Throws X EX) (hst:X.stack=X.env :: X.outer) (hfm:X.env.frame=some X.env.locals) (hc:X.calm=true) (S:CompScope X.env.scope X.N scope N k caps) (hi:PI X tg iter wi)
 (hg:∀ cs C s H ex,PG (ZaG X N scope cs C s H ex) tg g) (ht:∀ cs C s H ex,PF (ZaG X N scope cs C s H ex) ifs tc) (he:∀ cs C s H ex,PE ((ZaG X N scope cs C s H ex).wish (xeC (ZaG X N scope cs C s H ex) EX)) elt te)
 (hsw:swapsWith (.ListComp elt [⟨tg,iter,ifs,0⟩] scope pos) (some (.Name x pos')) spos.line X.env=pure true:=by rfl)
 (hs:∀ x,foldedSetIterable iter X.env x=pure x:=by intro _;rfl) (hfn:X.fn x=true∨X.env.scope.names.lookup x=some .local:=by first | exact .inl rfl | exact .inr rfl | assumption) :
 PS X (.Assign [.Name x pos'] (.ListComp elt [⟨tg,iter,ifs,0⟩] scope pos) spos) (tAsg (ZkI k caps wi g tc te) (Zc2 i)):=by
 intro pins s σ H D I h;have hcl:closureFor scope X.env=pure (ZbV X.env scope.names []):=Zcm fun x hx hfr=>I.ok.has x.1 (S.free x hx hfr);rw [exec_Assign_Name_used _ _ _ _ hsw];refine Xbg (wpAny_standAt (Xbg ?_))
 show wpAny _ _ (do let _ ←comprehension (.ListComp elt [⟨tg,iter,ifs,0⟩] scope pos) scope X.env _ (newList []) false (eval iter X.env) (some (assign (.Name x pos') X.env))) _ _ s
 refine Xbg (Xbq (wpAny_comprehension_free (use:=some (assign (.Name x pos') X.env)) (Q:=fun _ s'=>SP X pins D .next s') rfl hs hcl S.kind S.loc
  (thn (hi pins s σ H _ I h) fun v s1 h1=>thn h1 fun itv s2 h2=>?_)) (fun _ s' hq=>Xbh (Xbh hq)) fun _ _ e=>e)
 obtain ⟨it,fp,tn,J,H2,e,I2,T,st2,f2,q⟩:=h2;subst e;refine ZeQ (Q:=fun x H1=>Zc2 i x σ H1 D.nx) hc S I2 T st2 f2 hg ht he q ?_ fun D C m H1 s1 H' s' a Cl dd env' hfe hI hn hCf hCs t8 q8=>Zit hT hst hfm hfe hI hn hCf hCs t8 q8;intro D' C H' s' m hCL hCc hn hI hHC hCs hq;have I3:=hI s'.heap (.refl ..);have I3':Inv X pins σ H' s':=I3;refine wpAny_assign_Name (Zey I3' hN hi' hx (show RelV (V.ref D') (.ref D') from rfl) (fun s'' I4 ⟨a,hsb,ha⟩=>?_) hfn)
 have hCa:C≠a:=by
  rcases ha with ha | ha
  · rw [ha];exact hCL
  · exact Ne.symm (hCc x a ha)
 refine ⟨m,hn.sameBut hsb hCa,fun h' hs'=>?_⟩;refine ⟨_,H',?_,hq⟩
 exact I4.turned (t':=s''.toks) (fun b o hb e=>(hs'.2 b hb).trans e) hHC hCL (.inr (Xbc I2.sz hCs)) hCc fun p hp z=>by
  have:=Xbl (I2.pin p hp).1
  rw [z] at this;exact absurd (Xbb this hCs) (XaT _)
theorem iteC {c A B:Prop} [Decidable c] (hc:c) (h:A):if c then A else B:=by rw [Xba hc];exact h
theorem iteN {c A B:Prop} [Decidable c] (hc:¬c) (h:B):if c then A else B:=by rw [Xa9 hc];exact h
theorem Zg5 {c:Nat}:∀ (ws:List Str),(∀ x∈ws,x.length≤9)→(Str.join ⟨#[c]⟩ ws).length≤10 * ws.length
 | [],_=>XaS _
 | [a],h=>by have:=h a (by simp);show a.length≤10 * 1;omega
 | a :: b :: r,h=>by
   have h1:=h a (by simp);have h2:=Zg5 (c:=c) (b :: r) fun x hx=>h x (Xap _ hx);have e:=Xbf List.length (ZeO c a b r);rw [Xac,XaB] at e
   have z:∀ s:Str,s.cps.toList.length=s.length:=fun s=>by simp [Str.length]
   rw [z,z,z] at e;rw [XaB];omega
theorem Ziu {ws:List Str} (h:∀ x∈ws,x.length≤9) (hn:ws.length≤5000):JoinOk (" " : Str) ws=true:=by
 refine joinOk_of_weight ?_ (by decide +kernel)
 have:(ws.map (·.length)).sum≤9 * ws.length:=by
  clear hn
  induction ws with
  | nil=>simp
  | cons a r ih =>
    have h1:=h a (by simp);have h2:=ih fun y hy=>h y (by simp [hy]);simp only [Xao,List.sum_cons,XaB];omega
 omega
theorem Zkb {ws:List Str} (h:∀ x∈ws,x.length≤9):(Txt.join (" " : Str) ws).length≤10 * ws.length:=by
 rw [Zin];show (Builtin.Str.glued ⟨#[32]⟩ ws).length≤_;rw [StrLaws.glued_eq_join];exact Zg5 ws h
def F2 {α β:Type} (R:α→β→Prop) (l:List α) (m:List β):Prop:=l.length=m.length∧∀ (i:Nat) (x:α) (y:β),l[i]?=some x→m[i]?=some y→R x y
theorem F2.nil {α β:Type}{R:α→β→Prop}:F2 R [] []:=⟨rfl,fun i x y h=>by simp at h⟩
theorem F2.snoc {α β:Type}{R:α→β→Prop}{l:List α}{m:List β}{x:α}{y:β} (h:F2 R l m) (r:R x y):F2 R (l++[x]) (m++[y]):=by
 refine ⟨by rw [Xac,Xac,h.1];rfl,fun i a b h1 h2=>?_⟩
 rcases Nat.lt_or_ge i l.length with hlt | hge
 · rw [Xat hlt] at h1
   rw [Xat (by rw [←h.1];exact hlt)] at h2;exact h.2 i a b h1 h2
 · have hn1:i<(l++[x]).length:=(Xae.mp h1).1
   rw [Xac,Xau] at hn1
   obtain rfl:i=l.length:=by omega
   rw [Xay (XaS _),Nat.sub_self] at h1;rw [Xay (by rw [h.1];exact XaS _),h.1,Nat.sub_self] at h2;cases h1;cases h2;exact r
theorem F2.left {α β:Type}{R:α→β→Prop}{l:List α}{m:List β} (h:F2 R l m) {x:α} (hx:x∈l):∃ y,y∈m∧R x y:=by
 obtain ⟨i,hi⟩:=List.getElem?_of_mem hx
 have hl:i<m.length:=by rw [←h.1];exact (Xae.mp hi).1
 exact ⟨m[i],Xav hl,h.2 i x _ hi (Xab hl)⟩
theorem F2.right {α β:Type}{R:α→β→Prop}{l:List α}{m:List β} (h:F2 R l m) {y:β} (hy:y∈m):∃ x,x∈l∧R x y:=by
 obtain ⟨i,hi⟩:=List.getElem?_of_mem hy
 have hl:i<l.length:=by rw [h.1];exact (Xae.mp hi).1
 exact ⟨l[i],Xav hl,h.2 i _ y (Xab hl) hi⟩
theorem F2.map {α β:Type}{R:α→β→Prop}{l:List α}{f:α→β} (h:∀ x∈l,R x (f x)):F2 R l (l.map f):=by
 refine ⟨by rw [Xaa],fun i x y h1 h2=>?_⟩;rw [Xag,h1] at h2;cases h2;exact h x (Xah h1)
theorem inV_strs {x:Str}:∀ {l:List Str},inV (.str x) (l.map V.str)=true↔x∈l
 | []=>by simp [inV]
 | y :: l=>by
   have ih:=inV_strs (x:=x) (l:=l);unfold inV at ih ⊢;have e:eqV (.str y) (.str x)=decide (y=x):=rfl;rw [Xao,List.any_cons,Bool.or_eq_true,ih,e,decide_eq_true_eq,Xam];exact or_congr_left eq_comm
def sgL:List Str:=["/", "|", ",", ":"]
abbrev lab (x:Str):Prop:=x ∉ sgL
noncomputable def Zcl (ws:List Str):List (List Str):=if ws=[] then [] else prt "," ws
def wG (g:Str×Str):List Str:=[g.1,g.2]
theorem ZfD {g h:List (Str×Str)} (e:g.map wG=h.map wG):g=h:=by
 induction g generalizing h with
 | nil=>cases h with
   | nil=>rfl
   | cons b h=>simp at e
 | cons a g ih=>cases h with
   | nil=>simp at e
   | cons b h =>
     rw [Xao,Xao] at e
     injection e with e1 e2
     unfold wG at e1
     injection e1 with e3 e4
     injection e4 with e4
     rw [ih e2];congr 1;exact Prod.ext e3 e4
theorem Zi4 {l:List (List Str)} (h:∀ x∈l,x.length=2):∃ g:List (Str×Str),l=g.map wG:=by
 induction l with
 | nil=>exact ⟨[],rfl⟩
 | cons x l ih =>
   obtain ⟨g,e⟩:=ih fun y hy=>h y (Xap _ hy);have hx:=h x Xal
   match x,hx with
   | [a,b],_=>exact ⟨(a,b) :: g,by rw [e];rfl⟩
def RdG (g:Str×Str) (y:Str×Int):Prop:=lab g.1∧y.1=g.1∧Num g.2 y.2
def RdSt (ws:List Str) (s:Stt):Prop:=∃ (a:List Str) (g:List (Str×Str)),prt ":" ws=[a,s.2]∧Zcl a=g.map wG∧F2 RdG g s.1∧∀ x∈s.2,lab x
def RdT (ws:List Str) (ss:List Stt) (n:Int) (ps:List (Str×Str)):Prop:=∃ (a:List Str) (w:Str) (b:List Str),prt "|" ws=[a,[w],b]∧F2 RdSt (prt "/" a) ss∧Num w n∧Zcl b=ps.map wG∧∀ p∈ps,lab p.1∧lab p.2
theorem Zkc {sg:Str}:∀ (ws:List Str) (gs:List (List Str)),∀ g∈ws.foldl (prtS sg) gs,∀ x∈g,x∈ws∨∃ h∈gs,x∈h
 | [],gs,g,hg,x,hx=>.inr ⟨g,hg,hx⟩
 | w :: ws, gs, g, hg, x, hx => by
   rw [List.foldl_cons] at hg
   rcases Zkc ws (prtS sg gs w) g hg x hx with z | ⟨h,hh,z⟩
   · exact .inl (Xap _ z)
   · unfold prtS at hh
     split at hh
     · rcases Xaf.mp hh with y | y
       · exact .inr ⟨h,y,z⟩
       · rw [Xaj.mp y] at z;simp at z
     · rcases Xaf.mp hh with y | y
       · exact .inr ⟨h,(List.dropLast_sublist _).subset y,z⟩
       · rw [Xaj.mp y] at z
         rcases Xaf.mp z with z | z
         · cases e:gs.getLast? with
           | none=>rw [e] at z;simp at z
           | some l=>rw [e] at z;exact .inr ⟨l,List.mem_of_getLast? e,z⟩
         · exact .inl (by rw [Xaj.mp z];exact Xal)
theorem Zc8 {sg:Str}{ws g:List Str}{x:Str} (hg:g∈prt sg ws) (hx:x∈g):x∈ws:=by
 rcases Zkc ws [[]] g hg x hx with z | ⟨h,hh,z⟩
 · exact z
 · rw [Xaj.mp hh] at z;simp at z
theorem Zkd {sg:Str}:∀ (ws:List Str) (gs:List (List Str)),gs≠[]→((ws.foldl (prtS sg) gs).map List.length).sum+(ws.foldl (prtS sg) gs).length=(gs.map List.length).sum+gs.length+ws.length
 | [],gs,_=>by simp
 | w :: ws,gs,h=>by
   rw [List.foldl_cons,Zkd ws (prtS sg gs w) (by unfold prtS;split <;> simp)]
   have key:((prtS sg gs w).map List.length).sum+(prtS sg gs w).length=(gs.map List.length).sum+gs.length+1:=by
    obtain ⟨a,x,rfl⟩:∃ a x,gs=a++[x]:=⟨gs.dropLast,gs.getLast h,(List.dropLast_concat_getLast h).symm⟩;unfold prtS
    split
    · simp;omega
    · simp;omega
   rw [XaB];omega
theorem Ziv {sg:Str} (ws:List Str):((prt sg ws).map List.length).sum+(prt sg ws).length=ws.length+1:=by
 have:=Zkd (sg:=sg) ws [[]] (by simp)
 simp at this;unfold prt;omega
theorem sum_le:∀ {l:List Nat}{x:Nat},x∈l→x≤l.sum
 | a :: l,x,h=>by
   rw [List.sum_cons]
   rcases Xam.mp h with e | h
   · omega
   · have:=sum_le h;omega
theorem Ziw {sg:Str}{ws:List Str}:(prt sg ws).length≤ws.length+1∧∀ g∈prt sg ws,g.length≤ws.length:=by
 have h:=Ziv (sg:=sg) ws;have h1:prt sg ws≠[]:=(ZhH (sg:=sg) ws [[]] (by simp)).1;have h2:=List.length_pos_iff.mpr h1;refine ⟨by omega,fun g hg=>?_⟩
 have:=sum_le (Xai.mpr ⟨g,hg,rfl⟩:g.length∈(prt sg ws).map List.length)
 omega
theorem ZhI {ws:List Str}{g:List (Str×Str)} (h:Zcl ws=g.map wG):g.length≤ws.length∧∀ p∈g,p.1∈ws∧p.2∈ws:=by
 unfold Zcl at h
 split at h
 · cases g with
   | nil=>exact ⟨XaW _,fun p hp=>by cases hp⟩
   | cons a g=>simp at h
 · refine ⟨?_,fun p hp=>?_⟩
   · have:=Ziv (sg := ",") ws
     rw [h] at this
     have e:((g.map wG).map List.length).sum=2 * g.length:=by
      clear h this
      induction g with
      | nil=>rfl
      | cons a g ih=>simp only [Xao,List.sum_cons,ih,XaB];show 2+_=_;omega
     rw [e,Xaa] at this;omega
   · have hm:wG p∈prt "," ws:=by rw [h];exact List.mem_map_of_mem hp
     exact ⟨Zc8 hm (by unfold wG;simp),Zc8 hm (by unfold wG;simp)⟩
abbrev WSt:=List (Str×Str)×List Str
structure RwS where
 u:Addr
 G:Addr
 E:Addr
 T:List Addr
 s:WSt
structure RowW (H:Hp) (r:RwS):Prop where
 tu:H r.u=some (.tup [.ref r.G,.ref r.E])
 tg:H r.G=some (.lst (r.T.map V.ref))
 gt:Wds H r.T (r.s.1.map wG)
 te:H r.E=some (.lst (r.s.2.map V.str))
theorem RowW.same {H H':Hp}{r:RwS} (s:Same H H') (h:RowW H r):RowW H' r:=⟨s _ _ h.tu,s _ _ h.tg,h.gt.same s,s _ _ h.te⟩
theorem RowW.upd {H:Hp}{r:RwS}{x:Addr}{ys zs:List V} (hx:H x=some (.lst ys)) (h:RowW H r) (n1:r.G≠x) (n2:r.E≠x) (n3:∀ t∈r.T,t≠x):RowW (upd H x (.lst zs)) r :=
 ⟨by rw [Zaf (ZfI h.tu hx fun z=>nomatch z)];exact h.tu,by rw [Zaf n1];exact h.tg,h.gt.upd n3,by rw [Zaf n2];exact h.te⟩
abbrev Tag:=Addr→Nat×Nat
def setK (κ:Tag) (a:Addr) (g:Nat×Nat):Tag:=fun x=>if x=a then g else κ x
theorem ZbW {κ:Tag}{a:Addr}{g:Nat×Nat}:setK κ a g a=g:=Xba rfl
theorem ZaV {κ:Tag}{a b:Addr}{g:Nat×Nat} (h:b≠a):setK κ a g b=κ b:=Xa9 h
theorem ZbP {κ:Tag}{a b:Addr}{g h:Nat×Nat} (ha:κ a=g) (hb:κ b=h) (n:g≠h):a≠b:=fun z=>n (by rw [←ha,z,hb])
structure StW (H:Hp) (κ:Tag) (S:Addr) (rs:List RwS):Prop where
 top:H S=some (.lst (rs.map fun r=>V.ref r.u))
 row:∀ r∈rs,RowW H r
 kS:κ S=(0,0)
 kR:∀ (i:Nat) (r:RwS),rs[i]?=some r→κ r.G=(2,i)∧κ r.E=(3,i)∧r.T.Nodup∧∀ t∈r.T,κ t=(4,i)
structure PrW (H:Hp) (κ:Tag) (P:Addr) (pt:List Addr) (ps:List (Str×Str)):Prop where
 pr:H P=some (.lst (pt.map V.ref))
 pp:Wds H pt (ps.map wG)
 kP:κ P=(1,0)
 kQ:∀ t∈pt,κ t=(5,0)
theorem Wds.some {H:Hp}{us:List Addr}{ws:List (List Str)} (h:Wds H us ws) {u:Addr} (hu:u∈us):∃ o,H u=some o:=by
 obtain ⟨i,hi⟩:=List.getElem?_of_mem hu
 have hl:i<ws.length:=by rw [←h.len];exact (Xae.mp hi).1
 exact ⟨_,h.at_ i u _ hi (Xab hl)⟩
theorem StW.same {H H':Hp}{κ:Tag}{S:Addr}{rs:List RwS} (s:Same H H') (h:StW H κ S rs):StW H' κ S rs:=⟨s _ _ h.top,fun r hr=>(h.row r hr).same s,h.kS,h.kR⟩
theorem PrW.same {H H':Hp}{κ:Tag}{P:Addr}{pt:List Addr}{ps:List (Str×Str)} (s:Same H H') (h:PrW H κ P pt ps):PrW H' κ P pt ps:=⟨s _ _ h.pr,h.pp.same s,h.kP,h.kQ⟩
theorem Zbp {H:Hp}{a b:Addr} (ha:H a=none) (hb:∃ o,H b=some o):b≠a:=fun z=>by obtain ⟨o,e⟩:=hb;rw [z,ha] at e;cases e
theorem StW.tag {H:Hp}{κ:Tag}{S a:Addr}{g:Nat×Nat}{rs:List RwS} (ha:H a=none) (h:StW H κ S rs):StW H (setK κ a g) S rs:=by
 refine ⟨h.top,h.row,by rw [ZaV (Zbp ha ⟨_,h.top⟩)];exact h.kS,fun i r hr=>?_⟩;have R:=h.row r (Xah hr);obtain ⟨k1,k2,k3,k4⟩:=h.kR i r hr;exact ⟨by rw [ZaV (Zbp ha ⟨_,R.tg⟩)];exact k1,by rw [ZaV (Zbp ha ⟨_,R.te⟩)];exact k2,k3,fun t ht=>by rw [ZaV (Zbp ha (R.gt.some ht))];exact k4 t ht⟩
theorem PrW.tag {H:Hp}{κ:Tag}{P a:Addr}{g:Nat×Nat}{pt:List Addr}{ps:List (Str×Str)} (ha:H a=none) (h:PrW H κ P pt ps):PrW H (setK κ a g) P pt ps :=
 ⟨h.pr,h.pp,by rw [ZaV (Zbp ha ⟨_,h.pr⟩)];exact h.kP,fun t ht=>by rw [ZaV (Zbp ha (h.pp.some ht))];exact h.kQ t ht⟩
theorem PrW.upd {H:Hp}{κ:Tag}{P x:Addr}{o:HO}{pt:List Addr}{ps:List (Str×Str)} (h:PrW H κ P pt ps) (n1:κ x≠(1,0)) (n2:κ x≠(5,0)):PrW (upd H x o) κ P pt ps :=
 ⟨by rw [Zaf (ZbP h.kP rfl (Ne.symm n1))];exact h.pr,h.pp.upd fun t ht=>ZbP (h.kQ t ht) rfl (Ne.symm n2),h.kP,h.kQ⟩
theorem StW.upd {H:Hp}{κ:Tag}{S x:Addr}{ys zs:List V}{rs:List RwS} (hx:H x=some (.lst ys)) (h:StW H κ S rs) (n0:κ x≠(0,0)) (n2:∀ i,κ x≠(2,i)) (n3:∀ i,κ x≠(3,i)) (n4:∀ i,κ x≠(4,i)):StW (upd H x (.lst zs)) κ S rs:=by
 refine ⟨by rw [Zaf (ZbP h.kS rfl (Ne.symm n0))];exact h.top,fun r hr=>?_,h.kS,h.kR⟩;obtain ⟨i,hi⟩:=List.getElem?_of_mem hr;obtain ⟨k1,k2,k3,k4⟩:=h.kR i r hi;exact (h.row r hr).upd hx (ZbP k1 rfl (Ne.symm (n2 i))) (ZbP k2 rfl (Ne.symm (n3 i))) fun t ht=>ZbP (k4 t ht) rfl (Ne.symm (n4 i))
theorem PrW.put {H:Hp}{κ:Tag}{P:Addr}{pt pt':List Addr}{ps ps':List (Str×Str)} (h:PrW H κ P pt ps) (w:Wds H pt' (ps'.map wG)) (k:∀ t∈pt',κ t=(5,0)):PrW (L2.upd H P (.lst (pt'.map V.ref))) κ P pt' ps' :=
 ⟨Zac,w.upd fun t ht=>ZbP (k t ht) h.kP (by decide),h.kP,k⟩
theorem Zd1 {α:Type}{rs:List α}{i j:Nat}{r' x:α} (hi:i<rs.length) (hx:(rs.set i r')[j]?=some x):(j=i∧x=r')∨(j≠i∧rs[j]?=some x):=by
 by_cases e:i=j
 · subst e
   rw [List.getElem?_set_self hi] at hx;exact .inl ⟨rfl,(Xa8 hx).symm⟩
 · rw [List.getElem?_set_ne e] at hx
   exact .inr ⟨fun z=>e z.symm,hx⟩
theorem Zix {α β:Type}{f:α→β}{rs:List α}{i:Nat}{r r':α} (hi:rs[i]?=some r) (h:f r'=f r):(rs.set i r').map f=rs.map f:=by
 rw [List.map_set,h];refine List.ext_getElem? fun n=>?_
 by_cases e:i=n
 · subst e
   obtain ⟨hl,e⟩:=Xae.mp hi;rw [List.getElem?_set_self (by simpa using hl),Xag,hi];rfl
 · rw [List.getElem?_set_ne e]
theorem StW.put {H:Hp}{κ:Tag}{S x:Addr}{rs:List RwS}{i:Nat}{r r':RwS}{ys zs:List V} (h:StW H κ S rs) (hi:rs[i]?=some r) (hx:H x=some (.lst ys)) (kx:κ x=(2,i)∨κ x=(3,i)∨κ x=(4,i)) (hu:r'.u=r.u) (hG:r'.G=r.G) (hE:r'.E=r.E) (hn:r'.T.Nodup) (hk:∀ t∈r'.T,κ t=(4,i))
 (hr:RowW (L2.upd H x (.lst zs)) r'):StW (L2.upd H x (.lst zs)) κ S (rs.set i r'):=by
 have hl:=(Xae.mp hi).1;obtain ⟨k1,k2,_,_⟩:=h.kR i r hi
 have far:∀ (j:Nat) (y:RwS),j≠i→rs[j]?=some y→RowW (L2.upd H x (.lst zs)) y:=fun j y hj hy=>by
  obtain ⟨m1,m2,m3,m4⟩:=h.kR j y hy
  have nn:∀ (a:Addr) (n:Nat),κ a=(n,j)→a≠x:=fun a n ha=>by
   rcases kx with e | e | e <;> exact ZbP ha e fun z=>hj (Xbf Prod.snd z)
  exact (h.row y (Xah hy)).upd hx (nn _ 2 m1) (nn _ 3 m2) fun t ht=>nn t 4 (m4 t ht)
 refine ⟨?_,fun y hy=>?_,h.kS,fun j y hy=>?_⟩
 · rw [Zaf (by rcases kx with e | e | e <;> exact ZbP h.kS e ((fun z=>by cases z))),Zix hi (by rw [hu])];exact h.top
 · obtain ⟨j,hj⟩:=List.getElem?_of_mem hy
   rcases Zd1 hl hj with ⟨_,e⟩ | ⟨n,e⟩
   · rw [e];exact hr
   · exact far j y n e
 · rcases Zd1 hl hy with ⟨e1,e⟩ | ⟨_,e⟩
   · rw [e,e1,hG,hE];exact ⟨k1,k2,hn,hk⟩
   · exact h.kR j y e
theorem StW.putG {H:Hp}{κ:Tag}{S:Addr}{rs:List RwS}{i:Nat}{r:RwS}{T':List Addr}{gs':List (Str×Str)} (h:StW H κ S rs) (hi:rs[i]?=some r) (w:Wds H T' (gs'.map wG)) (hn:T'.Nodup) (hk:∀ t∈T',κ t=(4,i)):StW (L2.upd H r.G (.lst (T'.map V.ref))) κ S (rs.set i ⟨r.u,r.G,r.E,T',(gs',r.s.2)⟩):=by
 have R:=h.row r (Xah hi);obtain ⟨k1,k2,_,_⟩:=h.kR i r hi
 refine h.put hi R.tg (.inl k1) rfl rfl rfl hn hk ⟨by rw [Zaf (ZfI R.tu R.tg fun z=>nomatch z)];exact R.tu,Zac,w.upd fun t ht=>ZbP (hk t ht) k1 (fun z=>by cases z),by rw [Zaf (ZbP k2 k1 (fun z=>by cases z))];exact R.te⟩
theorem StW.putE {H:Hp}{κ:Tag}{S:Addr}{rs:List RwS}{i:Nat}{r:RwS}{es':List Str} (h:StW H κ S rs) (hi:rs[i]?=some r):StW (L2.upd H r.E (.lst (es'.map V.str))) κ S (rs.set i ⟨r.u,r.G,r.E,r.T,(r.s.1,es')⟩):=by
 have R:=h.row r (Xah hi);obtain ⟨k1,k2,k3,k4⟩:=h.kR i r hi
 refine h.put hi R.te (.inr (.inl k2)) rfl rfl rfl k3 k4 ⟨by rw [Zaf (ZfI R.tu R.te fun z=>nomatch z)];exact R.tu,by rw [Zaf (ZbP k1 k2 (fun z=>by cases z))];exact R.tg,R.gt.upd fun t ht=>ZbP (k4 t ht) k2 (fun z=>by cases z),Zac⟩
theorem StW.putT {H:Hp}{κ:Tag}{S t:Addr}{rs:List RwS}{i j:Nat}{r:RwS}{p:Str×Str} (h:StW H κ S rs) (hi:rs[i]?=some r) (ht:r.T[j]?=some t):StW (L2.upd H t (.lst [.str p.1,.str p.2])) κ S (rs.set i ⟨r.u,r.G,r.E,r.T,(r.s.1.set j p,r.s.2)⟩):=by
 have R:=h.row r (Xah hi);obtain ⟨k1,k2,k3,k4⟩:=h.kR i r hi
 have hl:j<r.s.1.length:=by
  have:=R.gt.len
  rw [Xaa] at this;rw [←this];exact (Xae.mp ht).1
 have kt:=k4 t (Xah ht);have et:=R.gt.at_ j t _ ht (by rw [Xag,Xab hl];rfl)
 refine h.put hi et (.inr (.inr kt)) rfl rfl rfl k3 k4 ⟨by rw [Zaf (ZfI R.tu et fun z=>nomatch z)];exact R.tu,by rw [Zaf (ZbP k1 kt (fun z=>by cases z))];exact R.tg,⟨?_,fun n v q h1 h2=>?_⟩,by rw [Zaf (ZbP k2 kt (fun z=>by cases z))];exact R.te⟩
 · show r.T.length=((r.s.1.set j p).map wG).length
   rw [Xaa,XaD,R.gt.len,Xaa]
 · have h1:r.T[n]?=some v:=h1
   have h2:((r.s.1.set j p).map wG)[n]?=some q:=h2;rw [Xag] at h2;obtain ⟨g,hg,rfl⟩:=XaR.mp h2
   rcases Zd1 hl hg with ⟨e1,e2⟩ | ⟨e1,e2⟩
   · subst e1 e2
     rw [ht] at h1;cases h1;exact Zac
   · have nv:v≠t:=fun z=>by
      subst z;have a1:=(Xae.mp h1).1;exact e1 ((List.getElem?_inj a1 k3).mp (h1.trans ht.symm))
     rw [Zaf nv];exact R.gt.at_ n v _ h1 (by rw [Xag,e2];rfl)
theorem StW.add {H:Hp}{κ:Tag}{S:Addr}{rs:List RwS}{r:RwS} (h:StW H κ S rs) (R:RowW H r) (k1:κ r.G=(2,rs.length)) (k2:κ r.E=(3,rs.length)) (k3:r.T.Nodup) (k4:∀ t∈r.T,κ t=(4,rs.length)):StW (L2.upd H S (.lst ((rs.map fun r=>V.ref r.u)++[.ref r.u]))) κ S (rs++[r]):=by
 have all : ∀ (j : Nat) (y : RwS), (rs ++ [r])[j]? = some y → κ y.G = (2, j) ∧ κ y.E = (3, j) ∧ y.T.Nodup ∧ ∀ t ∈ y.T, κ t = (4, j) := fun j y hy => by
  rcases Nat.lt_or_ge j rs.length with hj | hj
  · rw [Xat hj] at hy;exact h.kR j y hy
  · rw [Xay hj] at hy
    cases m:j - rs.length with
    | zero =>
      rw [m] at hy;cases hy
      have e:j=rs.length:=by omega
      rw [e];exact ⟨k1,k2,k3,k4⟩
    | succ m'=>rw [m] at hy;simp at hy
 refine ⟨by rw [Zac,Xad];rfl,fun y hy=>?_,h.kS,all⟩;obtain ⟨j,hj⟩:=List.getElem?_of_mem hy;obtain ⟨m1,m2,m3,m4⟩:=all j y hj
 have RY:RowW H y:=by
  rcases Xaf.mp hy with z | z
  · exact h.row y z
  · rw [Xaj.mp z];exact R
 exact RY.upd h.top (ZbP m1 h.kS (fun z=>by cases z)) (ZbP m2 h.kS (fun z=>by cases z)) fun t ht=>ZbP (m4 t ht) h.kS (fun z=>by cases z)
abbrev wsOf (rs:List RwS):List WSt:=rs.map (·.s)
def ModK (κ:Tag) (H H':Hp):Prop:=∀ b o,H b=some o→κ b=(9,9)→H' b=some o
theorem ModK.upd {κ:Tag}{H:Hp}{x:Addr}{o:HO} (hx:κ x≠(9,9)):ModK κ H (L2.upd H x o):=fun b o' h hb=>by rw [Zaf fun z=>hx (by rw [←z];exact hb)];exact h
def ExtK (H:Hp) (κ κ':Tag):Prop:=∀ b o,H b=some o→κ' b=κ b
theorem ExtK.refl {H:Hp}{κ:Tag}:ExtK H κ κ:=fun _ _ _=>rfl
theorem ExtK.set {H:Hp}{κ:Tag}{a:Addr}{g:Nat×Nat} (h:H a=none):ExtK H κ (setK κ a g):=fun b o e=>ZaV (Zbp h ⟨o,e⟩)
def dueL:List Str:=["text", "great", "name", "place", "twice", "ring"]
def Zcz (ds:List Str):Str:=(dueL.find? fun d=>decide (d∈ds)).getD "made"
theorem Zg6 {ds:List Str}:∀ {l:List Str}{i:Nat}{x:Str},(∀ d∈l.take i,d ∉ ds)→l[i]?=some x→x∈ds→l.find? (fun d=>decide (d∈ds))=some x
 | [],_,_,_,h,_=>by simp at h
 | a :: l,0,x,_,h,hx=>by cases h;rw [XaP,Xa1 hx]
 | a :: l,i+1,x,hn,h,hx=>by
   rw [XaP,Xa2 (hn a (by simp))];exact Zg6 (fun d hd=>hn d (by rw [List.take_succ_cons];exact Xap _ hd)) (by simpa using h) hx
def wS (s:WSt):List Str:=btw "," (s.1.map wG)++[(":" : Str)]++s.2
def wT (ss:List WSt) (n:Str) (ps:List (Str×Str)):List Str:=btw "/" (ss.map wS)++[("|" : Str),n, "|"]++btw "," (ps.map wG)
theorem Ziy {gs:List (Str×Str)}:(btw "," (gs.map wG)).length≤gs.length * 3:=by
 have:=Zgb (sg := ",") (m:=2) (gs:=gs.map wG) fun g hg=>by
  obtain ⟨q,_,rfl⟩:=Xai.mp hg;exact XaS _
 rwa [Xaa] at this
theorem wS_len {s:WSt} (h1:s.1.length≤14) (h2:s.2.length≤18):(wS s).length≤61:=by
 unfold wS;rw [Xac,Xac,Xau]
 have:=Ziy (gs:=s.1)
 omega
theorem ZhJ {ss:List WSt} (h:∀ s∈ss,s.1.length≤14∧s.2.length≤18):(btw "/" (ss.map wS)).length≤ss.length * 62:=by
 have:=Zgb (sg := "/") (m:=61) (gs:=ss.map wS) fun g hg=>by
  obtain ⟨s,hs,rfl⟩:=Xai.mp hg;exact wS_len (h s hs).1 (h s hs).2
 rwa [Xaa] at this
theorem wT_len {ss:List WSt}{n:Str}{ps:List (Str×Str)} (h:∀ s∈ss,s.1.length≤14∧s.2.length≤18) (h1:ss.length≤9) (h2:ps.length≤60):(wT ss n ps).length≤741:=by
 unfold wT;rw [Xac,Xac]
 have:=ZhJ h
 have:=Ziy (gs:=ps)
 show _+3+_≤_;omega
theorem Wds.dts {K:XFg}{H:Hp}:∀ {us:List Addr}{ws:List (List Str)},Wds H us ws→IsDts K H (us.map V.ref) (ws.map fun g=>Dt.lst (g.map Dt.str))
 | [],[],_=>.nil
 | [],_ :: _,h=>by have:=h.len;simp at this
 | _ :: _,[],h=>by have:=h.len;simp at this
 | u :: us,g :: ws,h=>by
   have hk:Wds H us ws:=⟨by have:=h.len;simpa using this,fun n t q h1 h2=>h.at_ (n+1) t q (by simpa using h1) (by simpa using h2)⟩;exact .cons (.lst (SqL.of (h.at_ 0 u g rfl rfl)) (IsDts.strs _)) hk.dts
theorem Zew {rs:List RwS} (h0:rs≠[]) (x:Int):∃ (i:Nat) (r:RwS),x % (rs.length:Int)=(i:Int)∧rs[i]?=some r:=by
 have hl:0<rs.length:=List.length_pos_iff.mpr h0;have a:=XaY x (show (rs.length:Int)≠0 by omega);have b:=XaX x (show (0:Int)<rs.length by omega)
 have hk:(x % (rs.length:Int)).toNat<rs.length:=by omega
 exact ⟨(x % (rs.length:Int)).toNat,rs[(x % (rs.length:Int)).toNat],by omega,Xab hk⟩
theorem ZcU {rs:List RwS}{i:Nat}{r:RwS} (h:rs[i]?=some r):atI (rs.map fun r=>V.ref r.u) (i:Int)=some (.ref r.u):=Zbw (by rw [Xag,h];rfl)
structure ThenW (H H':Hp) (κ κ':Tag) (S P:Addr) (rs':List RwS) (pt':List Addr) (ps':List (Str×Str)):Prop where
 st:StW H' κ' S rs'
 pr:PrW H' κ' P pt' ps'
 ex:ExtK H κ κ'
 md:ModK κ H H'
 fr:∀ b,H' b=none→H b=none
theorem Zdl {rs:List RwS}{i:Nat}{r:RwS}:wsOf (rs.set i r)=(wsOf rs).set i r.s:=List.map_set ..
structure NewL (H0 H:Hp) (D:Addr) (κ κ':Tag) (g:Nat×Nat) (ts:List Addr) (ws:List (List Str)):Prop where
 sm:Same H0 H
 eD:H D=some (.lst (ts.map V.ref))
 wd:Wds H ts ws
 nd:ts.Nodup
 fr:∀ t∈ts,H0 t=none∧t≠D∧κ' t=g
 ex:ExtK H0 κ κ'
theorem NewL.nil {H0:Hp}{D:Addr}{κ:Tag}{g:Nat×Nat} (hD:H0 D=none):NewL H0 (upd H0 D (.lst [])) D κ κ g [] []:=⟨Zaj hD,Zac,Wds.nil,List.nodup_nil,fun t ht=>(by cases ht),ExtK.refl⟩
theorem NewL.step {H0 H:Hp}{D t:Addr}{κ κ':Tag}{g:Nat×Nat}{ts:List Addr}{ws:List (List Str)} {w:List Str} (hD:H0 D=none) (h:NewL H0 H D κ κ' g ts ws) (ht:H t=none):NewL H0 (upd (upd H t (.lst (w.map V.str))) D (.lst (ts.map V.ref++[V.ref t]))) D κ (setK κ' t g) g (ts++[t]) (ws++[w]):=by
 have ntD:t≠D:=fun z=>by rw [z,h.eD] at ht;cases ht
 have s1:=Zaj (o:=.lst (w.map V.str)) ht
 have fr:∀ x∈ts++[t],H0 x=none∧x≠D∧setK κ' t g x=g:=fun x hx=>by
  rcases Xaf.mp hx with z | z
  · obtain ⟨a,b,c⟩:=h.fr x z
    exact ⟨a,b,by rw [ZaV (Zbp ht (h.wd.some z))];exact c⟩
  · rw [Xaj.mp z];exact ⟨h.sm.free ht,ntD,ZbW⟩
 refine ⟨fun b o e=>?_,by rw [Zac,Xad];rfl,((h.wd.same s1).snoc Zac).upd fun x hx=>(fr x hx).2.1,Zb7 h.nd (fun hm=>by obtain ⟨o,eo⟩:=h.wd.some hm;rw [ht] at eo;cases eo),fr,fun b o e=>?_⟩
 · rw [Zaf (Zag e hD)];exact s1 _ _ (h.sm _ _ e)
 · rw [ZaV (Zbp ht ⟨o,h.sm _ _ e⟩)];exact h.ex b o e
structure NewR (H0 H:Hp) (D:Addr) (κ κ':Tag) (n:Nat) (rn:List RwS):Prop where
 sm:Same H0 H
 eD:H D=some (.lst (rn.map fun r=>V.ref r.u))
 row:∀ r∈rn,RowW H r∧r.T=[]∧r.s=([],[])∧r.G≠D∧r.E≠D
 kR:∀ (i:Nat) (r:RwS),rn[i]?=some r→κ' r.G=(2,n+i)∧κ' r.E=(3,n+i)
 ex:ExtK H0 κ κ'
theorem NewR.nil {H0:Hp}{D:Addr}{κ:Tag}{n:Nat} (hD:H0 D=none):NewR H0 (upd H0 D (.lst [])) D κ κ n []:=⟨Zaj hD,Zac,fun r hr=>(by cases hr),fun i r h=>(by simp at h),ExtK.refl⟩
theorem NewR.step {H0 H H1:Hp}{D u G E:Addr}{κ κ':Tag}{n:Nat}{rn:List RwS} (hD:H0 D=none) (h:NewR H0 H D κ κ' n rn) (hG:H G=none) (hE:H E=none) (nGE:G≠E) (s:Same H H1) (eu:H1 u=some (.tup [.ref G,.ref E])) (eG:H1 G=some (.lst [])) (eE:H1 E=some (.lst [])) :
 NewR H0 (upd H1 D (.lst ((rn.map fun r=>V.ref r.u)++[V.ref u]))) D κ (setK (setK κ' G (2,n+rn.length)) E (3,n+rn.length)) n (rn++[⟨u,G,E,[],([],[])⟩]):=by
 have nGD:G≠D:=fun z=>by rw [z,h.eD] at hG;cases hG
 have nED:E≠D:=fun z=>by rw [z,h.eD] at hE;cases hE
 have eD1:=s _ _ h.eD;refine ⟨fun b o e=>?_,by rw [Zac,Xad];rfl,fun r hr=>?_,fun i r hr=>?_,fun b o e=>?_⟩
 · rw [Zaf (Zag e hD)];exact s _ _ (h.sm _ _ e)
 · rcases Xaf.mp hr with z | z
   · obtain ⟨R,e1,e2,n1,n2⟩:=h.row r z
     exact ⟨(R.same s).upd eD1 n1 n2 fun t ht=>(by rw [e1] at ht;cases ht),e1,e2,n1,n2⟩
   · rw [Xaj.mp z]
     refine ⟨RowW.upd eD1 ⟨eu,eG,Wds.nil,eE⟩ nGD nED fun t ht=>(by cases ht),rfl,rfl,nGD,nED⟩
 · rcases Nat.lt_or_ge i rn.length with hj | hj
   · rw [Xat hj] at hr
     obtain ⟨R,_⟩:=h.row r (Xah hr);obtain ⟨k1,k2⟩:=h.kR i r hr;exact ⟨by rw [ZaV (Zbp hE ⟨_,R.tg⟩),ZaV (Zbp hG ⟨_,R.tg⟩)];exact k1,by rw [ZaV (Zbp hE ⟨_,R.te⟩),ZaV (Zbp hG ⟨_,R.te⟩)];exact k2⟩
   · rw [Xay hj] at hr
     cases m:i - rn.length with
     | zero =>
       rw [m] at hr;cases hr
       have e:i=rn.length:=by omega
       rw [e];exact ⟨by rw [ZaV nGE,ZbW],ZbW⟩
     | succ m'=>rw [m] at hr;simp at hr
 · have eb:=h.sm _ _ e
   rw [ZaV (Zbp hE ⟨o,eb⟩),ZaV (Zbp hG ⟨o,eb⟩)];exact h.ex b o e
theorem StW.ext {H:Hp}{κ κ':Tag}{S:Addr}{rs:List RwS} (h:StW H κ S rs) (x:ExtK H κ κ'):StW H κ' S rs :=
 ⟨h.top,h.row,(x _ _ h.top).trans h.kS,fun i r hr=>by
  have R:=h.row r (Xah hr);obtain ⟨k1,k2,k3,k4⟩:=h.kR i r hr
  exact ⟨(x _ _ R.tg).trans k1,(x _ _ R.te).trans k2,k3,fun t ht=>by obtain ⟨o,e⟩:=R.gt.some ht;exact (x _ _ e).trans (k4 t ht)⟩⟩
theorem PrW.ext {H:Hp}{κ κ':Tag}{P:Addr}{pt:List Addr}{ps:List (Str×Str)} (h:PrW H κ P pt ps) (x:ExtK H κ κ'):PrW H κ' P pt ps :=
 ⟨h.pr,h.pp,(x _ _ h.pr).trans h.kP,fun t ht=>by obtain ⟨o,e⟩:=h.pp.some ht;exact (x _ _ e).trans (h.kQ t ht)⟩
theorem StW.adds {H:Hp}{κ:Tag}{S:Addr}{rs rn:List RwS} (h:StW H κ S rs) (R:∀ r∈rn,RowW H r∧r.T=[]) (k:∀ (i:Nat) (r:RwS),rn[i]?=some r→κ r.G=(2,rs.length+i)∧κ r.E=(3,rs.length+i)):StW (L2.upd H S (.lst ((rs.map fun r=>V.ref r.u)++rn.map fun r=>V.ref r.u))) κ S (rs++rn):=by
 have all:∀ (j:Nat) (y:RwS),(rs++rn)[j]?=some y→κ y.G=(2,j)∧κ y.E=(3,j)∧y.T.Nodup∧∀ t∈y.T,κ t=(4,j):=fun j y hy=>by
  rcases Nat.lt_or_ge j rs.length with hj | hj
  · rw [Xat hj] at hy;exact h.kR j y hy
  · rw [Xay hj] at hy
    have e:rs.length+(j - rs.length)=j:=by omega
    obtain ⟨k1,k2⟩:=k _ _ hy;rw [e] at k1 k2;have eT:=(R y (Xah hy)).2;exact ⟨k1,k2,by rw [eT];exact List.nodup_nil,fun t ht=>(by rw [eT] at ht;cases ht)⟩
 refine ⟨by rw [Zac,Xad],fun y hy=>?_,h.kS,all⟩;obtain ⟨j,hj⟩:=List.getElem?_of_mem hy;obtain ⟨m1,m2,m3,m4⟩:=all j y hj
 have RY:RowW H y:=by
  rcases Xaf.mp hy with z | z
  · exact h.row y z
  · exact (R y z).1
 exact RY.upd h.top (ZbP m1 h.kS (fun z=>by cases z)) (ZbP m2 h.kS (fun z=>by cases z)) fun t ht=>ZbP (m4 t ht) h.kS (fun z=>by cases z)
theorem Wds.app {H:Hp}{us vs:List Addr}{ws zs:List (List Str)} (h:Wds H us ws) (k:Wds H vs zs):Wds H (us++vs) (ws++zs):=by
 refine ⟨by rw [Xac,Xac,h.len,k.len],fun n u g h1 h2=>?_⟩
 rcases Nat.lt_or_ge n us.length with hlt | hge
 · rw [Xat hlt] at h1
   rw [Xat (by rw [←h.len];exact hlt)] at h2;exact h.at_ n u g h1 h2
 · rw [Xay hge] at h1
   rw [Xay (by rw [←h.len];exact hge),←h.len] at h2;exact k.at_ _ u g h1 h2
structure OkN (x:Str):Prop where
 sg:x ∉ sgL
 bl:32 ∉ x.cps.toList
 le:x.length≤9
theorem OkN.a {x:Str} (h:OkN x):x ≠ "/" := fun z=>h.sg (by rw [z];simp [sgL])
theorem OkN.b {x:Str} (h:OkN x):x ≠ "|" := fun z=>h.sg (by rw [z];simp [sgL])
theorem OkN.c {x:Str} (h:OkN x):x ≠ "," := fun z=>h.sg (by rw [z];simp [sgL])
theorem OkN.d {x:Str} (h:OkN x):x ≠ ":" := fun z=>h.sg (by rw [z];simp [sgL])
structure GoodS (s:WSt):Prop where
 g:∀ g∈s.1,OkN g.1∧OkN g.2
 e:∀ x∈s.2,OkN x
structure GoodT (ss:List WSt) (n:Str) (ps:List (Str×Str)):Prop where
 ne:ss≠[]
 s:∀ s∈ss,GoodS s
 n:OkN n
 p:∀ p∈ps,OkN p.1∧OkN p.2
theorem Ziz {gs:List (Str×Str)} (h:∀ g∈gs,OkN g.1∧OkN g.2) {x:Str} {w:List Str} (hw:w∈gs.map wG) (hx:x∈w):OkN x:=by
 obtain ⟨g,hg,rfl⟩:=Xai.mp hw;unfold wG at hx
 rcases Xam.mp hx with e | hx
 · rw [e];exact (h g hg).1
 · rw [Xaj.mp hx];exact (h g hg).2
theorem sgs_ne:("/" : Str) ≠ "|" ∧ ("/" : Str) ≠ "," ∧ ("/" : Str) ≠ ":" ∧ ("|" : Str) ≠ "," ∧ ("|" : Str) ≠ ":" ∧ ("," : Str) ≠ ":" := by decide +kernel
theorem Zg7 {gs:List (Str×Str)} (h:∀ g∈gs,OkN g.1∧OkN g.2) {x:Str} (hx:x∈btw "," (gs.map wG)):OkN x∨x = "," := by
 rcases ZhF hx with e | ⟨w,hw,hx⟩
 · exact .inr e
 · exact .inl (Ziz h hw hx)
theorem Zke {s:WSt} (h:GoodS s) {x:Str} (hx:x∈wS s):OkN x∨x = "," ∨ x = ":" := by
 unfold wS at hx
 rcases Xaf.mp hx with hx | hx
 · rcases Xaf.mp hx with hx | hx
   · rcases Zg7 h.g hx with z | z
     · exact .inl z
     · exact .inr (.inl z)
   · exact .inr (.inr (Xaj.mp hx))
 · exact .inl (h.e x hx)
theorem bS_mem {ss:List WSt} (h:∀ s∈ss,GoodS s) {x:Str} (hx:x∈btw "/" (ss.map wS)):OkN x∨x = "," ∨ x = ":" ∨ x = "/" := by
 rcases ZhF hx with e | ⟨w,hw,hx⟩
 · exact .inr (.inr (.inr e))
 · obtain ⟨s,hs,rfl⟩:=Xai.mp hw
   rcases Zke (h s hs) hx with z | z | z
   · exact .inl z
   · exact .inr (.inl z)
   · exact .inr (.inr (.inl z))
theorem Zkf {ss:List WSt}{n:Str}{ps:List (Str×Str)} (h:GoodT ss n ps) {x:Str} (hx:x∈wT ss n ps):32 ∉ x.cps.toList∧x.length≤9:=by
 have sg:∀ y∈sgL,32 ∉ y.cps.toList∧y.length≤9:=by decide +kernel
 have key : OkN x ∨ x ∈ sgL := by
  unfold wT at hx
  rcases Xaf.mp hx with hx | hx
  · rcases Xaf.mp hx with hx | hx
    · rcases bS_mem h.s hx with z | z | z | z
      · exact .inl z
      · exact .inr (by rw [z];simp [sgL])
      · exact .inr (by rw [z];simp [sgL])
      · exact .inr (by rw [z];simp [sgL])
    · simp only [Xam,List.not_mem_nil,or_false] at hx
      rcases hx with e | e | e
      · exact .inr (by rw [e];simp [sgL])
      · exact .inl (by rw [e];exact h.n)
      · exact .inr (by rw [e];simp [sgL])
  · rcases Zg7 h.p hx with z | z
    · exact .inl z
    · exact .inr (by rw [z];simp [sgL])
 rcases key with k | k
 · exact ⟨k.bl,k.le⟩
 · exact sg x k
theorem Zk2 {sg:Str}{acc gs:List (List Str)} {w:Str} (h:gs≠[]):prtS sg (acc++gs) w=acc++prtS sg gs w:=by
 obtain ⟨a,x,rfl⟩:∃ a x,gs=a++[x]:=⟨gs.dropLast,gs.getLast h,(List.dropLast_concat_getLast h).symm⟩;unfold prtS
 split
 · rw [XaE]
 · rw [←XaE];simp
theorem ZiA {sg:Str}{acc:List (List Str)}:∀ (ws:List Str) (gs:List (List Str)),gs≠[]→ws.foldl (prtS sg) (acc++gs)=acc++ws.foldl (prtS sg) gs
 | [],_,_=>rfl
 | w :: ws,gs,h=>by
   rw [List.foldl_cons,List.foldl_cons,Zk2 h]
   exact ZiA ws _ (by unfold prtS;split <;> simp)
theorem ZcV {sg:Str} (xs ys:List Str):prt sg (xs++sg :: ys)=prt sg xs++prt sg ys:=by
 unfold prt;rw [XaQ,List.foldl_cons]
 have e:prtS sg (xs.foldl (prtS sg) [[]]) sg=xs.foldl (prtS sg) [[]]++[[]]:=by unfold prtS;rw [Xba rfl]
 rw [e];exact ZiA ys [[]] (by simp)
theorem ZcN {sg:Str}{xs:List Str} (h:sg ∉ xs):prt sg xs=[xs]:=by
 have:=Zg4 (acc:=[]) (h:=[]) h
 simpa [prt] using this
theorem Zgf {sg:Str}{xs z h:List Str}{acc:List (List Str)} (hz:sg ∉ z) (e:prt sg xs=acc++[h]):prt sg (xs++z)=acc++[h++z]:=by
 unfold prt at e ⊢;rw [XaQ,e];exact Zg4 hz
theorem prt_G {gs:List (Str×Str)} (h:∀ g∈gs,OkN g.1∧OkN g.2) (hn:gs≠[]):prt "," (btw "," (gs.map wG))=gs.map wG :=
 Zgc (by simpa using hn) fun _ hg hx=>(Ziz h hg hx).c rfl
theorem Zkg {gs:List (Str×Str)} (h:∀ g∈gs,OkN g.1∧OkN g.2):Zcl (btw "," (gs.map wG))=gs.map wG:=by
 unfold Zcl
 by_cases hn:gs=[]
 · subst hn;rfl
 · rw [Xa9 fun z=>hn ?_,prt_G h hn]
   have:=ZhG (sg := ",") (gs:=gs.map wG) (fun g hg=>by obtain ⟨p,_,rfl⟩:=Xai.mp hg;intro z;cases z) z
   simpa using this
theorem prt_S {s:WSt} (h:GoodS s):prt ":" (wS s)=[btw "," (s.1.map wG),s.2]:=by
 have e:wS s=btw "," (s.1.map wG)++(":" : Str) :: s.2:=by unfold wS;rw [XaE];rfl
 rw [e,ZcV,ZcN,ZcN]
 · rfl
 · exact fun hx=>(h.e _ hx).d rfl
 · intro hx
   rcases Zg7 h.g hx with z | z
   · exact z.d rfl
   · exact sgs_ne.2.2.2.2.2 z.symm
theorem Zkh {ss:List WSt} (hn:ss≠[]) (h:∀ s∈ss,GoodS s):prt "/" (btw "/" (ss.map wS))=ss.map wS :=
 Zgc (by simpa using hn) fun g hg hx=>by
  obtain ⟨s,hs,rfl⟩:=Xai.mp hg
  rcases Zke (h s hs) hx with z | z | z
  · exact z.a rfl
  · exact sgs_ne.2.1 z
  · exact sgs_ne.2.2.1 z
theorem Zi5 {ss:List WSt} (h:∀ s∈ss,GoodS s):("|" : Str) ∉ btw "/" (ss.map wS):=fun hx=>by
 rcases bS_mem h hx with z | z | z | z
 · exact z.b rfl
 · exact sgs_ne.2.2.2.1 z
 · exact sgs_ne.2.2.2.2.1 z
 · exact sgs_ne.1 z.symm
theorem Zki {gs:List (Str×Str)} (h:∀ g∈gs,OkN g.1∧OkN g.2):("|" : Str) ∉ btw "," (gs.map wG):=fun hx=>by
 rcases Zg7 h hx with z | z
 · exact z.b rfl
 · exact sgs_ne.2.2.2.1 z
theorem Zd2 {ss:List WSt}{n:Str}{ps:List (Str×Str)}:wT ss n ps=btw "/" (ss.map wS)++("|" : Str) :: ([n]++("|" : Str) :: btw "," (ps.map wG)):=by
 unfold wT;rw [XaE];rfl
theorem prt3 {a c:List Str}{n:Str} (ha:("|" : Str) ∉ a) (hn:n ≠ "|") (hc:("|" : Str) ∉ c):prt "|" (a++("|" : Str) :: ([n]++("|" : Str) :: c))=[a,[n],c]:=by
 rw [ZcV,ZcV,ZcN ha,ZcN hc,ZcN (by simpa using hn.symm)];rfl
theorem prt_T {ss:List WSt}{n:Str}{ps:List (Str×Str)} (h:GoodT ss n ps):prt "|" (wT ss n ps)=[btw "/" (ss.map wS),[n],btw "," (ps.map wG)]:=by
 rw [Zd2];exact prt3 (Zi5 h.s) h.n.b (Zki h.p)
noncomputable def valW (w:Str):Int:=(PySem.intText? w).getD 0
theorem Zd3 {w:Str}{n:Int} (h:Num w n):valW w=n:=by unfold valW;rw [h.2];rfl
noncomputable def conv (s:WSt):Stt:=(s.1.map fun g=>(g.1,valW g.2),s.2)
def NumT (ss:List WSt) (n:Str):Prop:=(∀ s∈ss,∀ g∈s.1,NumW g.2)∧NumW n
theorem Zkj {w:Str} (h:NumW w):Num w (valW w):=by obtain ⟨n,k⟩:=Zir h;rw [Zd3 k];exact k
theorem rd_yes {ss:List WSt}{n:Str}{ps:List (Str×Str)} (h:GoodT ss n ps) (k:NumT ss n):RdT (wT ss n ps) (ss.map conv) (valW n) ps:=by
 refine ⟨_,n,_,prt_T h,?_,Zkj k.2,Zkg h.p,fun p hp=>⟨(h.p p hp).1.sg,(h.p p hp).2.sg⟩⟩;rw [Zkh h.ne h.s];refine ⟨by rw [Xaa,Xaa],fun i x y h1 h2=>?_⟩;rw [Xag] at h1 h2;obtain ⟨s,hs,rfl⟩:=XaR.mp h1;rw [hs] at h2;cases h2;have hm:=Xah hs;exact ⟨_,s.1,prt_S (h.s s hm),Zkg (h.s s hm).g,F2.map fun g hg=>⟨((h.s s hm).g g hg).1.sg,rfl,Zkj (k.1 s hm g hg)⟩,fun x hx=>((h.s s hm).e x hx).sg⟩
theorem rd_no {ss:List WSt}{n:Str}{ps:List (Str×Str)} (h:GoodT ss n ps) (k:¬NumT ss n):¬∃ ss' n' ps',RdT (wT ss n ps) ss' n' ps':=by
 rintro ⟨ss',n',ps',a,w,b,e,f,hn,_⟩;rw [prt_T h] at e
 injection e with e1 e
 injection e with e2 e
 injection e2 with e2 _
 subst e1 e2;rw [Zkh h.ne h.s] at f;refine k ⟨fun s hs g hg=>?_,hn.1⟩;obtain ⟨y,_,a',g',e3,e4,f',_⟩:=f.left (List.mem_map_of_mem hs);rw [prt_S (h.s s hs)] at e3
 injection e3 with e3 _
 rw [←e3,Zkg (h.s s hs).g] at e4
 have:=ZfD e4
 subst this;obtain ⟨z,_,_,_,hz⟩:=f'.left hg;exact hz.1
theorem Zk3 {b:List Str} (h:∀ ps:List (Str×Str),Zcl b=ps.map wG→∃ p∈ps,¬(lab p.1∧lab p.2)) {a:List Str} {n:Str} {ws:List Str} (e:prt "|" ws=[a,[n],b]):¬∃ ss' n' ps',RdT ws ss' n' ps':=by
 rintro ⟨ss',n',ps',a',w,b',e',_,_,e4,hl⟩;rw [e] at e'
 injection e' with _ e'
 injection e' with _ e'
 injection e' with e' _
 subst e';obtain ⟨p,hp,k⟩:=h ps' e4;exact k (hl p hp)
theorem Zgg {w:List Str} (h:¬∃ s,RdSt w s) {a b:List Str} {n:Str} {ws:List Str} (hw:w∈prt "/" a) (e:prt "|" ws=[a,[n],b]):¬∃ ss' n' ps',RdT ws ss' n' ps':=by
 rintro ⟨ss',n',ps',a',_,b',e',f,_⟩;rw [e] at e'
 injection e' with e' _
 subst e';obtain ⟨y,_,r⟩:=f.left hw;exact h ⟨y,r⟩
theorem ZfE {ws:List Str} (h:ws≠[]):Zcl ws=prt "," ws:=by unfold Zcl;rw [Xa9 h]
theorem len2 {b g:List Str} (hb:b≠[]) (hg:g∈prt "," b) (hl:g.length≠2):∀ ps:List (Str×Str),Zcl b≠ps.map wG:=fun ps e=>by
 rw [ZfE hb] at e;rw [e] at hg;obtain ⟨p,_,rfl⟩:=Xai.mp hg;exact hl rfl
theorem last_G {gs:List (Str×Str)} (h:∀ g∈gs,OkN g.1∧OkN g.2):∃ acc t,prt "," (btw "," (gs.map wG))=acc++[t]∧((gs=[]∧acc=[]∧t=[])∨t.length=2):=by
 by_cases hn:gs=[]
 · subst hn;exact ⟨[],[],rfl,.inl ⟨rfl,rfl,rfl⟩⟩
 · obtain ⟨a,x,rfl⟩:∃ a x,gs=a++[x]:=⟨gs.dropLast,gs.getLast hn,(List.dropLast_concat_getLast hn).symm⟩
   exact ⟨a.map wG,wG x,by rw [prt_G h hn,Xad];rfl,.inr rfl⟩
def Zgh:List (List Str):=[["a", ":"],["a", "b", "c"],[",", "b", "/"],["/", "a"]]
def ZdA (A B ws':List Str):Prop:=ws'=(A++("|" : Str) :: B)++[(",": Str), "a"]∨ws'=("a" : Str) :: (A++("|" : Str) :: B)∨ws'=("," : Str) :: (A++("|" : Str) :: B)∨(∃ s:Str,(s = "," ∨ s = "/")∧ws'=A++s :: ("|" : Str) :: B)∨ws'=A++B∨ws'=(A++("|" : Str) :: B)++[("|" : Str)]∨∃ z∈Zgh,ws'=(A++("|" : Str) :: B)++z
theorem in_bad (x:Str) (hx:x∈([",", "a"]:List Str)):x ≠ "|" ∧ x ≠ "/" ∧ x ≠ ":" := by
 have:∀ x∈([",", "a"]:List Str),x ≠ "|" ∧ x ≠ "/" ∧ x ≠ ":" := by decide +kernel
 exact this x hx
theorem Zkk {ss:List WSt}{n:Str}{ps:List (Str×Str)} (h:GoodT ss n ps) {x:Str} (hx:x∈([",", "a"]:List Str)):¬∃ ss' n' ps',RdT (x :: wT ss n ps) ss' n' ps':=by
 obtain ⟨x1,x2,x3⟩:=in_bad x hx
 obtain ⟨s0,rest,rfl⟩:∃ s0 rest,ss=s0 :: rest:=by
  cases ss with
  | nil=>exact absurd rfl h.ne
  | cons a r=>exact ⟨a,r,rfl⟩
 have g0:=h.s s0 (by simp)
 have e1:prt "|" (x :: wT (s0 :: rest) n ps)=[x :: btw "/" ((s0 :: rest).map wS),[n],btw "," (ps.map wG)]:=by
  rw [Zd2]
  exact prt3 (a:=x :: btw "/" ((s0 :: rest).map wS)) (by
   intro z
   rcases Xam.mp z with e | z
   · exact x1 e.symm
   · exact Zi5 h.s z) h.n.b (Zki h.p)
 have e2:x :: btw "/" ((s0 :: rest).map wS)=btw "/" ((x :: wS s0) :: rest.map wS):=by
  cases rest with
  | nil=>rfl
  | cons b r=>rfl
 have e3 : x :: wS s0 ∈ prt "/" (x :: btw "/" ((s0 :: rest).map wS)) := by
  rw [e2,Zgc (by simp)]
  · simp
  · intro g hg hz
    have key:∀ s∈s0 :: rest,("/" : Str) ∉ wS s:=fun s hs hz=>by
     rcases Zke (h.s s hs) hz with z | z | z
     · exact z.a rfl
     · exact sgs_ne.2.1 z
     · exact sgs_ne.2.2.1 z
    rcases Xam.mp hg with e | hg
    · rw [e] at hz
      rcases Xam.mp hz with z | z
      · exact x2 z.symm
      · exact key s0 (by simp) z
    · obtain ⟨s,hs,rfl⟩:=Xai.mp hg
      exact key s (Xap _ hs) hz
 refine Zgg (fun ⟨s,a,g,e,e4,_⟩=>?_) e3 e1
 have e5 : prt ":" (x :: wS s0) = [x :: btw "," (s0.1.map wG), s0.2] := by
  have e:x :: wS s0=(x :: btw "," (s0.1.map wG))++(":" : Str) :: s0.2:=by unfold wS;rw [XaE];rfl
  rw [e,ZcV,ZcN,ZcN]
  · rfl
  · exact fun hx=>(g0.e _ hx).d rfl
  · intro hz
    rcases Xam.mp hz with z | z
    · exact x3 z.symm
    · rcases Zg7 g0.g z with z | z
      · exact z.d rfl
      · exact sgs_ne.2.2.2.2.2 z.symm
 rw [e5] at e
 injection e with e _
 rw [←e] at e4
 have hlen : ∃ t, t ∈ prt "," (x :: btw "," (s0.1.map wG)) ∧ t.length ≠ 2 := by
  simp only [Xam,List.not_mem_nil,or_false] at hx
  rcases hx with rfl | rfl
  · have:=ZcV (sg := ",") [] (btw "," (s0.1.map wG))
    rw [List.nil_append] at this;exact ⟨[],by rw [this];simp [prt],by decide⟩
  · cases hg : s0.1 with
    | nil=>exact ⟨["a"],by decide +kernel,by decide⟩
    | cons p r =>
      have e6:("a" : Str) :: btw "," ((p :: r).map wG)=btw "," (("a" :: wG p) :: r.map wG):=by
       cases r with
       | nil=>rfl
       | cons b r=>rfl
      refine ⟨"a" :: wG p,?_,by intro z;cases z⟩
      rw [e6,Zgc (by simp)]
      · simp
      · intro t ht hz
        rcases Xam.mp ht with e | ht
        · rw [e] at hz
          rcases Xam.mp hz with z | z
          · exact absurd z (by decide +kernel)
          · exact (Ziz g0.g (w:=wG p) (by rw [hg];simp) z).c rfl
        · exact (Ziz g0.g (w:=t) (by rw [hg];exact Xap _ ht) hz).c rfl
 obtain ⟨t,ht,hl⟩:=hlen;exact len2 (by simp) ht hl g e4
theorem Zkl {ss:List WSt}{n:Str}{ps:List (Str×Str)} (h:GoodT ss n ps) {z:List Str} (hz:z∈([",", "a"]:List Str) :: Zgh):¬∃ ss' n' ps',RdT (wT ss n ps++z) ss' n' ps':=by
 have hb:∀ z∈([",", "a"]:List Str) :: Zgh,("|" : Str) ∉ z∧z≠[]:=by decide +kernel
 obtain ⟨hb,hne⟩:=hb z hz
 have e1:prt "|" (wT ss n ps++z)=[btw "/" (ss.map wS),[n],btw "," (ps.map wG)++z]:=by
  rw [Zd2,XaE]
  exact prt3 (c:=btw "," (ps.map wG)++z) (Zi5 h.s) h.n.b (by
   intro y
   rcases Xaf.mp y with y | y
   · exact Zki h.p y
   · exact hb y)
 have ne:btw "," (ps.map wG)++z≠[]:=by simp [hne]
 refine Zk3 (fun ps' e=>?_) e1;obtain ⟨acc,t,el,ht⟩:=last_G h.p
 have cut:∀ y:List Str,("," : Str) ∉ y→z=("," : Str) :: y→y∈prt "," (btw "," (ps.map wG)++z):=fun y hy ez=>by
  rw [ez,ZcV,ZcN hy];simp
 have whole:("," : Str) ∉ z→prt "," (btw "," (ps.map wG)++z)=acc++[t++z]:=fun hc=>Zgf hc el
 have two:∀ y∈prt "," (btw "," (ps.map wG)++z),y.length≠2→∃ p∈ps',¬(lab p.1∧lab p.2):=fun y hy hl=>absurd e (len2 ne hy hl ps')
 have pair:∀ p:Str×Str,wG p∈prt "," (btw "," (ps.map wG)++z)→¬(lab p.1∧lab p.2)→∃ p∈ps',¬(lab p.1∧lab p.2):=fun p hp hl=>by
  rw [ZfE ne] at e;rw [e] at hp;obtain ⟨p',hp',e'⟩:=Xai.mp hp
  have:p'=p:=by have:=ZfD (g:=[p']) (h:=[p]) (by simpa using e');simpa using this
  exact ⟨p',hp',by rw [this];exact hl⟩
 unfold Zgh at hz;simp only [Xam,List.not_mem_nil,or_false] at hz
 rcases hz with rfl | rfl | rfl | rfl | rfl
 · exact two ["a"] (cut _ (by decide +kernel) rfl) (by decide)
 · have w:=whole (by decide +kernel)
   rcases ht with ⟨_,rfl,rfl⟩ | ht
   · exact pair ("a", ":") (by rw [w];simp [wG]) (by decide +kernel)
   · exact two (t++(["a", ":"]:List Str)) (by rw [w];simp) (by rw [Xac,ht];decide)
 · have w:=whole (by decide +kernel)
   rcases ht with ⟨_,rfl,rfl⟩ | ht
   · exact two ["a", "b", "c"] (by rw [w];simp) (by decide)
   · exact two (t++(["a", "b", "c"]:List Str)) (by rw [w];simp) (by rw [Xac,ht];decide)
 · exact pair ("b", "/") (cut ["b", "/"] (by decide +kernel) rfl) (by decide +kernel)
 · have w:=whole (by decide +kernel)
   rcases ht with ⟨_,rfl,rfl⟩ | ht
   · exact pair ("/", "a") (by rw [w];simp [wG]) (by decide +kernel)
   · exact two (t++(["/", "a"]:List Str)) (by rw [w];simp) (by rw [Xac,ht];decide)
theorem brk_no {ss:List WSt}{n:Str}{ps:List (Str×Str)} (h:GoodT ss n ps) {ws':List Str} (b:ZdA (btw "/" (ss.map wS)) ([n]++("|" : Str) :: btw "," (ps.map wG)) ws'):¬∃ ss' n' ps',RdT ws' ss' n' ps':=by
 have len3:(prt "|" ws').length≠3→¬∃ ss' n' ps',RdT ws' ss' n' ps':=fun hl ⟨_,_,_,a,w,b,e,_⟩=>hl (by rw [e];rfl)
 unfold ZdA at b;rw [←Zd2] at b
 rcases b with e | e | e | ⟨s,hs,e⟩ | e | e | ⟨z,hz,e⟩
 · rw [e];exact Zkl h (by simp)
 · rw [e];exact Zkk h (by simp)
 · rw [e];exact Zkk h (by simp)
 · have e1:∀ s:Str,s = "," ∨ s = "/" → ("|" : Str) ∉ btw "/" (ss.map wS)++[s]:=fun s hs y=>by
    rcases Xaf.mp y with y | y
    · exact Zi5 h.s y
    · have:=Xaj.mp y
      rcases hs with rfl | rfl
      · exact sgs_ne.2.2.2.1 this
      · exact sgs_ne.1 this.symm
   have e2:prt "|" ws'=[btw "/" (ss.map wS)++[s],[n],btw "," (ps.map wG)]:=by
    have:ws'=(btw "/" (ss.map wS)++[s])++("|" : Str) :: ([n]++("|" : Str) :: btw "," (ps.map wG)):=by rw [e,XaE];rfl
    rw [this];exact prt3 (e1 s hs) h.n.b (Zki h.p)
   rcases hs with rfl | rfl
   · obtain ⟨a,x,ea⟩:∃ a x,ss=a++[x]:=⟨ss.dropLast,ss.getLast h.ne,(List.dropLast_concat_getLast h.ne).symm⟩
     have gx:=h.s x (by rw [ea];simp);have ep:=Zkh h.ne h.s;rw [show ss.map wS=a.map wS++[wS x] by rw [ea,Xad];rfl] at ep
     have e3:wS x++[(",": Str)]∈prt "/" (btw "/" (ss.map wS)++[(",": Str)]):=by
      rw [show ss.map wS=a.map wS++[wS x] by rw [ea,Xad];rfl,Zgf (by simp;exact sgs_ne.2.1) ep];simp
     refine Zgg (fun ⟨s,a',g,e4,_,_,hl⟩=>?_) e3 e2
     rw [Zgf (acc:=[btw "," (x.1.map wG)]) (by simp;exact sgs_ne.2.2.2.2.2.symm) (prt_S gx)] at e4
     injection e4 with _ e4
     injection e4 with e4 _
     exact hl "," (by rw [←e4];simp) (by simp [sgL])
   · have e3:([]:List Str)∈prt "/" (btw "/" (ss.map wS)++[("/" : Str)]):=by rw [ZcV];simp [prt]
     exact Zgg (fun ⟨s,a',g,e4,_⟩=>by simp [prt] at e4) e3 e2
 · refine len3 ?_
   have:ws'=(btw "/" (ss.map wS)++[n])++("|" : Str) :: btw "," (ps.map wG):=by rw [e];simp
   rw [this,ZcV,ZcN,ZcN (Zki h.p)]
   · show (2:Nat)≠3;decide
   · intro y
     rcases Xaf.mp y with y | y
     · exact Zi5 h.s y
     · exact h.n.b (Xaj.mp y).symm
 · refine len3 ?_
   rw [e,ZcV,prt_T h];show (4:Nat)≠3;decide
 · rw [e];exact Zkl h (Xap _ hz)
def setR (κ:Tag) (r:RwS) (k:Nat):Tag:=fun x=>if x=r.G then (2,k) else if x=r.E then (3,k) else if x∈r.T then (4,k) else κ x
theorem setR_ne {κ:Tag}{r:RwS}{k:Nat}{x:Addr} (h1:x≠r.G) (h2:x≠r.E) (h3:x ∉ r.T):setR κ r k x=κ x:=by unfold setR;rw [Xa9 h1,Xa9 h2,Xa9 h3]
theorem StW.newRow {H H':Hp}{κ:Tag}{S:Addr}{rs:List RwS}{r:RwS} (h:StW H κ S rs) (hG:H r.G=none) (hE:H r.E=none) (hT:∀ t∈r.T,H t=none∧t≠r.G∧t≠r.E) (ne:r.G≠r.E) (nd:r.T.Nodup) (s:Same H H') (R:RowW H' r) :
 StW (L2.upd H' S (.lst ((rs.map fun r=>V.ref r.u)++[.ref r.u]))) (setR κ r rs.length) S (rs++[r])∧ExtK H κ (setR κ r rs.length):=by
 have ex:ExtK H κ (setR κ r rs.length):=fun b o e=>setR_ne (Zbp hG ⟨o,e⟩) (Zbp hE ⟨o,e⟩) (fun z=>by rw [(hT b z).1] at e;cases e);refine ⟨((h.ext ex).same s).add R (Xba rfl) ?_ nd (fun t ht=>?_),ex⟩
 · unfold setR;rw [Xa9 ne.symm,Xba rfl]
 · unfold setR;rw [Xa9 (hT t ht).2.1,Xa9 (hT t ht).2.2,Xba ht]
theorem PrW.keep {H H':Hp}{κ:Tag}{P:Addr}{pt:List Addr}{ps:List (Str×Str)} (h:PrW H κ P pt ps) (k:∀ b o,H b=some o→(∀ i,κ b≠(4,i))→H' b=some o):PrW H' κ P pt ps:=by
 refine ⟨k _ _ h.pr (fun i=>by rw [h.kP];intro z;cases z),⟨h.pp.len,fun n u g h1 h2=>k _ _ (h.pp.at_ n u g h1 h2) (fun i=>by rw [h.kQ u (Xah h1)];intro z;cases z)⟩,h.kP,h.kQ⟩
theorem SqL.keep {K:XFg}{H H':Hp}{a:Addr}{xs:List V} (h:SqL K H a xs) (k:∀ o,H a=some o→H' a=some o):SqL K H' a xs:=by
 rcases h with (e | ⟨u,e⟩) | e
 · exact .inl (.inl (k _ e))
 · exact .inl (.inr ⟨u,k _ e⟩)
 · exact .inr e
theorem Zkm:∀ x∈([",", "a", ":", "b", "c", "/", "|"]:List Str),32 ∉ x.cps.toList∧x.length≤9:=by decide +kernel
theorem Zkn {ss:List WSt}{n:Str}{ps:List (Str×Str)} (h:GoodT ss n ps) {ws':List Str} (b:ZdA (btw "/" (ss.map wS)) ([n]++("|" : Str) :: btw "," (ps.map wG)) ws'):(∀ x∈ws',32 ∉ x.cps.toList∧x.length≤9)∧ws'≠[]∧ws'.length≤(wT ss n ps).length+3:=by
 have sub : ∀ x ∈ ws', x ∈ wT ss n ps ∨ x ∈ ([",", "a", ":", "b", "c", "/", "|"] : List Str) := fun x hx => by
  unfold ZdA at b;rw [←Zd2] at b
  rcases b with e | e | e | ⟨s,hs,e⟩ | e | e | ⟨z,hz,e⟩ <;> rw [e] at hx
  · rcases Xaf.mp hx with y | y
    · exact .inl y
    · right;simp only [Xam,List.not_mem_nil,or_false] at y ⊢;rcases y with y | y <;> simp [y]
  · rcases Xam.mp hx with y | y
    · right;simp [y]
    · exact .inl y
  · rcases Xam.mp hx with y | y
    · right;simp [y]
    · exact .inl y
  · rcases Xaf.mp hx with y | y
    · exact .inl (by rw [Zd2];exact XaA _ y)
    · rcases Xam.mp y with y | y
      · right;rcases hs with hs | hs <;> simp [y,hs]
      · exact .inl (by rw [Zd2];exact Xan _ y)
  · rcases Xaf.mp hx with y | y
    · exact .inl (by rw [Zd2];exact XaA _ y)
    · exact .inl (by rw [Zd2];exact Xan _ (Xap _ y))
  · rcases Xaf.mp hx with y | y
    · exact .inl y
    · right;have:=Xaj.mp y;simp [this]
  · rcases Xaf.mp hx with y | y
    · exact .inl y
    · right
      have:∀ z∈Zgh,∀ x∈z,x∈([",", "a", ":", "b", "c", "/", "|"]:List Str):=by decide +kernel
      exact this z hz x y
 refine ⟨fun x hx=>?_,?_,?_⟩
 · rcases sub x hx with y | y
   · exact Zkf h y
   · exact Zkm x y
 · unfold ZdA at b
   rcases b with e | e | e | ⟨s,hs,e⟩ | e | e | ⟨z,hz,e⟩ <;> rw [e] <;> simp
 · unfold ZdA at b
   rw [←Zd2] at b
   have lt:(wT ss n ps).length=(btw "/" (ss.map wS)).length+(1+([n]++("|" : Str) :: btw "," (ps.map wG)).length):=by rw [Zd2,Xac,XaB];omega
   rcases b with e | e | e | ⟨s,hs,e⟩ | e | e | ⟨z,hz,e⟩ <;> rw [e]
   · rw [Xac];show _+2≤_;omega
   · rw [XaB];omega
   · rw [XaB];omega
   · rw [Xac,XaB,XaB];omega
   · rw [Xac];omega
   · rw [Xac];show _+1≤_;omega
   · rw [Xac]
     have:∀ z∈Zgh,z.length≤3:=by decide +kernel
     have:=this z hz
     omega
end L2
abbrev L2.SF (n:List (PySem.Str×PySem.NameKind)):PySem.Scope:={ kind:=.function,names:=n,isGenerator:=false,isCoroutine:=false,more:=[] }
theorem L2.new_at {H:L2.Hp}{a:PySem.Addr}{o:L2.HO} (h:H a=none):∃ H':L2.Hp,H'=L2.upd H a o∧L2.Same H H'∧H' a=some o:=⟨_,rfl,L2.Zaj h,L2.Zac⟩
theorem L2.getm {α β:Type}{f:α→β}{l:List α}{i:Nat}{x:β} (h:(l.map f)[i]?=some x):∃ z,l[i]?=some z∧f z=x:=by
 rw [Xag] at h;exact XaR.mp h
namespace K76
open PySem PySem.Spec PyProof.Rows L2 Ord
local macro_rules | `(tactic| trivial) => `(tactic| exact ⟨rfl, rfl, rfl, by decide +kernel, rfl, by decide +kernel, by decide +kernel⟩)
local macro_rules | `(tactic| trivial) => `(tactic| exact ⟨rfl, by decide +kernel, by decide +kernel, by decide +kernel, rfl, by decide +kernel, by decide +kernel⟩)
theorem sc__law_names:FnScope ["_law_cell", "_law_many", "_law_letters", "_law_size", "_law_base", "_law_names_here", "_law_k", "_law_here"] ["_law_cell", "_law_many"] (Zae Za5):=by trivial
theorem _law_names_cs1:CompScope (Zae Za5) ["_law_cell", "_law_many", "_law_letters", "_law_size", "_law_base", "_law_names_here", "_law_k", "_law_here"] (SF [ (".0",.local),("_law_k",.local),("_law_cell",.free),("_law_letters",.free)]) ["_law_k", "_law_letters", "_law_cell"] 1 [2,0]:=by trivial
theorem _law_names_cs2:CompScope (Zae Za5) ["_law_cell", "_law_many", "_law_letters", "_law_size", "_law_base", "_law_names_here", "_law_k", "_law_here"] (SF [ (".0",.local),("_law_k",.local),("_law_base",.free)]) ["_law_k", "_law_base"] 1 [4]:=by trivial
theorem ZeR:FnScope ["_law_script", "_law_k"] ["_law_script", "_law_k"] (Zae Zbf):=by trivial
theorem sc__law_state:FnScope ["_law_cells", "_law_labels", "_law_many", "_law_goes", "_law_ends", "_law_k"] ["_law_cells", "_law_labels", "_law_many"] (Zae Zby):=by trivial
theorem sc__law_comma:FnScope ["_law_rows", "_law_words", "_law_row"] ["_law_rows"] (Zae Zbz):=by trivial
theorem sc__law_text:FnScope ["_law_states", "_law_inner", "_law_pairs", "_law_words", "_law_goes", "_law_ends"] ["_law_states", "_law_inner", "_law_pairs"] (Zae ZbR):=by trivial
theorem sc__law_figures:FnScope ["_law_cell", "_law_many", "_law_some", "_law_number"] ["_law_cell", "_law_many"] (Zae Zbg):=by trivial
theorem sc__law_numbered:FnScope ["_law_states", "_law_inner", "_law_cell", "_law_many", "_law_word", "_law_due", "_law_at"] ["_law_states", "_law_inner", "_law_cell", "_law_many"] (Zae ZaY):=by trivial
theorem sc__law_named:FnScope ["_law_states", "_law_pairs", "_law_cell", "_law_word", "_law_at"] ["_law_states", "_law_pairs", "_law_cell"] (Zae ZbA):=by trivial
theorem sc__law_more:FnScope ["_law_states", "_law_pairs", "_law_cell", "_law_labels", "_law_at"] ["_law_states", "_law_pairs", "_law_cell"] (Zae Zbh):=by trivial
theorem _law_more_cs1:CompScope (Zae Zbh) ["_law_states", "_law_pairs", "_law_cell", "_law_labels", "_law_at"] (SF [(".0",.local),("_law_k",.local)]) ["_law_k"] 1 []:=by trivial
theorem _law_more_cs2:CompScope (Zae Zbh) ["_law_states", "_law_pairs", "_law_cell", "_law_labels", "_law_at"] (SF [(".0",.local),("_law_label",.local)]) ["_law_label"] 1 []:=by trivial
theorem _law_more_cs3:CompScope (Zae Zbh) ["_law_states", "_law_pairs", "_law_cell", "_law_labels", "_law_at"] (SF [(".0",.local),("_law_k",.local)]) ["_law_k"] 1 []:=by trivial
theorem sc__law_broken:FnScope ["_law_words", "_law_cell", "_law_way", "_law_at"] ["_law_words", "_law_cell"] (Zae Zbq):=by trivial
theorem sc_parted:FnScope ["words", "sign", "groups", "word"] ["words", "sign"] (Zae ZcS):=by trivial
theorem sc_read_twos:FnScope ["words", "groups"] ["words"] (Zae ZbB):=by trivial
theorem read_twos_cs1:CompScope (Zae ZbB) ["words", "groups"] (SF [ (".0",.local),("group",.local),("len",.globalImplicit)]) ["group"] 1 []:=by trivial
theorem Zgi:FnScope ["word"] ["word"] (Zae ZbC):=by trivial
theorem Zff:FnScope ["word"] ["word"] (Zae Za6):=by trivial
theorem read_number_cs1:CompScope (Zae Za6) ["word"] (SF [(".0",.local),("sign",.local)]) ["sign"] 1 []:=by trivial
theorem sc_read_state:FnScope ["words", "parts", "goes"] ["words"] (Zae Za7):=by trivial
theorem read_state_cs1:CompScope (Zae Za7) ["words", "parts", "goes"] (SF [ (".0",.local),("label",.local),("number",.local),("read_label",.globalImplicit),("read_number",.globalImplicit)]) ["label", "number"] 2 []:=by trivial
theorem read_state_cs2:CompScope (Zae Za7) ["words", "parts", "goes"] (SF [ (".0",.local),("label",.local),("read_label",.globalImplicit)]) ["label"] 1 []:=by trivial
theorem sc_refuse_too_great:FnScope ["states", "pairs", "goes", "ends"] ["states", "pairs"] (Zae ZaJ):=by trivial
theorem Zg8:FnScope ["goes"] ["goes"] (Zae ZbD):=by trivial
theorem labels_of_cs1:CompScope (Zae ZbD) ["goes"] (SF [ (".0",.local),("label",.local),("number",.local)]) ["label", "number"] 2 []:=by trivial
theorem sc_labels_told:FnScope ["states", "pairs", "labels", "goes", "ends", "better", "worse"] ["states", "pairs"] (Zae Zbr):=by trivial
theorem Zi6:FnScope ["thing"] ["thing"] (Zae Zci):=by trivial
theorem is_name_cs1:CompScope (Zae Zci) ["thing"] (SF [(".0",.local),("sign",.local)]) ["sign"] 1 []:=by trivial
theorem sc_refuse_no_names:FnScope ["states", "pairs", "label"] ["states", "pairs"] (Zae ZaP):=by trivial
theorem ZhK:FnScope ["thing"] ["thing"] (Zae Zb2):=by trivial
theorem ZhL:FnScope ["number", "many"] ["number", "many"] (Zae Zb3):=by trivial
theorem sc_refuse_no_places:FnScope ["states", "inner", "goes", "ends", "label", "number"] ["states", "inner"] (Zae ZaK):=by trivial
theorem ZeS:FnScope ["labels"] ["labels"] (Zae Zbi):=by trivial
theorem sc_refuse_twice:FnScope ["states", "goes", "ends"] ["states"] (Zae Zbj):=by trivial
theorem sc_worse_by_better:FnScope ["pairs", "worse_labels", "better", "worse"] ["pairs"] (Zae ZaQ):=by trivial
theorem sc_reached:FnScope ["worse_labels", "start", "came_from", "layer", "further", "better", "worse"] ["worse_labels", "start"] (Zae Zcs):=by trivial
theorem sc_all_that_follows:FnScope ["pairs", "worse_labels", "order", "better", "worse"] ["pairs"] (Zae ZaL):=by trivial
theorem Zg9:FnScope ["thing"] ["thing"] (Zae Zbk):=by trivial
theorem own_lists_cs1:CompScope (Zae Zbk) ["thing"] (SF [ (".0",.local),("part",.local),("own_lists",.globalImplicit)]) ["part"] 1 []:=by trivial
theorem own_lists_cs2:CompScope (Zae Zbk) ["thing"] (SF [ (".0",.local),("part",.local),("own_lists",.globalImplicit)]) ["part"] 1 []:=by trivial
theorem ZeT:FnScope ["self", "ring"] ["self", "ring"] (Zae Zbl):=by trivial
theorem sc_chain:FnScope ["pairs", "one", "other", "came_from", "labels", "label"] ["pairs", "one", "other"] (Zae Zdv):=by trivial
theorem sc_order_of:FnScope ["pairs", "order", "better", "worse"] ["pairs"] (Zae Zb4):=by trivial
theorem ZeU:FnScope ["goes", "ends"] ["goes", "ends"] (Zae ZaW):=by trivial
theorem sorted_state_cs1:CompScope (Zae ZaW) ["goes", "ends"] (SF [ (".0",.local),("label",.local),("number",.local)]) ["label", "number"] 2 []:=by trivial
theorem sc_table_of:FnScope ["states", "inner", "pairs", "order"] ["states", "inner", "pairs"] (Zae ZbS):=by trivial
theorem table_of_cs1:CompScope (Zae ZbS) ["states", "inner", "pairs", "order"] (SF [ (".0",.local),("goes",.local),("ends",.local),("sorted_state",.globalImplicit)]) ["goes", "ends"] 2 []:=by trivial
theorem sc_read_table:FnScope ["text", "parts", "states", "inner", "pairs"] ["text"] (Zae Za8):=by trivial
theorem read_table_cs1:CompScope (Zae Za8) ["text", "parts", "states", "inner", "pairs"] (SF [ (".0",.local),("words",.local),("read_state",.globalImplicit)]) ["words"] 1 []:=by trivial
theorem read_table_cs2:CompScope (Zae Za8) ["text", "parts", "states", "inner", "pairs"] (SF [ (".0",.local),("better",.local),("worse",.local),("read_label",.globalImplicit)]) ["better", "worse"] 2 []:=by trivial
theorem sc__law_outcome:FnScope ["_law_thing", "_law_error", "e", "_law_some"] ["_law_thing"] (Zae Zbm):=by trivial
theorem sc__law_first:FnScope ["_law_dues", "_law_due"] ["_law_dues"] (Zae ZbE):=by trivial
theorem sc_law:FnScope ["_law_script", "_law_labels", "_law_size", "_law_many", "_law_states", "_law_k", "_law_cells", "_law_inner", "_law_pairs", "_law_plain", "_law_bits", "_law_dues", "_law_due", "_law_at", "_law_words", "_law_thing"] ["_law_script"] (Zae Zem):=by trivial
theorem law_cs1:CompScope (Zae Zem) ["_law_script", "_law_labels", "_law_size", "_law_many", "_law_states", "_law_k", "_law_cells", "_law_inner", "_law_pairs", "_law_plain", "_law_bits", "_law_dues", "_law_due", "_law_at", "_law_words", "_law_thing"] (SF [ (".0",.local),("_law_j",.local),("_law_cell_at",.globalImplicit),("_law_k",.free),("_law_script",.free),("_law_size",.free)]) ["_law_j", "_law_script", "_law_k", "_law_size"] 1 [0,5,2]:=by trivial
theorem law_cs2:CompScope (Zae Zem) ["_law_script", "_law_labels", "_law_size", "_law_many", "_law_states", "_law_k", "_law_cells", "_law_inner", "_law_pairs", "_law_plain", "_law_bits", "_law_dues", "_law_due", "_law_at", "_law_words", "_law_thing"] (SF [ (".0",.local),("_law_cell",.local),("_law_labels",.free),("_law_size",.free)]) ["_law_cell", "_law_labels", "_law_size"] 1 [1,2]:=by trivial
structure Blt (mg:Str→Option Value):Prop where
 b_ValueError:mg "ValueError" = none
 b_all:mg "all" = none
 b_any:mg "any" = none
 b_bool:mg "bool" = none
 b_int:mg "int" = none
 b_isinstance:mg "isinstance" = none
 b_len:mg "len" = none
 b_list:mg "list" = none
 b_range:mg "range" = none
 b_set:mg "set" = none
 b_sorted:mg "sorted" = none
 b_str:mg "str" = none
 b_tuple:mg "tuple" = none
 c_LONGEST_NAME:∃ t,mg "LONGEST_NAME" = some (.int 8 t)
 c_MOST_ENDS:∃ t,mg "MOST_ENDS" = some (.int 8 t)
 c_MOST_FIGURES:∃ t,mg "MOST_FIGURES" = some (.int 4 t)
 c_MOST_GOES:∃ t,mg "MOST_GOES" = some (.int 8 t)
 c_MOST_PAIRS:∃ t,mg "MOST_PAIRS" = some (.int 40 t)
 c_MOST_STATES:∃ t,mg "MOST_STATES" = some (.int 8 t)
structure Ers (K:XFg) (mg:Str→Option Value):Prop where
 t_SIGNS:mg "SIGNS" = some (.ref (clsA K "SIGNS"))
 tv_SIGNS:∀ H,SqT K H (clsA K "SIGNS") [.str "/",.str "|",.str ",",.str ":"]
 e_Caught:mg "Caught" = some (.ref (clsA K "Caught"))
 e_NoName:mg "NoName" = some (.ref (clsA K "NoName"))
 e_NoPlace:mg "NoPlace" = some (.ref (clsA K "NoPlace"))
 e_NoRow:mg "NoRow" = some (.ref (clsA K "NoRow"))
 e_NoText:mg "NoText" = some (.ref (clsA K "NoText"))
 e_PathError:mg "PathError" = some (.ref (clsA K "PathError"))
 e_Ring:mg "Ring" = some (.ref (clsA K "Ring"))
 e_Tangled:mg "Tangled" = some (.ref (clsA K "Tangled"))
 e_TooGreat:mg "TooGreat" = some (.ref (clsA K "TooGreat"))
 e_Twice:mg "Twice" = some (.ref (clsA K "Twice"))
 k_NoName:Exk K mg "NoName" (clsA K "NoName")
 k_NoPlace:Exk K mg "NoPlace" (clsA K "NoPlace")
 k_NoText:Exk K mg "NoText" (clsA K "NoText")
 k_PathError:Exk K mg "PathError" (clsA K "PathError")
 k_TooGreat:Exk K mg "TooGreat" (clsA K "TooGreat")
 k_Twice:Exk K mg "Twice" (clsA K "Twice")
 ci_PathError:ClsAt K (clsA K "PathError") "__init__" (.builtin "ValueError.__init__")
 kp_Ring:PySem.W.keepIn K (.ref (clsA K "Ring"))=true
 xf_Ring:ZiX K (clsA K "Ring")
 xi_Ring:∃ f,PySem.W.xIn K (clsA K "Ring") f=true
 hd_Ring:PySem.W.hasDictIn K (clsA K "Ring")=true
 sa_Ring:PySem.W.findIn K (.ref (clsA K "Ring")) "__setattr__" = some (some (.builtin "object.__setattr__"))
 na_Ring_ring:PySem.W.findIn K (.ref (clsA K "Ring")) "ring" = some none
 d_NoName:ExcCl K (clsA K "NoName")
 v_NoName:AskC K (clsA K "NoName") (.type "ValueError") true
 s_NoName_PathError:L2.subIn K (clsA K "NoName") (clsA K "PathError")=true
 a_NoName_Caught:AskC K (clsA K "NoName") (.ref (clsA K "Caught")) false
 a_NoName_NoName:AskC K (clsA K "NoName") (.ref (clsA K "NoName")) true
 a_NoName_NoPlace:AskC K (clsA K "NoName") (.ref (clsA K "NoPlace")) false
 a_NoName_NoRow:AskC K (clsA K "NoName") (.ref (clsA K "NoRow")) false
 a_NoName_NoText:AskC K (clsA K "NoName") (.ref (clsA K "NoText")) false
 a_NoName_Ring:AskC K (clsA K "NoName") (.ref (clsA K "Ring")) false
 a_NoName_Tangled:AskC K (clsA K "NoName") (.ref (clsA K "Tangled")) false
 a_NoName_TooGreat:AskC K (clsA K "NoName") (.ref (clsA K "TooGreat")) false
 a_NoName_Twice:AskC K (clsA K "NoName") (.ref (clsA K "Twice")) false
 n_NoName_Caught:(Value.ref (clsA K "NoName") == Value.ref (clsA K "Caught"))=false
 n_NoName_NoPlace:(Value.ref (clsA K "NoName") == Value.ref (clsA K "NoPlace"))=false
 n_NoName_NoRow:(Value.ref (clsA K "NoName") == Value.ref (clsA K "NoRow"))=false
 n_NoName_NoText:(Value.ref (clsA K "NoName") == Value.ref (clsA K "NoText"))=false
 n_NoName_Ring:(Value.ref (clsA K "NoName") == Value.ref (clsA K "Ring"))=false
 n_NoName_Tangled:(Value.ref (clsA K "NoName") == Value.ref (clsA K "Tangled"))=false
 n_NoName_TooGreat:(Value.ref (clsA K "NoName") == Value.ref (clsA K "TooGreat"))=false
 n_NoName_Twice:(Value.ref (clsA K "NoName") == Value.ref (clsA K "Twice"))=false
 d_NoPlace:ExcCl K (clsA K "NoPlace")
 v_NoPlace:AskC K (clsA K "NoPlace") (.type "ValueError") true
 s_NoPlace_PathError:L2.subIn K (clsA K "NoPlace") (clsA K "PathError")=true
 a_NoPlace_Caught:AskC K (clsA K "NoPlace") (.ref (clsA K "Caught")) false
 a_NoPlace_NoName:AskC K (clsA K "NoPlace") (.ref (clsA K "NoName")) false
 a_NoPlace_NoPlace:AskC K (clsA K "NoPlace") (.ref (clsA K "NoPlace")) true
 a_NoPlace_NoRow:AskC K (clsA K "NoPlace") (.ref (clsA K "NoRow")) false
 a_NoPlace_NoText:AskC K (clsA K "NoPlace") (.ref (clsA K "NoText")) false
 a_NoPlace_Ring:AskC K (clsA K "NoPlace") (.ref (clsA K "Ring")) false
 a_NoPlace_Tangled:AskC K (clsA K "NoPlace") (.ref (clsA K "Tangled")) false
 a_NoPlace_TooGreat:AskC K (clsA K "NoPlace") (.ref (clsA K "TooGreat")) false
 a_NoPlace_Twice:AskC K (clsA K "NoPlace") (.ref (clsA K "Twice")) false
 n_NoPlace_Caught:(Value.ref (clsA K "NoPlace") == Value.ref (clsA K "Caught"))=false
 n_NoPlace_NoName:(Value.ref (clsA K "NoPlace") == Value.ref (clsA K "NoName"))=false
 n_NoPlace_NoRow:(Value.ref (clsA K "NoPlace") == Value.ref (clsA K "NoRow"))=false
 n_NoPlace_NoText:(Value.ref (clsA K "NoPlace") == Value.ref (clsA K "NoText"))=false
 n_NoPlace_Ring:(Value.ref (clsA K "NoPlace") == Value.ref (clsA K "Ring"))=false
 n_NoPlace_Tangled:(Value.ref (clsA K "NoPlace") == Value.ref (clsA K "Tangled"))=false
 n_NoPlace_TooGreat:(Value.ref (clsA K "NoPlace") == Value.ref (clsA K "TooGreat"))=false
 n_NoPlace_Twice:(Value.ref (clsA K "NoPlace") == Value.ref (clsA K "Twice"))=false
 d_NoText:ExcCl K (clsA K "NoText")
 v_NoText:AskC K (clsA K "NoText") (.type "ValueError") true
 s_NoText_PathError:L2.subIn K (clsA K "NoText") (clsA K "PathError")=true
 a_NoText_Caught:AskC K (clsA K "NoText") (.ref (clsA K "Caught")) false
 a_NoText_NoName:AskC K (clsA K "NoText") (.ref (clsA K "NoName")) false
 a_NoText_NoPlace:AskC K (clsA K "NoText") (.ref (clsA K "NoPlace")) false
 a_NoText_NoRow:AskC K (clsA K "NoText") (.ref (clsA K "NoRow")) false
 a_NoText_NoText:AskC K (clsA K "NoText") (.ref (clsA K "NoText")) true
 a_NoText_Ring:AskC K (clsA K "NoText") (.ref (clsA K "Ring")) false
 a_NoText_Tangled:AskC K (clsA K "NoText") (.ref (clsA K "Tangled")) false
 a_NoText_TooGreat:AskC K (clsA K "NoText") (.ref (clsA K "TooGreat")) false
 a_NoText_Twice:AskC K (clsA K "NoText") (.ref (clsA K "Twice")) false
 n_NoText_Caught:(Value.ref (clsA K "NoText") == Value.ref (clsA K "Caught"))=false
 n_NoText_NoName:(Value.ref (clsA K "NoText") == Value.ref (clsA K "NoName"))=false
 n_NoText_NoPlace:(Value.ref (clsA K "NoText") == Value.ref (clsA K "NoPlace"))=false
 n_NoText_NoRow:(Value.ref (clsA K "NoText") == Value.ref (clsA K "NoRow"))=false
 n_NoText_Ring:(Value.ref (clsA K "NoText") == Value.ref (clsA K "Ring"))=false
 n_NoText_Tangled:(Value.ref (clsA K "NoText") == Value.ref (clsA K "Tangled"))=false
 n_NoText_TooGreat:(Value.ref (clsA K "NoText") == Value.ref (clsA K "TooGreat"))=false
 n_NoText_Twice:(Value.ref (clsA K "NoText") == Value.ref (clsA K "Twice"))=false
 d_Ring:ExcCl K (clsA K "Ring")
 v_Ring:AskC K (clsA K "Ring") (.type "ValueError") true
 s_Ring_PathError:L2.subIn K (clsA K "Ring") (clsA K "PathError")=true
 a_Ring_Caught:AskC K (clsA K "Ring") (.ref (clsA K "Caught")) false
 a_Ring_NoName:AskC K (clsA K "Ring") (.ref (clsA K "NoName")) false
 a_Ring_NoPlace:AskC K (clsA K "Ring") (.ref (clsA K "NoPlace")) false
 a_Ring_NoRow:AskC K (clsA K "Ring") (.ref (clsA K "NoRow")) false
 a_Ring_NoText:AskC K (clsA K "Ring") (.ref (clsA K "NoText")) false
 a_Ring_Ring:AskC K (clsA K "Ring") (.ref (clsA K "Ring")) true
 a_Ring_Tangled:AskC K (clsA K "Ring") (.ref (clsA K "Tangled")) false
 a_Ring_TooGreat:AskC K (clsA K "Ring") (.ref (clsA K "TooGreat")) false
 a_Ring_Twice:AskC K (clsA K "Ring") (.ref (clsA K "Twice")) false
 n_Ring_Caught:(Value.ref (clsA K "Ring") == Value.ref (clsA K "Caught"))=false
 n_Ring_NoName:(Value.ref (clsA K "Ring") == Value.ref (clsA K "NoName"))=false
 n_Ring_NoPlace:(Value.ref (clsA K "Ring") == Value.ref (clsA K "NoPlace"))=false
 n_Ring_NoRow:(Value.ref (clsA K "Ring") == Value.ref (clsA K "NoRow"))=false
 n_Ring_NoText:(Value.ref (clsA K "Ring") == Value.ref (clsA K "NoText"))=false
 n_Ring_Tangled:(Value.ref (clsA K "Ring") == Value.ref (clsA K "Tangled"))=false
 n_Ring_TooGreat:(Value.ref (clsA K "Ring") == Value.ref (clsA K "TooGreat"))=false
 n_Ring_Twice:(Value.ref (clsA K "Ring") == Value.ref (clsA K "Twice"))=false
 d_TooGreat:ExcCl K (clsA K "TooGreat")
 v_TooGreat:AskC K (clsA K "TooGreat") (.type "ValueError") true
 s_TooGreat_PathError:L2.subIn K (clsA K "TooGreat") (clsA K "PathError")=true
 a_TooGreat_Caught:AskC K (clsA K "TooGreat") (.ref (clsA K "Caught")) false
 a_TooGreat_NoName:AskC K (clsA K "TooGreat") (.ref (clsA K "NoName")) false
 a_TooGreat_NoPlace:AskC K (clsA K "TooGreat") (.ref (clsA K "NoPlace")) false
 a_TooGreat_NoRow:AskC K (clsA K "TooGreat") (.ref (clsA K "NoRow")) false
 a_TooGreat_NoText:AskC K (clsA K "TooGreat") (.ref (clsA K "NoText")) false
 a_TooGreat_Ring:AskC K (clsA K "TooGreat") (.ref (clsA K "Ring")) false
 a_TooGreat_Tangled:AskC K (clsA K "TooGreat") (.ref (clsA K "Tangled")) false
 a_TooGreat_TooGreat:AskC K (clsA K "TooGreat") (.ref (clsA K "TooGreat")) true
 a_TooGreat_Twice:AskC K (clsA K "TooGreat") (.ref (clsA K "Twice")) false
 n_TooGreat_Caught:(Value.ref (clsA K "TooGreat") == Value.ref (clsA K "Caught"))=false
 n_TooGreat_NoName:(Value.ref (clsA K "TooGreat") == Value.ref (clsA K "NoName"))=false
 n_TooGreat_NoPlace:(Value.ref (clsA K "TooGreat") == Value.ref (clsA K "NoPlace"))=false
 n_TooGreat_NoRow:(Value.ref (clsA K "TooGreat") == Value.ref (clsA K "NoRow"))=false
 n_TooGreat_NoText:(Value.ref (clsA K "TooGreat") == Value.ref (clsA K "NoText"))=false
 n_TooGreat_Ring:(Value.ref (clsA K "TooGreat") == Value.ref (clsA K "Ring"))=false
 n_TooGreat_Tangled:(Value.ref (clsA K "TooGreat") == Value.ref (clsA K "Tangled"))=false
 n_TooGreat_Twice:(Value.ref (clsA K "TooGreat") == Value.ref (clsA K "Twice"))=false
 d_Twice:ExcCl K (clsA K "Twice")
 v_Twice:AskC K (clsA K "Twice") (.type "ValueError") true
 s_Twice_PathError:L2.subIn K (clsA K "Twice") (clsA K "PathError")=true
 a_Twice_Caught:AskC K (clsA K "Twice") (.ref (clsA K "Caught")) false
 a_Twice_NoName:AskC K (clsA K "Twice") (.ref (clsA K "NoName")) false
 a_Twice_NoPlace:AskC K (clsA K "Twice") (.ref (clsA K "NoPlace")) false
 a_Twice_NoRow:AskC K (clsA K "Twice") (.ref (clsA K "NoRow")) false
 a_Twice_NoText:AskC K (clsA K "Twice") (.ref (clsA K "NoText")) false
 a_Twice_Ring:AskC K (clsA K "Twice") (.ref (clsA K "Ring")) false
 a_Twice_Tangled:AskC K (clsA K "Twice") (.ref (clsA K "Tangled")) false
 a_Twice_TooGreat:AskC K (clsA K "Twice") (.ref (clsA K "TooGreat")) false
 a_Twice_Twice:AskC K (clsA K "Twice") (.ref (clsA K "Twice")) true
 n_Twice_Caught:(Value.ref (clsA K "Twice") == Value.ref (clsA K "Caught"))=false
 n_Twice_NoName:(Value.ref (clsA K "Twice") == Value.ref (clsA K "NoName"))=false
 n_Twice_NoPlace:(Value.ref (clsA K "Twice") == Value.ref (clsA K "NoPlace"))=false
 n_Twice_NoRow:(Value.ref (clsA K "Twice") == Value.ref (clsA K "NoRow"))=false
 n_Twice_NoText:(Value.ref (clsA K "Twice") == Value.ref (clsA K "NoText"))=false
 n_Twice_Ring:(Value.ref (clsA K "Twice") == Value.ref (clsA K "Ring"))=false
 n_Twice_Tangled:(Value.ref (clsA K "Twice") == Value.ref (clsA K "Tangled"))=false
 n_Twice_TooGreat:(Value.ref (clsA K "Twice") == Value.ref (clsA K "TooGreat"))=false
theorem ZcW {us:List Value} (h:us.length=1):∃ x0,us=[x0]:=by
 cases us with
 | nil=>cases h
 | cons x0 t=>exact ⟨x0,by rw [List.length_eq_zero_iff.mp (Nat.succ.inj h)]⟩
theorem ZdL {us:List Value} (h:us.length=2):∃ x0 x1,us=[x0,x1]:=by
 cases us with
 | nil=>cases h
 | cons x0 t =>
   obtain ⟨x1,rfl⟩:=ZcW (Nat.succ.inj h);exact ⟨x0,x1,rfl⟩
theorem ZhM {us:List Value} (h:us.length=3):∃ x0 x1 x2,us=[x0,x1,x2]:=by
 cases us with
 | nil=>cases h
 | cons x0 t =>
   obtain ⟨x1,x2,rfl⟩:=ZdL (Nat.succ.inj h);exact ⟨x0,x1,x2,rfl⟩
theorem len_4 {us:List Value} (h:us.length=4):∃ x0 x1 x2 x3,us=[x0,x1,x2,x3]:=by
 cases us with
 | nil=>cases h
 | cons x0 t =>
   obtain ⟨x1,x2,x3,rfl⟩:=ZhM (Nat.succ.inj h);exact ⟨x0,x1,x2,x3,rfl⟩
theorem len_5 {us:List Value} (h:us.length=5):∃ x0 x1 x2 x3 x4,us=[x0,x1,x2,x3,x4]:=by
 cases us with
 | nil=>cases h
 | cons x0 t =>
   obtain ⟨x1,x2,x3,x4,rfl⟩:=len_4 (Nat.succ.inj h);exact ⟨x0,x1,x2,x3,x4,rfl⟩
theorem len_6 {us:List Value} (h:us.length=6):∃ x0 x1 x2 x3 x4 x5,us=[x0,x1,x2,x3,x4,x5]:=by
 cases us with
 | nil=>cases h
 | cons x0 t =>
   obtain ⟨x1,x2,x3,x4,x5,rfl⟩:=len_5 (Nat.succ.inj h);exact ⟨x0,x1,x2,x3,x4,x5,rfl⟩
theorem len_7 {us:List Value} (h:us.length=7):∃ x0 x1 x2 x3 x4 x5 x6,us=[x0,x1,x2,x3,x4,x5,x6]:=by
 cases us with
 | nil=>cases h
 | cons x0 t =>
   obtain ⟨x1,x2,x3,x4,x5,x6,rfl⟩:=len_6 (Nat.succ.inj h);exact ⟨x0,x1,x2,x3,x4,x5,x6,rfl⟩
theorem len_8 {us:List Value} (h:us.length=8):∃ x0 x1 x2 x3 x4 x5 x6 x7,us=[x0,x1,x2,x3,x4,x5,x6,x7]:=by
 cases us with
 | nil=>cases h
 | cons x0 t =>
   obtain ⟨x1,x2,x3,x4,x5,x6,x7,rfl⟩:=len_7 (Nat.succ.inj h);exact ⟨x0,x1,x2,x3,x4,x5,x6,x7,rfl⟩
section
set_option maxHeartbeats 4000000
seal L2.PE L2.PA L2.PS L2.PSs L2.PT L2.PW L2.PC L2.PG L2.PGs L2.PI L2.PF L2.PSet L2.OpR L2.UnR L2.CallR L2.MtR L2.IxR L2.SlR L2.PO
variable {P:Program} {w:World} {K:XFg} {mg:Str→Option Value} {base:Heap} {f:Addr} {fd:FuncData}
theorem Zha (c:Int):atI ("abcdefghijklmnopqrstuvwxyz" : Str).cps.toList (c % 26)=some (97+(c % 26).toNat):=by
 have h0:=XaY c (by decide:(26:Int)≠0);have h1:=XaX c (by decide:(0:Int)<26);generalize c % 26=i at h0 h1 ⊢;obtain ⟨n,rfl⟩:=XaZ h0
 have hn:n<26:=by omega
 refine Zbw ?_
 have:∀ n,n<26→("abcdefghijklmnopqrstuvwxyz" : Str).cps.toList[n]?=some (97+n):=by decide +kernel
 rw [Xa0];exact this n hn
theorem Zk4:∀ n:Nat,n<8→0<(0+(n:Int)) * (0+(n:Int))+3∧(0+(n:Int)) * (0+(n:Int))+3<1073741824:=by
 intro n hn
 have:∀ n,n<8→0<(0+((n:Nat):Int)) * (0+((n:Nat):Int))+3∧(0+((n:Nat):Int)) * (0+((n:Nat):Int))+3<1073741824:=by decide
 exact this n hn
theorem Zhb {α β:Type}{f:α→β}{l:List α} (hl:l.Nodup) (h:∀ a∈l,∀ b∈l,f a=f b→a=b):(l.map f).Nodup:=by
 unfold List.Nodup at *;rw [List.pairwise_map];exact hl.imp_of_mem fun {a b} ha hb hne e=>hne (h a ha b hb e)
theorem Zko {bs:List Nat}{m:Nat} (hm:m≤bs.length):((List.range m).map fun k=>tx (bs.take (k+1))).Nodup:=by
 refine Zhb List.nodup_range fun a ha b hb e=>?_;rw [List.mem_range] at ha hb
 have:=Xbf List.length (tx_inj e)
 rw [Xaw,Xaw] at this;omega
theorem Zkp {bs:List Nat}{p m:Nat}{c:Int} (hp:p<bs.length) (hm:m≤26):((List.range m).map fun k:Nat=>tx (bs.set p (97+((c+(0+(k:Int))) % 26).toNat))).Nodup:=by
 refine Zhb List.nodup_range fun a ha b hb e=>?_;rw [List.mem_range] at ha hb;have e2:=Xbf (fun l=>l[p]?) (tx_inj e);simp only [List.getElem?_set_self hp] at e2;have e3:=Xa8 e2;omega
theorem ZiB (cs:List Nat):(cs.map fun c=>V.str ⟨#[c]⟩)=(cs.map fun c=>(⟨#[c]⟩:Str)).map V.str:=by rw [Xax];rfl
theorem ZeV {cs:List Nat} (h:cs.length≤8):JoinOk (Str.ofString "") (cs.map fun c=>(⟨#[c]⟩:Str))=true:=by
 refine ZgO (fun y hy=>?_) (by rw [Xaa];omega);obtain ⟨c,_,rfl⟩:=Xai.mp hy;show 1≤8
 decide
def LowS (x:Str):Prop:=1≤x.length∧x.length≤8∧∀ c∈x.cps.toList,97≤c∧c≤122
theorem Zk5 {bs:List Nat}{k:Nat} (hb:∀ c∈bs,97≤c∧c≤122) (h1:1≤bs.length) (hk:k+1≤8):LowS (tx (bs.take (k+1))):=by
 refine ⟨by rw [Zh8,Xaw];omega,by rw [Zh8,Xaw];omega,fun c hc=>?_⟩;rw [Zhx] at hc;exact hb c (List.mem_of_mem_take hc)
theorem low_set {bs:List Nat}{p c:Nat} (hb:∀ c∈bs,97≤c∧c≤122) (h1:1≤bs.length) (h8:bs.length≤8) (hc:97≤c∧c≤122):LowS (tx (bs.set p c)):=by
 refine ⟨by rw [Zh8,XaD];omega,by rw [Zh8,XaD];omega,fun d hd=>?_⟩;rw [Zhx] at hd
 rcases List.mem_or_eq_of_mem_set hd with hd | hd
 · exact hb d hd
 · rw [hd];exact hc
theorem Zkq (c:Int):97≤97+(c % 26).toNat∧97+(c % 26).toNat≤122:=by
 have h0:=XaY c (by decide:(26:Int)≠0);have h1:=XaX c (by decide:(0:Int)<26);omega
def ZdM (_:XFg):Sp:=fun vs H Q _=>∃ c m,vs=[.int c,.int m]∧0≤m∧m≤8∧∀ (ls:List Str) (p:Addr) (H':Hp),ls.length=m.toNat→ls.Nodup→(∀ x∈ls,LowS x)→H p=none→Same H H'→H' p=some (.lst (ls.map V.str))→Q (.ref p) H'
theorem Zgj (B:Blt mg) (ER:Ers K mg)  (F:Fun K "_law_names" "_law_names" Za5 f fd):FnOk P w K mg base CX0 1 f fd ["_law_cell", "_law_many"] (ZdM K):=by
 refine F.ok sc__law_names (fun vs H Q E h=>?_) (fun cdv A outer s H vs Q E hr h=>?_)
 · obtain ⟨c,m,rfl,_⟩:=h
   rfl
 · obtain ⟨c,m,rfl,hm0,hm8,q⟩:=h
   have z0:0≤c % 10 ^ Int.toNat 9:=XaY _ (by decide)
   refine ⟨_,(Zad (Zax (i:=2) sc__law_names.nd Zal)
    (Zad (Zax (i:=0) sc__law_names.nd (Zat ZaF (pv 0) (Zat op_pow Zai Zai)))
    (Zad (Zax (i:=3) sc__law_names.nd (Zat ZdE Zai (Zat ZaF (pv 0) Zai)))
    (Zad (Zax (i:=4) sc__law_names.nd (Zb6 (te:=tOp (rIx K) (tVar 1) (tOp xMod (tOp xDiv (tVar 2) (tOp xAdd (tOp xMul (tVar 0) (tVar 0)) (tC (.int 3)))) (tC (.int 26)))) rfl _law_names_cs1 (Zcj rfl B.b_range (Zaa Zai Zab)) (fun _ _ _ _ _=>(Zam (i:=0) _law_names_cs1.nd)) (fun _ _ _ _ _=>Zb1) (fun _ _ _ _ _=>(ZaZ ZaE (pv 1) (Zat ZaF (Zat ZaO (pv 2) (Zat ZdE (Zat op_mul (pv 0) (pv 0)) Zai)) Zai)))))
    (Zad (ZaN (Zas Zb0 (Zat ZaF (Zat ZaO (pv 0) Zai) Zai) Zai (ZaC _)) (Zah (ZaB (Zb6 (te:=tBM K "str" (rJoin K) (tC (.str "")) (Zhq (tSl (rSlL K) (tVar 1) Zjw (tPart (tOp (rI0 fun i j=>.int (i+j)) (tVar 0) (tC (.int 1))))) tNil)) rfl _law_names_cs2 (Zcj rfl B.b_range (Zaa (pv 1) Zab)) (fun _ _ _ _ _=>(Zam (i:=0) _law_names_cs2.nd)) (fun _ _ _ _ _=>Zb1) (fun _ _ _ _ _=>(Za9 PySem.F.plainAttrs_str PySem.F.slot_str_join PySem.F.type_str_join ZfS Zal (Zaa (ZcF Zc4 (pv 1) Zdy (ZcT (Zat ZdE (pv 0) Zai))) Zab)))))) Zao)
    (Zad (Zax (i:=5) sc__law_names.nd (Zaz Zab))
    (Zad (ZbM Xbn rfl (Zcj rfl B.b_range (Zaa (pv 1) Zab)) (Zam (i:=6) sc__law_names.nd) (Zad (Zax (i:=7) sc__law_names.nd (ZcF Zc4 (pv 4) Zdy (ZcT (pv 3))))
     (Zad (Zgy (ZaZ ZaE (pv 2) (Zat ZaF (Zat ZdE (Zat ZaO (pv 0) Zai) (pv 6)) Zai)) (Zjj (pv 7) (Zat ZaF (Zat ZaO (pv 0) Zai) (pv 3)) ZhY))
     (Zah (Zay (Za9 Xa4 Xa5 Xa6 ZaD (pv 5) (Zaa (Za9 PySem.F.plainAttrs_str PySem.F.slot_str_join PySem.F.type_str_join ZfS Zal (Zaa (pv 7) Zab)) Zab)))))))
    (Zah (ZaB (pv 5)))))))))),?_⟩
   refine ZkJ ?_;try dsimp only
   refine ⟨_,rfl,_,_,rfl,rfl,⟨by decide,by decide,by decide⟩,_,_,rfl,rfl,(by show (0:Int)<10 ^ Int.toNat 9;decide),?_⟩;try dsimp only
   generalize c % 10 ^ Int.toNat 9=cc at z0 ⊢;refine ⟨_,rfl,_,_,rfl,rfl,(by show (0:Int)<8;decide),_,_,rfl,rfl,?_⟩;have s0:=XaY cc (by decide:(8:Int)≠0);have s1:=XaX cc (by decide:(0:Int)<8);try dsimp only
   generalize cc % 8=r8 at s0 s1 ⊢;refine ⟨_,rfl,by decide,by decide,ZdY (fun i=>V.str ⟨#[97+(cc / ((0+(i:Int)) * (0+(i:Int))+3) % 26).toNat]⟩) (by decide) (fun i H2 D R hi s2 hD k=>?_) (fun H1 Db t1 hDb e1=>?_)⟩
   · have hi8:i<8:=hi
     obtain ⟨b0,b1⟩:=Zk4 i hi8;exact ⟨_,rfl,_,rfl,_,rfl,_,rfl,_,_,rfl,rfl,Or.inl ⟨by omega,by omega⟩,_,_,rfl,rfl,_,_,rfl,rfl,⟨b0,b1⟩,_,_,rfl,rfl,(by show (0:Int)<26;decide),Or.inr (Or.inr ⟨_,_,_,rfl,rfl,by decide +kernel,Zha _,k H2 (Same.refl _)⟩)⟩
   obtain ⟨bs,ebs⟩:∃ bs:List Nat,bs=(List.range 8).map fun i:Nat=>97+(cc / ((0+(i:Int)) * (0+(i:Int))+3) % 26).toNat:=⟨_,rfl⟩
   have e1:H1 Db=some (.lst (bs.map fun c=>V.str ⟨#[c]⟩)):=by rw [ebs,Xax];exact e1
   have lbs:bs.length=8:=by rw [ebs,Xaa,List.length_range]
   have hbs:∀ c∈bs,97≤c∧c≤122:=fun c hc=>by
    rw [ebs] at hc;obtain ⟨i,_,rfl⟩:=Xai.mp hc;exact Zkq _
   clear ebs;refine ⟨_,rfl,_,_,rfl,rfl,⟨by decide,by decide⟩,_,_,rfl,rfl,(by show (0:Int)<3;decide),rfl,_,rfl,?_⟩;refine ite2 (fun _=>?t1) (fun _=>?ff)
   case t1 =>
    refine ⟨_,rfl,_,rfl,by omega,by omega,ZdY (fun k=>V.str (tx (bs.take (k+1)))) (Xbc (show m.toNat≤8 by omega) (by decide)) (fun i H2 D R hi s2 hD k=>?_) (fun H2 L t2 hL e2=>?_)⟩
    · refine ⟨rfl,_,rfl,_,rfl,_,_,rfl,rfl,_,rfl,Db,_,rfl,SqL.of (s2 _ _ e1),fun p hp=>?_⟩
      have ec:cutV (bs.map fun c=>V.str ⟨#[c]⟩) none (some (0+(i:Int)+1))=((bs.take (i+1)).map fun c=>(⟨#[c]⟩:Str)).map V.str:=by
       rw [show 0+(i:Int)+1=((i+1:Nat):Int) by omega,ZdG,←XaN,ZiB]
      rw [ec]
      refine ⟨Str.ofString "",p,_,rfl,rfl,SqL.of Zac,ZeV (by rw [Xaw];omega),?_⟩
      rw [ZgN];exact k _ (Zaj hp)
    · refine q ((List.range m.toNat).map fun k=>tx (bs.take (k+1))) L H2 (by simp) (Zko (by omega)) (fun x hx=>?_) (t1.free hL) (t1.trans t2) (by rw [e2,Xax];rfl)
      obtain ⟨k,hk,rfl⟩:=Xai.mp hx;rw [List.mem_range] at hk;exact Zk5 hbs (by omega) (by omega)
   case ff =>
    refine ⟨by decide,fun L hL=>?_⟩;have hLH:H L=none:=t1.free hL;have p0:=XaY (cc / 8) (show 1+r8≠0 by omega);have p1:=XaX (cc / 8) (show 0<1+r8 by omega)
    have lt8:(bs.take (1+r8).toNat).length=(1+r8).toNat:=by rw [Xaw,lbs];omega
    refine ⟨_,rfl,_,rfl,by omega,by omega,ZeA (lo:=0) (n:=m.toNat) (fun i σ H'=>∃ u6 u7,σ=[some (.int cc),some (.int m),some (.str "abcdefghijklmnopqrstuvwxyz"),some (.int (1+r8)),some (.ref Db),some (.ref L),u6,u7]∧Same H1 H' ∧
     H' L=some (.lst (((List.range i).map fun k:Nat=>tx ((bs.take (1+r8).toNat).set (cc / 8 % (1+r8)).toNat (97+((cc / 5+(0+(k:Int))) % 26).toNat))).map V.str))) ⟨none,none,rfl,Zaj hL,Zac⟩ ?_ ?_⟩
    · rintro i σ H2 hi ⟨u6,u7,rfl,t2,e2⟩
      refine ⟨_,rfl,_,rfl,_,rfl,Db,_,rfl,SqL.of (t2 _ _ e1),fun p hp=>?_⟩
      have ec:cutV (bs.map fun c=>V.str ⟨#[c]⟩) none (some (1+r8))=(bs.take (1+r8).toNat).map fun c=>V.str ⟨#[c]⟩:=by
       obtain ⟨n8,e8⟩:∃ n8:Nat,1+r8=(n8:Int):=⟨(1+r8).toNat,by omega⟩;rw [e8,ZdG,←XaN,Xa0]
      rw [ec];have npL:L≠p:=Zag e2 hp;refine ⟨_,rfl,_,rfl,_,_,rfl,rfl,⟨by decide,by decide⟩,_,rfl,_,_,rfl,rfl,_,_,rfl,rfl,(by show (0:Int)<26;decide),Or.inr (Or.inr ⟨_,_,_,rfl,rfl,by decide +kernel,Zha _,?_⟩)⟩;refine ⟨_,rfl,_,rfl,_,_,rfl,rfl,⟨by decide,by decide⟩,_,rfl,_,_,rfl,rfl,(by omega),p,_,_,(cc / 8 % (1+r8)).toNat,rfl,rfl,Zac,ixN_in p0 (by rw [Xaa,lt8];omega),?_⟩;rw [upd_upd,←List.map_set];generalize hG:upd H2 p _=G
      have g1:G p=some (.lst (((bs.take (1+r8).toNat).set (cc / 8 % (1+r8)).toNat (97+((cc / 5+(0+(i:Int))) % 26).toNat)).map fun c=>V.str ⟨#[c]⟩)):=by rw [←hG,Zac]
      have g2:G L=some (.lst (((List.range i).map fun k:Nat=>tx ((bs.take (1+r8).toNat).set (cc / 8 % (1+r8)).toNat (97+((cc / 5+(0+(k:Int))) % 26).toNat))).map V.str)):=by rw [←hG,Zaf npL];exact e2
      have g3:Same H1 G:=by rw [←hG];exact t2.trans (Zaj hp)
      refine ⟨_,rfl,Or.inl ⟨rfl,_,SqL.of g2⟩,rfl,_,rfl,Str.ofString "",p,_,rfl,rfl,SqL.of (by rw [g1,ZiB]),ZeV (by rw [XaD,lt8];omega),?_⟩
      rw [ZgN];refine ⟨L,_,_,rfl,rfl,g2,?_,?_⟩
      · rw [Xaa,Xaa,List.length_range]
        exact Zak (by omega)
      · refine ⟨_,_,rfl,fun b o e=>?_,?_⟩
        · rw [Zaf (Zag e hL)];exact g3 b o e
        · rw [Zac,List.range_succ,Xad,Xad];rfl
    · rintro σ H2 ⟨u6,u7,rfl,t2,e2⟩
      refine ⟨_,rfl,?_⟩;refine q _ L H2 (by simp) (Zkp (by rw [lt8];omega) (by omega)) (fun x hx=>?_) hLH (t1.trans t2) e2;obtain ⟨k,_,rfl⟩:=Xai.mp hx;exact low_set (fun c hc=>hbs c (List.mem_of_mem_take hc)) (by rw [lt8];omega) (by rw [lt8];omega) (Zkq _)
variable (P w K mg base) in
abbrev ZcG:Prop:=Zbb P w K mg base "_law_names" 1 ["_law_cell", "_law_many"] (ZdM K)
theorem ZeW (B:Blt mg) (ER:Ers K mg)  (F:Fun K "_law_names" "_law_names" Za5 f fd) (hm:mg "_law_names" = some (.ref f)):ZcG P w K mg base :=
 ⟨f,fd,Zgj B ER  F,hm,F.kp,F.binds fun _ _ _ _ _ _ us hl=>(by obtain ⟨x0,x1,rfl⟩:=ZdL hl;rfl)⟩
theorem Zkr {ns:List Int}{k:Int} (hk:0≤k) (hlt:k<ns.length):atI (ns.map V.int) k=some (V.int (ZbT ns k)):=by
 obtain ⟨n,rfl⟩:=XaZ hk
 have hn:n<ns.length:=by omega
 refine Zbw ?_;rw [Xag,Xab hn];show some (V.int ns[n])=some (V.int ((ns[((n:Int)).toNat]?).getD 0));rw [Xa0,Xab hn];rfl
theorem Zks {ns:List Int}{k:Int} (hk:0≤k) (hlt:¬k<ns.length):ZbT ns k=0:=by
 unfold ZbT;rw [XaJ (by omega)];rfl
def ZcA (K:XFg):Sp:=fun vs H Q _=>∃ a ns k,vs=[.ref a,.int k]∧0≤k∧SqL K H a (ns.map V.int)∧Q (.int (ZbT ns k)) H
theorem ZeX (B:Blt mg) (ER:Ers K mg)  (F:Fun K "_law_cell_at" "_law_cell_at" Zbf f fd):FnOk P w K mg base CX0 1 f fd ["_law_script", "_law_k"] (ZcA K):=by
 refine F.ok ZeR (fun vs H Q E h=>?_) (fun cdv A outer s H vs Q E hr h=>?_)
 · obtain ⟨a,ns,k,rfl,_⟩:=h
   rfl
 · obtain ⟨a,ns,k,rfl,hk,hS,q⟩:=h
   refine ⟨_,(Zad (ZaN (Zas Zjq (pv 1) (Zan ZaR B.b_len (Zaa (pv 0) Zab)) (ZaC _)) (Zah (ZaB (ZaZ ZaE (pv 0) (pv 1)))) Zao)
    (Zah (ZaB Zai))),?_⟩
   refine ⟨_,rfl,_,rfl,_,_,rfl,Or.inl ⟨_,hS,rfl⟩,_,_,rfl,rfl,_,rfl,?_⟩;rw [Xaa];refine ite2 (fun hlt=>?_) (fun hge=>?_)
   · have hlt:=Xa3 hlt
     exact ⟨_,rfl,_,rfl,Or.inl ⟨_,_,_,_,rfl,rfl,hS,Zkr hk hlt,q⟩⟩
   · have hge:¬k<(ns.length:Int):=fun z=>hge (Xa1 z)
     show Q (.int 0) H;rw [Zks hk hge] at q;exact q
variable (P w K mg base) in
abbrev Zcc:Prop:=Zbb P w K mg base "_law_cell_at" 1 ["_law_script", "_law_k"] (ZcA K)
theorem Zd4 (B:Blt mg) (ER:Ers K mg)  (F:Fun K "_law_cell_at" "_law_cell_at" Zbf f fd) (hm:mg "_law_cell_at" = some (.ref f)):Zcc P w K mg base :=
 ⟨f,fd,ZeX B ER  F,hm,F.kp,F.binds fun _ _ _ _ _ _ us hl=>(by obtain ⟨x0,x1,rfl⟩:=ZdL hl;rfl)⟩
theorem both {A G:Prop} (k:A→G) (a:A):G:=k a
structure DrawnW (ls:List Str) (m:Int) (s:WSt):Prop where
 gl:s.1.length≤ls.length
 el:s.2.length≤ls.length
 gn:(s.1.map (·.1)).Nodup
 en:s.2.Nodup
 gm:∀ g∈s.1,g.1∈ls∧∃ n,0≤n∧n<m∧g.2=nS n
 em:∀ x∈s.2,x∈ls
def ZdN (K:XFg):Sp:=fun vs H Q _=>∃ (a l:Addr) (ns:List Int) (ls:List Str) (m:Int),vs=[.ref a,.ref l,.int m]∧SqL K H a (ns.map V.int)∧ns.length=ls.length∧SqL K H l (ls.map V.str)∧ls.length≤8∧ls.Nodup∧0<m∧m≤8 ∧
 ∀ (r:RwS) (H':Hp),DrawnW ls m r.s→H r.u=none→H r.G=none→H r.E=none→(∀ t∈r.T,H t=none∧t≠r.G∧t≠r.E)→r.G≠r.E→r.T.Nodup→Same H H'→RowW H' r→Q (.ref r.u) H'
theorem Zgk (B : Blt mg) (ER : Ers K mg)  (F : Fun K "_law_state" "_law_state" Zby f fd) : FnOk P w K mg base CX0 1 f fd ["_law_cells", "_law_labels", "_law_many"] (ZdN K) := by
 refine F.ok sc__law_state (fun vs H Q E h=>?_) (fun cdv A outer s H vs Q E hr h=>?_)
 · obtain ⟨a,l,ns,ls,m,rfl,_⟩:=h
   rfl
 · obtain ⟨a, l, ns, ls, m, rfl, hA, hns, hL, hl8, hnd, hm0, hm8, q⟩ := h
   refine ⟨_,(Zad (Zax (i:=3) sc__law_state.nd (Zaz Zab))
    (Zad (Zax (i:=4) sc__law_state.nd (Zaz Zab))
    (Zad (ZbM Xbn rfl (Zcj rfl B.b_range (Zaa (Zan ZaR B.b_len (Zaa (pv 1) Zab)) Zab)) (Zam (i:=5) sc__law_state.nd) (Zad (ZaN (Zas ZfK (Zat ZaF (ZaZ ZaE (pv 0) (pv 5)) Zai) Zai (ZaC _)) (Zah (Zay (Za9 Xa4 Xa5 Xa6 ZaD (pv 3) (Zaa (Zaz (Zaa (ZaZ ZaE (pv 1) (pv 5)) (Zaa (Zcu ZeN B.b_str (Zaa (Zat ZaF (Zat ZaO (ZaZ ZaE (pv 0) (pv 5)) Zai) (pv 2)) Zab)) Zab))) Zab)))) Zao)
     (Zah (ZaN (Zas Zb0 (Zat ZaF (Zat ZaO (ZaZ ZaE (pv 0) (pv 5)) Zai) Zai) Zai (ZaC _)) (Zah (Zay (Za9 Xa4 Xa5 Xa6 ZaD (pv 4) (Zaa (ZaZ ZaE (pv 1) (pv 5)) Zab)))) Zao))))
    (Zah (ZaB (ZcO (Zaa (pv 3) (Zaa (pv 4) Zab)))))))),?_⟩
   refine ⟨by decide,fun G hG=>?_⟩;obtain ⟨H1,qH1,s1,eG⟩:=new_at (o:=.lst []) hG;rw [←qH1];refine ⟨by decide,fun Ee hE=>?_⟩
   have nEG:Ee≠G:=fun z=>by rw [z,eG] at hE;cases hE
   have hEH:H Ee=none:=s1.free hE;have s2:=s1.trans (Zaj (o:=.lst []) hE);have eG2:=Zaj (o:=.lst []) hE _ _ eG;have eE:(upd H1 Ee (.lst [])) Ee=some (.lst []):=Zac;generalize upd H1 Ee (.lst [])=H2 at s2 eG2 eE ⊢
   refine ⟨_,rfl,_,_,rfl,Or.inl ⟨_,s2.seq hL,rfl⟩,_,rfl,by rw [Xaa];omega,by rw [Xaa];omega,ZeA (lo:=0) (n:=(((ls.map V.str).length:Nat):Int).toNat)
    (fun i σ H'=>∃ (u5:Option V) (ts:List Addr) (gs:List (Str×Str)) (es:List Str),σ=[some (.ref a),some (.ref l),some (.int m),some (.ref G),some (.ref Ee),u5]∧Same H H'∧H' G=some (.lst (ts.map V.ref))∧H' Ee=some (.lst (es.map V.str))∧Wds H' ts (gs.map wG)∧ts.Nodup∧(∀ t∈ts,H t=none∧t≠G∧t≠Ee)∧(gs.map (·.1)).Sublist (ls.take i)∧es.Sublist (ls.take i)∧∀ g∈gs,∃ n,0≤n∧n<m∧g.2=nS n)
    ⟨none,[],[],[],rfl,s2,eG2,eE,Wds.nil,List.nodup_nil,fun t ht=>by simp at ht,List.nil_sublist _,List.nil_sublist _,fun g hg=>by simp at hg⟩ ?_ ?_⟩
   · rintro i σ H3 hi ⟨u5,ts,gs,es,rfl,s3,eG3,eE3,T3,nd3,fr3,sg,se,gm⟩
     rw [Xaa] at hi
     have hil:i<ls.length:=by omega
     have hx:=Xab hil
     have etk:ls.take (i+1)=ls.take i++[ls[i]]:=by rw [Xar,hx];rfl
     have lg:gs.length≤8:=by have:=sg.length_le;rw [Xaa,Xaw] at this;omega
     have le:es.length≤8:=by have:=se.length_le;rw [Xaw] at this;omega
     have hiln:i<ns.length:=by omega
     have nat:(ns.map V.int)[i]?=some (V.int ns[i]):=by rw [Xag,Xab hiln];rfl
     generalize ns[i]=c at nat
     have st1:(ls.take i).Sublist (ls.take (i+1)):=by rw [etk];exact List.sublist_append_left _ _
     have k0:=XaY (c / 3) (show m≠0 by omega);have k1:=XaX (c / 3) hm0
     have gat:(ls.map V.str)[i]?=some (V.str ls[i]):=by rw [Xag,hx];rfl
     refine Zcw (fun σ' H'=>∃ (ts:List Addr) (gs:List (Str×Str)),σ'=[some (.ref a),some (.ref l),some (.int m),some (.ref G),some (.ref Ee),some (.int (0+(i:Int)))]∧Same H H'∧H' G=some (.lst (ts.map V.ref))∧H' Ee=some (.lst (es.map V.str))∧Wds H' ts (gs.map wG)∧ts.Nodup∧(∀ t∈ts,H t=none∧t≠G∧t≠Ee)∧(gs.map (·.1)).Sublist (ls.take (i+1))∧∀ g∈gs,∃ n,0≤n∧n<m∧g.2=nS n) ?_ (fun N hN=>?_)
     case refine_2 =>
      refine ⟨_,rfl,_,rfl,Or.inl ⟨a,_,_,_,rfl,rfl,s3.seq hA,at0 nat,_,_,rfl,rfl,(by show (0:Int)<3;decide),rfl,_,rfl,ite2 (fun h=>?_) (fun h=>?_)⟩⟩;rotate_left
      · exact hN _ _ ⟨ts,gs,rfl,s3,eG3,eE3,T3,nd3,fr3,sg.trans st1,gm⟩
      · refine ⟨_,rfl,Or.inl ⟨rfl,_,SqL.of eG3⟩,_,rfl,_,rfl,Or.inl ⟨l,_,_,_,rfl,rfl,s3.seq hL,at0 gat,_,rfl,_,rfl,Or.inl ⟨a,_,_,_,rfl,rfl,s3.seq hA,at0 nat,_,_,rfl,rfl,⟨by decide,by decide⟩,_,rfl,_,_,rfl,rfl,hm0,_,rfl,ZeP k0 (by omega),Zbv,fun t ht=>?_⟩⟩⟩
        have s4:=Zaj (o:=.lst [.str ls[i],.str (nS (c / 3 % m))]) ht
        have T4:Wds (upd H3 t (.lst [.str ls[i],.str (nS (c / 3 % m))])) (ts++[t]) ((gs++[(ls[i],nS (c / 3 % m))]).map wG):=by
         rw [Xad];exact (T3.same s4).snoc Zac
        have eG4:=s4 _ _ eG3
        have ntG:t≠G:=fun z=>by rw [z,eG3] at ht;cases ht
        have ntE:t≠Ee:=fun z=>by rw [z,eE3] at ht;cases ht
        have lts:ts.length≤8:=by have:=T3.len;rw [Xaa] at this;omega
        have fr4:∀ x∈ts++[t],H x=none∧x≠G∧x≠Ee:=fun x hx=>by
         rcases Xaf.mp hx with z | z
         · exact fr3 x z
         · rw [Xaj.mp z];exact ⟨s3.free ht,ntG,ntE⟩
        refine ⟨G,_,_,rfl,rfl,eG4,by rw [Xaa];exact Zak (by omega),?_⟩;refine hN _ _ ⟨ts++[t],gs++[(ls[i],nS (c / 3 % m))],rfl,fun x o e=>?_,by rw [Zac,Xad];rfl,by rw [Zaf nEG];exact s4 _ _ eE3,T4.upd fun x hx=>(fr4 x hx).2.1,?_,fr4,?_,fun g hg=>?_⟩
        · rw [Zaf (Zag e hG)];exact s4 _ _ (s3 x o e)
        · refine Zb7 nd3 fun hm=>?_
          obtain ⟨o,eo⟩:=T3.some hm;rw [ht] at eo;cases eo
        · rw [etk,Xad];exact sg.append (List.Sublist.refl _)
        · rcases Xaf.mp hg with hg | hg
          · exact gm g hg
          · rw [Xaj.mp hg];exact ⟨_,k0,k1,rfl⟩
     rintro σ' H4 ⟨ts',gs',rfl,s4,eG4,eE4,T4,nd4,fr4,sg',gm'⟩;refine ⟨_,rfl,_,rfl,Or.inl ⟨a,_,_,_,rfl,rfl,s4.seq hA,at0 nat,_,_,rfl,rfl,⟨by decide,by decide⟩,_,_,rfl,rfl,(by show (0:Int)<2;decide),rfl,_,rfl,ite2 (fun h=>?_) (fun h=>?_)⟩⟩;rotate_left
     · exact ⟨_,ts',gs',es,rfl,s4,eG4,eE4,T4,nd4,fr4,sg',se.trans st1,gm'⟩
     · refine ⟨_,rfl,Or.inl ⟨rfl,_,SqL.of eE4⟩,_,rfl,_,rfl,Or.inl ⟨l,_,_,_,rfl,rfl,s4.seq hL,at0 gat,Ee,_,_,rfl,rfl,eE4,by rw [Xaa];exact Zak (by omega),?_⟩⟩
       refine ⟨_,ts',gs',es++[ls[i]],rfl,fun x o e=>?_,by rw [Zaf nEG.symm];exact eG4,by rw [Zac,Xad];rfl,T4.upd fun x hx=>(fr4 x hx).2.2,nd4,fr4,sg',by rw [etk];exact se.append (List.Sublist.refl _),gm'⟩;rw [Zaf (Zag e hEH)];exact s4 _ _ e
   · rintro σ H3 ⟨u5,ts,gs,es,rfl,s3,eG3,eE3,T3,nd3,fr3,sg,se,gm⟩
     rw [Xaa,Xa0,Xas] at sg se;refine ⟨_,rfl,_,rfl,Zbv,fun t ht=>?_⟩;have s6:=Zaj (o:=.tup [.ref G,.ref Ee]) ht;refine q ⟨t,G,Ee,ts,(gs,es)⟩ _ ⟨by have:=sg.length_le;rwa [Xaa] at this,se.length_le,hnd.sublist sg,hnd.sublist se,fun x hx=>⟨sg.subset (List.mem_map_of_mem hx),gm x hx⟩,fun x hx=>se.subset hx⟩ (s3.free ht) hG hEH fr3 nEG.symm nd3 (s3.trans s6) ⟨Zac,s6 _ _ eG3,T3.same s6,s6 _ _ eE3⟩
variable (P w K mg base) in
abbrev ZcH:Prop:=Zbb P w K mg base "_law_state" 1 ["_law_cells", "_law_labels", "_law_many"] (ZdN K)
theorem ZeY (B:Blt mg) (ER:Ers K mg)  (F:Fun K "_law_state" "_law_state" Zby f fd) (hm:mg "_law_state" = some (.ref f)):ZcH P w K mg base :=
 ⟨f,fd,Zgk B ER  F,hm,F.kp,F.binds fun _ _ _ _ _ _ us hl=>(by obtain ⟨x0,x1,x2,rfl⟩:=ZhM hl;rfl)⟩
def ZdO (K:XFg):Sp:=fun vs H Q _=>∃ (l:Addr) (ts:List Addr) (ps:List (Str×Str)),vs=[.ref l]∧SqL K H l (ts.map V.ref)∧Wds H ts (ps.map wG)∧ps.length≤60∧∀ (D:Addr) (H':Hp),H D=none→Same H H'→H' D=some (.lst ((btw "," (ps.map wG)).map V.str))→Q (.ref D) H'
theorem Zgl (B : Blt mg) (ER : Ers K mg)  (F : Fun K "_law_comma" "_law_comma" Zbz f fd) : FnOk P w K mg base CX0 1 f fd ["_law_rows"] (ZdO K) := by
 refine F.ok sc__law_comma (fun vs H Q E h=>?_) (fun cdv A outer s H vs Q E hr h=>?_)
 · obtain ⟨l,ts,ps,rfl,_⟩:=h
   rfl
 · obtain ⟨l, ts, ps, rfl, hL, T, hp, q⟩ := h
   have lts:ts.length=ps.length:=by rw [T.len,Xaa]
   have tkl:∀ i,(btw "," ((ps.map wG).take i)).length≤180:=fun i=>by
    have:=Zgb (sg := ",") (m:=2) (gs:=(ps.map wG).take i) fun g hg=>by
     obtain ⟨q,_,rfl⟩:=Xai.mp (List.mem_of_mem_take hg);exact XaS _
    rw [Xaw,Xaa] at this;omega
   have cmp0:∀ xs:List Str,Cmp 2 (Dt.lst (xs.map Dt.str)) (Dt.lst []):=fun xs=>.lst (Cmps.of fun d hd e he=>by cases he)
   refine ⟨_,(Zad (Zax (i:=1) sc__law_comma.nd (Zaz Zab))
    (Zad (ZbM Xbn rfl (ZaI (pv 0)) (Zam (i:=2) sc__law_comma.nd) (Zad (ZaN (Zas (op_neD hr.units) (pv 1) (Zaz Zab) (ZaC _)) (Zah (Zay (Za9 Xa4 Xa5 Xa6 ZaD (pv 1) (Zaa Zal Zab)))) Zao)
     (Zah (Zax (i:=1) sc__law_comma.nd (Zat Zcv (pv 1) (Zcu ZgG B.b_list (Zaa (pv 2) Zab)))))))
    (Zah (ZaB (pv 1))))),?_⟩
   refine ⟨by decide,fun D0 hD0=>?_⟩
   refine ⟨_,rfl,l,rfl,⟨_,(Zaj hD0).seq hL⟩,Za2 (xs:=ts.map V.ref) (fun i σ H'=>∃ u2 D,σ=[some (.ref l),some (.ref D),u2]∧Same H H'∧H D=none∧H' D=some (.lst ((btw "," ((ps.map wG).take i)).map V.str))) ⟨none,D0,rfl,Zaj hD0,hD0,Zac⟩ (fun i σ H' _ ⟨_,_,_,e,_⟩=>e.seq hL) ?_ ?_⟩
   · rintro i x σ H2 hx ⟨u2,D,rfl,s2,hD,eD⟩
     obtain ⟨t,ht,rfl⟩:=getm hx
     have hil:i<ps.length:=by rw [←lts];exact (Xae.mp ht).1
     have hpi:=Xab hil
     have hw:(ps.map wG)[i]?=some (wG ps[i]):=by rw [Xag,hpi];rfl
     have et:=T.at_ i t _ ht hw
     have hb:=Zip (sg := ",") hw
     have tki:=tkl i
     refine Zcw (fun σ' H'=>σ'=[some (.ref l),some (.ref D),some (.ref t)]∧Same H H'∧H' D=some (.lst ((if i=0 then [] else btw "," ((ps.map wG).take i)++[("," : Str)]).map V.str))) ?_ (fun N hN=>?_)
     case refine_2 =>
      refine ⟨_,rfl,by decide,fun E0 hE0=>?_⟩;obtain ⟨H3,qH3,s3,eE0⟩:=new_at (o:=.lst []) hE0;rw [←qH3];have eD3:=s3 _ _ eD;refine ⟨2,_,_,cmp0 _,by decide,.lst (SqL.of eD3) (IsDts.strs _),.lst (SqL.of eE0) .nil,_,rfl,?_⟩;have s23:=s2.trans s3
      by_cases h0:i=0
      · have e:(btw "," ((ps.map wG).take i))=[]:=by rw [h0];rfl
        rw [ZbQ (by rw [e];rfl)];exact iteF (hN _ _ ⟨rfl,s23,by rw [Xba h0,eD3,e]⟩)
      · have e:(btw "," ((ps.map wG).take i))≠[]:=fun z=>by
         have:=ZhG (sg := ",") (gs:=(ps.map wG).take i) (fun g hg z=>by
          obtain ⟨p,_,rfl⟩:=Xai.mp (List.mem_of_mem_take hg)
          cases z) z
         have:=Xbf List.length this
         rw [Xaw,Xaa,XaL] at this;omega
        rw [ZbN (by intro z;injection z with z;exact e (by simpa using z))];refine iteT ⟨_,rfl,Or.inl ⟨rfl,_,SqL.of eD3⟩,D,_,_,rfl,rfl,eD3,by rw [Xaa];exact Zak (by omega),?_⟩;refine hN _ _ ⟨rfl,fun b o e=>?_,?_⟩
        · rw [Zaf (Zag e hD)];exact s23 b o e
        · rw [Zac,Xa9 h0,Xad];rfl
     rintro σ' H4 ⟨rfl,s4,eD4⟩;refine ⟨_,rfl,_,rfl,t,_,rfl,Or.inl (SqL.of (s4 _ _ et)),fun E1 hE1=>?_⟩;obtain ⟨H5,qH5,s5,eE1⟩:=new_at (o:=.lst ((wG ps[i]).map V.str)) hE1;rw [←qH5];have l2:(wG ps[i]).length=2:=rfl;refine ⟨D,E1,_,_,rfl,rfl,s5 _ _ eD4,eE1,?_,fun E2 hE2=>?_⟩
     · rw [Xaa,Xaa]
       have:(if i=0 then [] else btw "," ((ps.map wG).take i)++[("," : Str)]).length≤181:=by
        split
        · exact XaW _
        · rw [Xac,Xau];omega
       exact XaU (Zak (show _≤1000 by omega))
     have s45:=s4.trans s5;refine ⟨_,E2,rfl,s45.trans (Zaj hE2),s45.free hE2,?_⟩;rw [Zac,hb,Xad]
   · rintro σ H2 ⟨u2,D,rfl,s2,hD,eD⟩
     rw [Xaa,lts,List.take_of_length_le (by rw [Xaa];exact XaS _)] at eD;exact ⟨_,rfl,q D H2 hD s2 eD⟩
variable (P w K mg base) in
abbrev ZcI:Prop:=Zbb P w K mg base "_law_comma" 1 ["_law_rows"] (ZdO K)
theorem ZeZ (B:Blt mg) (ER:Ers K mg)  (F:Fun K "_law_comma" "_law_comma" Zbz f fd) (hm:mg "_law_comma" = some (.ref f)):ZcI P w K mg base :=
 ⟨f,fd,Zgl B ER  F,hm,F.kp,F.binds fun _ _ _ _ _ _ us hl=>(by obtain ⟨x0,rfl⟩:=ZcW hl;rfl)⟩
def Zej (K:XFg):Sp:=fun vs H Q _=>∃ (S P:Addr) (κ:Tag) (rs:List RwS) (n:Str) (pt:List Addr) (ps:List (Str×Str)),vs=[.ref S,.str n,.ref P]∧StW H κ S rs∧PrW H κ P pt ps∧rs.length≤9∧(∀ r∈rs,r.s.1.length≤14∧r.s.2.length≤18)∧ps.length≤60∧∀ (D:Addr) (H':Hp),H D=none→Same H H'→H' D=some (.lst ((wT (wsOf rs) n ps).map V.str))→Q (.ref D) H'
theorem Zhc (B : Blt mg) (ER : Ers K mg) (c__law_comma : ZcI P w K mg base) (F : Fun K "_law_text" "_law_text" ZbR f fd) : FnOk P w K mg base CX0 2 f fd ["_law_states", "_law_inner", "_law_pairs"] (Zej K) := by
 refine F.ok sc__law_text (fun vs H Q E h=>?_) (fun cdv A outer s H vs Q E hr h=>?_)
 · obtain ⟨S,P,κ,rs,n,pt,ps,rfl,_⟩:=h
   rfl
 · obtain ⟨S, P, κ, rs, n, pt, ps, rfl, SW, PW, hr9, hsz, hpl, q⟩ := h
   have hszs:∀ s∈wsOf rs,s.1.length≤14∧s.2.length≤18:=fun s hs=>by obtain ⟨r,hr,rfl⟩:=Xai.mp hs;exact hsz r hr
   have tkl:∀ i,(btw "/" (((wsOf rs).map wS).take i)).length≤558:=fun i=>by
    have:=ZhJ (ss:=(wsOf rs).take i) fun s hs=>hszs s (List.mem_of_mem_take hs)
    rw [XaN,Xaw,Xaa] at this
    have:min i rs.length * 62≤9 * 62:=Nat.mul_le_mul_right _ (by omega)
    omega
   have cmp0:∀ xs:List Str,Cmp 2 (Dt.lst (xs.map Dt.str)) (Dt.lst []):=fun xs=>.lst (Cmps.of fun d hd e he=>by cases he)
   have eS:H S=some (.lst ((rs.map (·.u)).map V.ref)):=by rw [SW.top,Xax];rfl
   refine ⟨_,(Zad (Zax (i:=3) sc__law_text.nd (Zaz Zab))
    (Zad (ZbM Xbn rfl (ZaI (pv 0)) (ZcE (n:=2) rfl (ZaA (Zam (i:=4) sc__law_text.nd) (ZaA (Zam (i:=5) sc__law_text.nd) ZbK))) (Zad (ZaN (Zas (op_neD hr.units) (pv 3) (Zaz Zab) (ZaC _)) (Zah (Zay (Za9 Xa4 Xa5 Xa6 ZaD (pv 3) (Zaa Zal Zab)))) Zao)
     (Zah (Zax (i:=3) sc__law_text.nd (Zat Zcv (Zat Zcv (Zat Zcv (pv 3) (ZaU c__law_comma (Zaa (pv 4) Zab))) (Zaz (Zaa Zal Zab))) (pv 5))))))
    (Zah (ZaB (Zat Zcv (Zat Zcv (pv 3) (Zaz (Zaa Zal (Zaa (pv 1) (Zaa Zal Zab))))) (ZaU c__law_comma (Zaa (pv 2) Zab))))))),?_⟩
   refine ⟨by decide,fun D0 hD0=>?_⟩
   refine ⟨_,rfl,S,rfl,⟨_,SqL.of (Zaj hD0 _ _ eS)⟩,Za2 (xs:=(rs.map (·.u)).map V.ref) (fun i σ H'=>∃ u4 u5 D,σ=[some (.ref S),some (.str n),some (.ref P),some (.ref D),u4,u5]∧Same H H'∧H D=none∧H' D=some (.lst ((btw "/" (((wsOf rs).map wS).take i)).map V.str))) ⟨none,none,D0,rfl,Zaj hD0,hD0,Zac⟩ (fun i σ H' _ ⟨_,_,_,_,e,_⟩=>SqL.of (e _ _ eS)) ?_ ?_⟩
   · rintro i x σ H2 hx ⟨u4,u5,D,rfl,s2,hD,eD⟩
     obtain ⟨u,hu,rfl⟩:=getm hx;obtain ⟨r,hri,rfl⟩:=getm hu;have hil:i<rs.length:=(Xae.mp hri).1;have hmr:=Xah hri;have R:=SW.row r hmr
     have hw:((wsOf rs).map wS)[i]?=some (wS r.s):=by rw [Xag,Xag,hri];rfl
     have hb:=Zip (sg := "/") hw
     have tki:=tkl i;refine ⟨r.u,_,rfl,SqT.of (s2 _ _ R.tu),rfl,_,_,rfl,_,_,rfl,rfl,?_⟩
     refine Zcw (fun σ' H'=>σ'=[some (.ref S),some (.str n),some (.ref P),some (.ref D),some (.ref r.G),some (.ref r.E)]∧Same H H'∧H' D=some (.lst ((if i=0 then [] else btw "/" (((wsOf rs).map wS).take i)++[("/" : Str)]).map V.str))) ?_ (fun N hN=>?_)
     case refine_2 =>
      refine ⟨_,rfl,by decide,fun E0 hE0=>?_⟩;obtain ⟨H3,qH3,s3,eE0⟩:=new_at (o:=.lst []) hE0;rw [←qH3];have eD3:=s3 _ _ eD;refine ⟨2,_,_,cmp0 _,by decide,.lst (SqL.of eD3) (IsDts.strs _),.lst (SqL.of eE0) .nil,_,rfl,?_⟩;have s23:=s2.trans s3
      by_cases h0:i=0
      · have e:(btw "/" (((wsOf rs).map wS).take i))=[]:=by rw [h0];rfl
        rw [ZbQ (by rw [e];rfl)];exact iteF (hN _ _ ⟨rfl,s23,by rw [Xba h0,eD3,e]⟩)
      · have e:(btw "/" (((wsOf rs).map wS).take i))≠[]:=fun z=>by
         have:=ZhG (sg := "/") (gs:=((wsOf rs).map wS).take i) (fun g hg z=>by
          obtain ⟨p,_,rfl⟩:=Xai.mp (List.mem_of_mem_take hg);unfold wS at z
          simp at z) z
         have:=Xbf List.length this
         rw [Xaw,Xaa,Xaa,XaL] at this;omega
        rw [ZbN (by intro z;injection z with z;exact e (by simpa using z))];refine iteT ⟨_,rfl,Or.inl ⟨rfl,_,SqL.of eD3⟩,D,_,_,rfl,rfl,eD3,by rw [Xaa];exact Zak (by omega),?_⟩;refine hN _ _ ⟨rfl,fun b o e=>?_,?_⟩
        · rw [Zaf (Zag e hD)];exact s23 b o e
        · rw [Zac,Xa9 h0,Xad];rfl
     rintro σ' H4 ⟨rfl,s4,eD4⟩
     have lpre:(if i=0 then [] else btw "/" (((wsOf rs).map wS).take i)++[("/" : Str)]).length≤559:=by
      split
      · exact XaW _
      · rw [Xac,Xau];omega
     generalize (if i=0 then [] else btw "/" (((wsOf rs).map wS).take i)++[("/" : Str)])=pre at hb eD4 lpre
     obtain ⟨g8,e8⟩:=hsz r hmr;have gl:=Ziy (gs:=r.s.1);refine ⟨_,rfl,_,rfl,r.G,r.T,r.s.1,rfl,SqL.of (s4 _ _ R.tg),R.gt.same s4,by omega,fun C1 H6 hC1 s6 eC1=>?_⟩;have s46:=s4.trans s6;refine ⟨D,C1,_,_,rfl,rfl,s6 _ _ eD4,eC1,?_,fun C2 hC2=>?_⟩
     · rw [Xaa,Xaa];exact XaU (Zak (by omega))
     generalize hv2:pre.map V.str++(btw "," (r.s.1.map wG)).map V.str=w2
     have l2:w2.length≤601:=by rw [←hv2,Xac,Xaa,Xaa];omega
     obtain ⟨H7,qH7,s7,eC2⟩:=new_at (o:=.lst w2) hC2;rw [←qH7];refine ⟨(show 1≤sizeLine by decide),fun C3 hC3=>?_⟩
     obtain ⟨H8,qH8,s8,eC3⟩:=new_at (o:=.lst [.str ":"]) hC3
     rw [←qH8];refine ⟨C2,C3,_,_,rfl,rfl,s8 _ _ eC2,eC3,XaU (Zak (show _+1≤1000 by omega)),fun C4 hC4=>?_⟩
     obtain ⟨H9,qH9,s9,eC4⟩:=new_at (o:=.lst (w2++[.str ":"])) hC4
     rw [←qH9];have s49:=((s46.trans s7).trans s8).trans s9;refine ⟨_,rfl,C4,r.E,_,_,rfl,rfl,eC4,s49 _ _ R.te,?_,fun C5 hC5=>?_⟩
     · rw [Xac,Xaa];exact XaU (Zak (show _+1+_≤1000 by omega))
     refine ⟨_,_,C5,rfl,s49.trans (Zaj hC5),s49.free hC5,?_⟩;rw [Zac,hb,←hv2];unfold wS;rw [Xad,Xad,Xad,XaE,XaE,XaE];rfl
   · rintro σ H2 ⟨u4,u5,D,rfl,s2,hD,eD⟩
     rw [Xaa,Xaa,List.take_of_length_le (by rw [Xaa,Xaa];exact XaS _)] at eD;have l1:=ZhJ hszs;rw [Xaa] at l1;have l1':rs.length * 62≤9 * 62:=Nat.mul_le_mul_right _ hr9;have l2:=Ziy (gs:=ps);refine ⟨_,rfl,_,rfl,(show 3≤sizeLine by decide),fun M1 hM1=>?_⟩
     have s7:=Zaj (o:=.lst [.str "|",.str n,.str "|"]) hM1
     have eM1:(upd H2 M1 (.lst [.str "|",.str n,.str "|"])) M1=some (.lst (([("|" : Str),n, "|"]:List Str).map V.str)):=Zac
     generalize upd H2 M1 (.lst [.str "|",.str n,.str "|"])=H7 at s7 eM1 ⊢
     refine ⟨D,M1,_,_,rfl,rfl,s7 _ _ eD,eM1,?_,fun M2 hM2=>?_⟩
     · rw [Xaa,Xaa];exact XaU (Zak (show _+3≤1000 by omega))
     generalize hv2:(btw "/" ((wsOf rs).map wS)).map V.str++([("|" : Str),n, "|"]:List Str).map V.str=w2
     have l3:w2.length≤561:=by rw [←hv2,Xac,Xaa,Xaa];show _+3≤561;omega
     obtain ⟨H8,qH8,s8,eM2⟩:=new_at (o:=.lst w2) hM2;rw [←qH8];have s28:=(s2.trans s7).trans s8;refine ⟨_,rfl,P,pt,ps,rfl,SqL.of (s28 _ _ PW.pr),PW.pp.same s28,by omega,fun C1 H9 hC1 s9 eC1=>?_⟩;have s29:=s28.trans s9;refine ⟨M2,C1,_,_,rfl,rfl,s9 _ _ eM2,eC1,?_,fun M3 hM3=>?_⟩
     · rw [Xaa];exact XaU (Zak (by omega))
     refine q M3 _ (s29.free hM3) (s29.trans (Zaj hM3)) ?_;rw [Zac,←hv2];unfold wT;rw [Xad,Xad]
variable (P w K mg base) in
abbrev ZcX:Prop:=Zbb P w K mg base "_law_text" 2 ["_law_states", "_law_inner", "_law_pairs"] (Zej K)
theorem Zfg (B:Blt mg) (ER:Ers K mg) (c__law_comma:ZcI P w K mg base) (F:Fun K "_law_text" "_law_text" ZbR f fd) (hm:mg "_law_text" = some (.ref f)):ZcX P w K mg base :=
 ⟨f,fd,Zhc B ER c__law_comma F,hm,F.kp,F.binds fun _ _ _ _ _ _ us hl=>(by obtain ⟨x0,x1,x2,rfl⟩:=ZhM hl;rfl)⟩
def badN:List Str:=["", "01", "-1", "+1", "1_0", "00", "a", "1.0", "10000", "\n1", "0x1", "-0", "0001", "99999"]
theorem Zkt:∀ w∈badN,numB w=false∧w ∉ sgL∧32 ∉ w.cps.toList∧w.length≤9:=by decide +kernel
def FigD (m:Int) (w d:Str):Prop:=(w∈badN∧d = "text")∨∃ n,0≤n∧n<10000∧w=nS n∧((n<m∧d = "made")∨(m≤n∧d = "place"))
theorem mod_at {α:Type}{l:List α}{m:Nat} (c:Int) (hl:l.length=m) (hm:0<m):∃ x,x∈l∧atI l (c % (m:Int))=some x:=by
 have h0:=XaY c (show (m:Int)≠0 by omega);have h1:=XaX c (show (0:Int)<m by omega);obtain ⟨k,e⟩:=XaZ h0
 have hk:k<l.length:=by omega
 exact ⟨l[k],Xav hk,by rw [e];exact Zbw (Xab hk)⟩
theorem mod_atS {l:List Str}{m:Nat} (c:Int) (hl:l.length=m) (hm:0<m):∃ x,x∈l∧atI (l.map V.str) (c % (m:Int))=some (.str x):=by
 obtain ⟨v,hv,e⟩:=mod_at (l:=l.map V.str) c (by rw [Xaa];exact hl) hm;obtain ⟨x,hx,rfl⟩:=Xai.mp hv;exact ⟨x,hx,e⟩
def Zc9 (K:XFg):Sp:=fun vs H Q _=>∃ (c m:Int),vs=[.int c,.int m]∧∀ (t:Addr) (w d:Str) (H':Hp),FigD m w d→H t=none→Same H H'→H' t=some (.tup [.str w,.str d])→Q (.ref t) H'
theorem Ze0 (B:Blt mg) (ER:Ers K mg)  (F:Fun K "_law_figures" "_law_figures" Zbg f fd):FnOk P w K mg base CX0 1 f fd ["_law_cell", "_law_many"] (Zc9 K):=by
 refine F.ok sc__law_figures (fun vs H Q E h=>?_) (fun cdv A outer s H vs Q E hr h=>?_)
 · obtain ⟨c,m,rfl,_⟩:=h
   rfl
 · obtain ⟨c,m,rfl,q⟩:=h
   refine ⟨_,(Zad (Zax (i:=2) sc__law_figures.nd (Zaz (Zaa Zal (Zaa Zal (Zaa Zal (Zaa Zal (Zaa Zal (Zaa Zal (Zaa Zal (Zaa Zal (Zaa Zal (Zaa Zal (Zaa Zal (Zaa Zal (Zaa Zal (Zaa Zal Zab))))))))))))))))
    (Zad (ZaN (Zas Zb0 (Zat ZaF (pv 0) Zai) Zai (ZaC _)) (Zah (ZaB (ZcO (Zaa (ZaZ ZaE (pv 2) (Zat ZaF (Zat ZaO (pv 0) Zai) Zai)) (Zaa Zal Zab))))) Zao)
    (Zad (Zax (i:=3) sc__law_figures.nd (Zat ZaF (Zat ZaO (pv 0) Zai) (ZaZ ZaE (Zaz (Zaa Zai (Zaa Zai (Zaa Zai (Zaa Zai Zab))))) (Zat ZaF (Zat ZaO (pv 0) Zai) Zai))))
    (Zah (ZaB (ZcO (Zaa (Zcu ZeN B.b_str (Zaa (pv 3) Zab)) (Zaa (ZkC (Zas Zjq (pv 3) (pv 1) (ZaC _)) Zal Zal) Zab)))))))),?_⟩
   refine ⟨by decide,fun D hD=>?_⟩
   obtain ⟨H1,qH1,s1,eD⟩:=new_at (o:=.lst [.str "",.str "01",.str "-1",.str "+1",.str "1_0",.str "00",.str "a",.str "1.0",.str "10000",.str "\n1",.str "0x1",.str "-0",.str "0001",.str "99999"]) hD
   rw [←qH1];have eD:H1 D=some (.lst (badN.map V.str)):=eD;refine ⟨_,rfl,_,_,rfl,rfl,(by show (0:Int)<2;decide),rfl,_,rfl,ite2 (fun h=>?_) (fun h=>?_)⟩
   · obtain ⟨w,hw,ew⟩:=mod_atS (l:=badN) (m:=14) (c / 2) rfl (by decide)
     refine ⟨_,rfl,_,rfl,_,_,rfl,rfl,⟨by decide,by decide⟩,_,_,rfl,rfl,(by show (0:Int)<14;decide),Or.inl ⟨D,_,_,.str w,rfl,rfl,SqL.of eD,ew,Zbv,fun t ht=>?_⟩⟩
     exact q t w "text" _ (.inl ⟨hw,rfl⟩) (s1.free ht) (s1.trans (Zaj ht)) Zac
   · refine ⟨_,rfl,_,_,rfl,rfl,⟨by decide,by decide⟩,by decide,fun D2 hD2=>?_⟩
     obtain ⟨H2,qH2,s2,eD2⟩:=new_at (o:=.lst [.int 10,.int 100,.int 1000,.int 10000]) hD2;rw [←qH2];have eD2:H2 D2=some (.lst (([10,100,1000,10000]:List Int).map V.int)):=eD2;obtain ⟨v,hv,ev⟩:=mod_at (l:=([10,100,1000,10000]:List Int).map V.int) (m:=4) (c / 20000) rfl (by decide);obtain ⟨k,hk,rfl⟩:=Xai.mp hv
     have hk:0<k∧k≤10000:=by
      simp only [Xam,List.not_mem_nil,or_false] at hk
      rcases hk with rfl | rfl | rfl | rfl <;> decide
     have n0:=XaY (c / 2) (show k≠0 by omega);have n1:=XaX (c / 2) hk.1;refine ⟨_,rfl,_,_,rfl,rfl,⟨by decide,by decide⟩,_,_,rfl,rfl,(by show (0:Int)<4;decide),Or.inl ⟨D2,_,_,.int k,rfl,rfl,SqL.of eD2,ev,_,_,rfl,rfl,hk.1,?_⟩⟩;refine g_in ?_;try dsimp only
     generalize c / 2 % k=n at n0 n1 ⊢;refine ⟨_,rfl,n,rfl,ZeP n0 (by omega),_,rfl,_,rfl,_,_,rfl,rfl,_,rfl,ite2 (fun h=>?_) (fun h=>?_)⟩
     · refine ⟨Zbv,fun t ht=>q t (nS n) "made" _ (.inr ⟨n,n0,by omega,rfl,.inl ⟨Xa3 h,rfl⟩⟩) ((s1.trans s2).free ht) ((s1.trans s2).trans (Zaj ht)) Zac⟩
     · refine ⟨Zbv,fun t ht=>q t (nS n) "place" _ (.inr ⟨n,n0,by omega,rfl,.inr ⟨Int.not_lt.mp fun z=>h (Xa1 z),rfl⟩⟩) ((s1.trans s2).free ht) ((s1.trans s2).trans (Zaj ht)) Zac⟩
variable (P w K mg base) in
abbrev Zcd:Prop:=Zbb P w K mg base "_law_figures" 1 ["_law_cell", "_law_many"] (Zc9 K)
theorem Zd5 (B:Blt mg) (ER:Ers K mg)  (F:Fun K "_law_figures" "_law_figures" Zbg f fd) (hm:mg "_law_figures" = some (.ref f)):Zcd P w K mg base :=
 ⟨f,fd,Ze0 B ER  F,hm,F.kp,F.binds fun _ _ _ _ _ _ us hl=>(by obtain ⟨x0,x1,rfl⟩:=ZdL hl;rfl)⟩
def NumD (m:Int) (rs:List RwS) (inner:Str) (rs':List RwS) (inner' d:Str):Prop:=∃ w,FigD m w d∧((rs'=rs∧inner'=w)∨(inner'=inner∧∃ (i j:Nat) (r:RwS) (p:Str×Str),rs[i]?=some r∧r.s.1[j]?=some p∧rs'=rs.set i ⟨r.u,r.G,r.E,r.T,(r.s.1.set j (p.1,w),r.s.2)⟩))
def Zc1 (K:XFg):Sp:=fun vs H Q _=>∃ (S:Addr) (κ:Tag) (rs:List RwS) (inner:Str) (c m:Int),vs=[.ref S,.str inner,.int c,.int m]∧StW H κ S rs∧rs≠[]∧rs.length≤8∧(∀ r∈rs,r.s.1.length≤8)∧∀ (t:Addr) (rs':List RwS) (w' d:Str) (H':Hp),NumD m rs inner rs' w' d→H t=none→StW H' κ S rs'→(∀ b o,H b=some o→(∀ i,κ b≠(4,i))→H' b=some o)→(∀ b,H' b=none→H b=none)→H' t=some (.tup [.str w',.str d])→Q (.ref t) H'
theorem Zeo (B:Blt mg) (ER:Ers K mg) (c__law_figures:Zcd P w K mg base) (F:Fun K "_law_numbered" "_law_numbered" ZaY f fd):FnOk P w K mg base CX0 2 f fd ["_law_states", "_law_inner", "_law_cell", "_law_many"] (Zc1 K):=by
 refine F.ok sc__law_numbered (fun vs H Q E h=>?_) (fun cdv A outer s H vs Q E hr h=>?_)
 · obtain ⟨S,κ,rs,inner,c,m,rfl,_⟩:=h
   rfl
 · obtain ⟨S,κ,rs,inner,c,m,rfl,SW,hne,hl8,hg8,q⟩:=h
   refine ⟨_,(Zad (Zgy (ZaU c__law_figures (Zaa (Zat ZaO (pv 2) Zai) (Zaa (pv 3) Zab))) (ZcE (n:=2) rfl (ZaA (Zam (i:=4) sc__law_numbered.nd) (ZaA (Zam (i:=5) sc__law_numbered.nd) ZbK))))
    (Zad (Zax (i:=6) sc__law_numbered.nd (Zat ZaF (Zat ZaO (pv 2) Zai) (Zan ZaR B.b_len (Zaa (pv 0) Zab))))
    (Zad (ZaN (PW.pt (Zhp (Zas Zjq (Zat ZaF (pv 2) Zai) Zai (ZaC _)) (Zfo (Zas (op_eqD hr.units) (ZaZ ZaE (ZaZ ZaE (pv 0) (pv 6)) Zai) (Zaz Zab) (ZaC _))))) (Zah (ZaB (ZcO (Zaa (pv 4) (Zaa (pv 5) Zab))))) Zao)
    (Zad (Zgy (pv 4) (Zjj (ZaZ ZaE (ZaZ ZaE (ZaZ ZaE (pv 0) (pv 6)) Zai) (Zat ZaF (Zat ZaO (pv 2) Zai) (Zan ZaR B.b_len (Zaa (ZaZ ZaE (ZaZ ZaE (pv 0) (pv 6)) Zai) Zab)))) Zai ZhY))
    (Zah (ZaB (ZcO (Zaa (pv 1) (Zaa (pv 5) Zab))))))))),?_⟩
   refine ⟨_,rfl,_,_,rfl,rfl,⟨by decide,by decide⟩,_,rfl,_,m,rfl,fun tf w d H1 hF htf s1 etf=>?_⟩;have SW1:=SW.same s1;refine ⟨tf,_,rfl,SqT.of etf,rfl,_,_,rfl,_,_,rfl,rfl,?_⟩;obtain ⟨i,r,ei,hi⟩:=Zew hne (c / 5);have hmr:=Xah hi;have R:=SW1.row r hmr;refine ⟨_,rfl,_,_,rfl,rfl,⟨by decide,by decide⟩,_,rfl,_,_,rfl,Or.inl ⟨_,SqL.of SW1.top,rfl⟩,_,_,rfl,rfl,?_,?_⟩
   · rw [Xaa]
     have:=List.length_pos_iff.mpr hne
     omega
   refine g_in ?_;try dsimp only
   rw [Xaa,ei];have cmp0:∀ xs:List Dt,Cmp 2 (Dt.lst xs) (Dt.lst []):=fun xs=>.lst (Cmps.of fun d hd e he=>by cases he)
   have qr:∀ H2 t,Same H1 H2→H2 t=none→Q (.ref t) (upd H2 t (.tup [.str w,.str d])):=fun H2 t s2 ht=>by
    have s3:=Zaj (o:=.tup [.str w,.str d]) ht;have s13:=(s1.trans s2).trans s3;exact q t rs w d _ ⟨w,hF,.inl ⟨rfl,rfl⟩⟩ ((s1.trans s2).free ht) (SW.same s13) (fun b o e _=>s13 b o e) (fun b e=>s13.free e) Zac
   refine ⟨_,rfl,_,_,rfl,rfl,(by show (0:Int)<5;decide),_,_,rfl,rfl,_,rfl,ite2 (fun h=>iteT ⟨_,rfl,_,rfl,Zbv,fun t ht=>qr _ t (Same.refl _) ht⟩) (fun h=>⟨_,rfl,_,rfl,Or.inl ⟨S,_,_,.ref r.u,rfl,rfl,SqL.of SW1.top,ZcU hi,Or.inr (Or.inl ⟨r.u,_,_,.ref r.G,rfl,rfl,SqT.of R.tu,rfl,by decide,fun E0 hE0=>?_⟩)⟩⟩)⟩;obtain ⟨H2,qH2,s2,eE0⟩:=new_at (o:=.lst []) hE0;rw [←qH2];have R2:=R.same s2;have SW2:=SW1.same s2;refine ⟨2,_,_,cmp0 _,by decide,.lst (SqL.of R2.tg) R2.gt.dts,.lst (SqL.of eE0) .nil,_,rfl,?_⟩
   by_cases h0:r.s.1=[]
   · rw [ZbQ (by rw [h0];rfl)]
     exact iteT ⟨_,rfl,_,rfl,Zbv,fun t ht=>qr _ t s2 ht⟩
   rw [ZbN (by intro z;injection z with z;exact h0 (by simpa using z))];refine iteF ?_
   have lT:r.T.length=r.s.1.length:=by rw [R2.gt.len,Xaa]
   have lp:0<r.s.1.length:=List.length_pos_iff.mpr h0;have j0:=XaY (c / 20) (show (r.s.1.length:Int)≠0 by omega);have j1:=XaX (c / 20) (show (0:Int)<r.s.1.length by omega);obtain ⟨j,ej⟩:=XaZ j0
   have hj:j<r.s.1.length:=by omega
   obtain ⟨pj,hpj⟩:∃ pj,r.s.1[j]?=some pj:=⟨_,Xab hj⟩;obtain ⟨tj,htj⟩:∃ tj,r.T[j]?=some tj:=⟨_,Xab (show j<r.T.length by omega)⟩;have etj:=R2.gt.at_ j _ _ htj (by rw [Xag,hpj];rfl);refine ⟨_,rfl,_,rfl,_,rfl,Or.inl ⟨S,_,_,.ref r.u,rfl,rfl,SqL.of SW2.top,ZcU hi,Or.inr (Or.inl ⟨r.u,_,_,.ref r.G,rfl,rfl,SqT.of R2.tu,rfl,_,rfl,_,_,rfl,rfl,⟨by decide,by decide⟩,_,rfl,_,rfl,Or.inl ⟨S,_,_,.ref r.u,rfl,rfl,SqL.of SW2.top,ZcU hi,Or.inr (Or.inl ⟨r.u,_,_,.ref r.G,rfl,rfl,SqT.of R2.tu,rfl,_,_,rfl,Or.inl ⟨_,SqL.of R2.tg,rfl⟩,_,_,rfl,rfl,?_,Or.inl ⟨r.G,_,_,.ref tj,rfl,rfl,SqL.of R2.tg,?_,tj,_,_,1,rfl,rfl,etj,rfl,?_⟩⟩)⟩⟩)⟩⟩
   · rw [Xaa,lT];omega
   · rw [Xaa,lT,ej];exact Zbw (by rw [Xag,htj];rfl)
   have e2:((wG pj).map V.str).set 1 (.str w)=[.str pj.1,.str w]:=rfl;rw [e2];refine ⟨_,rfl,_,rfl,Zbv,fun t ht=>?_⟩;have SW3:=SW2.putT (p:=(pj.1,w)) hi htj;have kt:=(SW2.kR i r hi).2.2.2 tj (Xah htj);have s12:=s1.trans s2;generalize hH3:upd H2 tj (.lst [.str pj.1,.str w])=H3 at ht SW3
   have k3:∀ b o,H b=some o→(∀ i,κ b≠(4,i))→H3 b=some o:=fun b o e n=>by
    rw [←hH3,Zaf (fun z=>n i (by rw [z];exact kt))];exact s12 b o e
   have f3:∀ b,H3 b=none→H b=none:=fun b e=>by
    rw [←hH3] at e
    by_cases z:b=tj
    · rw [z,Zac] at e;cases e
    · rw [Zaf z] at e;exact s12.free e
   have s3:=Zaj (o:=.tup [.str inner,.str d]) ht;exact q t _ inner d _ ⟨w,hF,.inr ⟨rfl,i,j,r,pj,hi,hpj,rfl⟩⟩ (f3 t ht) (SW3.same s3) (fun b o e n=>s3 _ _ (k3 b o e n)) (fun b e=>f3 b (s3.free e)) Zac
variable (P w K mg base) in
abbrev ZbX:Prop:=Zbb P w K mg base "_law_numbered" 2 ["_law_states", "_law_inner", "_law_cell", "_law_many"] (Zc1 K)
theorem ZdP (B:Blt mg) (ER:Ers K mg) (c__law_figures:Zcd P w K mg base) (F:Fun K "_law_numbered" "_law_numbered" ZaY f fd) (hm:mg "_law_numbered" = some (.ref f)):ZbX P w K mg base :=
 ⟨f,fd,Zeo B ER c__law_figures F,hm,F.kp,F.binds fun _ _ _ _ _ _ us hl=>(by obtain ⟨x0,x1,x2,x3,rfl⟩:=len_4 hl;rfl)⟩
def badW:List Str:=["", "Ab", "abcdefghi", "a-b", "a1", "-", "1"]
theorem badW_ok:∀ w∈badW,w ∉ sgL∧32 ∉ w.cps.toList∧w.length≤9:=by decide +kernel
def NamedD (ss:List WSt) (ps:List (Str×Str)) (ss':List WSt) (ps':List (Str×Str)):Prop:=∃ w∈badW,(∃ (i:Nat) (s:WSt),ss[i]?=some s∧ps'=ps∧(ss'=ss.set i (s.1++[(w,("0" : Str))],s.2)∨ss'=ss.set i (s.1,w :: s.2)))∨(ss'=ss∧(ps'=ps++[(("z" : Str),w)]∨ps'=ps++[(w,("z" : Str))]))
def ZdQ (_:XFg):Sp:=fun vs H Q _=>∃ (S P:Addr) (c:Int) (κ:Tag) (rs:List RwS) (pt:List Addr) (ps:List (Str×Str)),vs=[.ref S,.ref P,.int c]∧StW H κ S rs∧PrW H κ P pt ps∧rs≠[]∧rs.length≤8∧(∀ r∈rs,r.s.1.length≤8∧r.s.2.length≤8)∧ps.length≤60 ∧
 ∀ (κ':Tag) (rs':List RwS) (pt':List Addr) (ps':List (Str×Str)) (H':Hp),NamedD (wsOf rs) ps (wsOf rs') ps'→ThenW H H' κ κ' S P rs' pt' ps'→Q .non H'
theorem Zgm (B:Blt mg) (ER:Ers K mg)  (F:Fun K "_law_named" "_law_named" ZbA f fd):FnOk P w K mg base CX0 1 f fd ["_law_states", "_law_pairs", "_law_cell"] (ZdQ K):=by
 refine F.ok sc__law_named (fun vs H Q E h=>?_) (fun cdv A outer s H vs Q E hr h=>?_)
 · obtain ⟨S,P,c,κ,rs,pt,ps,rfl,_⟩:=h
   rfl
 · obtain ⟨S,P,c,κ,rs,pt,ps,rfl,SW,PW,hne,h8,hb,hpl,q⟩:=h
   obtain ⟨i,r,ei,hi⟩:=Zew hne (c / 21);have hl0:0<rs.length:=List.length_pos_iff.mpr hne
   obtain ⟨w,hw,hwa⟩:∃ x,x∈badW∧atI (badW.map V.str) (c % 7)=some (.str x):=by
    have h0:=XaY c (show (7:Int)≠0 by omega);have h1:=XaX c (show (0:Int)<7 by omega);obtain ⟨k,e⟩:=XaZ h0
    have hk:k<badW.length:=by show k<7;omega
    exact ⟨badW[k],Xav hk,by rw [e];exact Zbw (by rw [Xag,Xab hk];rfl)⟩
   refine ⟨_,(Zad (Zax (i:=3) sc__law_named.nd (ZaZ ZaE (Zaz (Zaa Zal (Zaa Zal (Zaa Zal (Zaa Zal (Zaa Zal (Zaa Zal (Zaa Zal Zab)))))))) (Zat ZaF (pv 2) Zai)))
    (Zad (Zax (i:=4) sc__law_named.nd (Zat ZaF (Zat ZaO (pv 2) Zai) (Zan ZaR B.b_len (Zaa (pv 0) Zab))))
    (Zad (ZaN (Zas Zb0 (Zat ZaF (Zat ZaO (pv 2) Zai) Zai) Zai (ZaC _)) (Zah (Zay (Za9 Xa4 Xa5 Xa6 ZaD (ZaZ ZaE (ZaZ ZaE (pv 0) (pv 4)) Zai) (Zaa (Zaz (Zaa (pv 3) (Zaa Zal Zab))) Zab)))) Zao)
    (Zad (ZaN (Zas Zb0 (Zat ZaF (Zat ZaO (pv 2) Zai) Zai) Zai (ZaC _)) (Zah (Zay (Za9 Xa4 PySem.F.slot_list_insert PySem.F.type_list_insert ZeM (ZaZ ZaE (ZaZ ZaE (pv 0) (pv 4)) Zai) (Zaa Zai (Zaa (pv 3) Zab))))) Zao)
    (Zah (ZaN (Zas Zb0 (Zat ZaF (Zat ZaO (pv 2) Zai) Zai) Zai (ZaC _)) (Zah (Zay (Za9 Xa4 Xa5 Xa6 ZaD (pv 1) (Zaa (ZaZ ZaE (Zaz (Zaa (Zaz (Zaa Zal (Zaa (pv 3) Zab))) (Zaa (Zaz (Zaa (pv 3) (Zaa Zal Zab))) Zab))) (Zat ZaF (Zat ZaO (pv 2) Zai) Zai)) Zab)))) Zao)))))),?_⟩
   have hln:(rs.map fun r=>V.ref r.u).length=rs.length:=Xaa _;refine ⟨show 7≤sizeLine by decide,fun l3 hl3=>?_⟩;generalize hG:upd H l3 _=H3
   have e3:H3 l3=some (.lst (badW.map V.str)):=by rw [←hG,Zac];rfl
   have s3:Same H H3:=by rw [←hG];exact Zaj hl3
   clear hG;refine ⟨_,rfl,_,_,rfl,rfl,(by show (0:Int)<7;decide),Or.inl ⟨l3,_,_,.str w,rfl,rfl,SqL.of e3,hwa,?_⟩⟩;refine g_in ?_;try dsimp only
   have T3:=SW.same s3;have P3:=PW.same s3;have hm:=Xah hi;have R:=T3.row r hm
   have hsi:(wsOf rs)[i]?=some r.s:=by rw [Xag,hi];rfl
   refine ⟨_,rfl,_,_,rfl,rfl,⟨by decide,by decide⟩,_,rfl,_,_,rfl,Or.inl ⟨_,SqL.of T3.top,rfl⟩,_,_,rfl,rfl,(by rw [hln];omega),?_⟩;rw [hln];refine g_in ?_;try dsimp only
   rw [ei]
   have lT:r.T.length=r.s.1.length:=by rw [R.gt.len,Xaa]
   have b1:=(hb r hm).1;have b2:=(hb r hm).2
   have lpt:pt.length=ps.length:=by rw [PW.pp.len,Xaa]
   obtain ⟨k1,k2,k3,k4⟩:=T3.kR i r hi
   rcases (show c / 7 % 3=0∨c / 7 % 3=1∨c / 7 % 3=2 by omega) with hq | hq | hq
   · refine ⟨_,rfl,_,_,rfl,rfl,⟨by decide,by decide⟩,_,_,rfl,rfl,(by show (0:Int)<3;decide),rfl,_,rfl,ite2 (fun _=>?_) (fun h=>absurd (Xa1 (Xbf V.int hq)) h)⟩
     refine ⟨_,rfl,_,rfl,Or.inl ⟨S,_,_,_,rfl,rfl,SqL.of T3.top,ZcU hi,Or.inr (Or.inl ⟨_,_,_,.ref r.G,rfl,rfl,SqT.of R.tu,rfl,Or.inl ⟨rfl,_,SqL.of R.tg⟩,_,rfl,Zbv,fun t ht=>?_⟩)⟩⟩
     have s4:=Zaj (o:=.lst [.str w,.str "0"]) ht
     have et:(upd H3 t (.lst [.str w,.str "0"])) t=some (.lst ((wG (w, "0")).map V.str)):=Zac
     generalize upd H3 t (.lst [.str w,.str "0"])=H4 at s4 et ⊢
     have s34:=s3.trans s4;have T4:=(T3.tag (g:=(4,i)) ht).same s4;have P4:=(P3.tag (g:=(4,i)) ht).same s4;have R4:=T4.row r hm;refine ⟨r.G,_,_,rfl,rfl,R4.tg,by rw [Xaa];exact Zak (by omega),?_⟩
     have e4:r.T.map V.ref++[V.ref t]=(r.T++[t]).map V.ref:=by rw [Xad];rfl
     rw [e4]
     have T5:=T4.putG (T':=r.T++[t]) (gs':=r.s.1++[(w,("0" : Str))]) hi (by rw [Xad];exact R4.gt.snoc et) (Zb7 k3 fun hm=>by obtain ⟨o,eo⟩:=R.gt.some hm;rw [ht] at eo;cases eo) (fun x hx=>by
      rcases Xaf.mp hx with z | z
      · exact (T4.kR i r hi).2.2.2 x z
      · rw [Xaj.mp z];exact ZbW)
     have kG:=(T4.kR i r hi).1;have P5:=P4.upd (x:=r.G) (o:=.lst ((r.T++[t]).map V.ref)) (by rw [kG];intro z;cases z) (by rw [kG];intro z;cases z);refine ⟨_,rfl,_,_,rfl,rfl,⟨by decide,by decide⟩,_,_,rfl,rfl,(by show (0:Int)<3;decide),rfl,_,rfl,ite2 (fun h=>?_) (fun _=>?_)⟩
     · have e:c / 7 % 3=1:=V.int.inj (Xa3 h)
       omega
     refine ⟨_,rfl,_,_,rfl,rfl,⟨by decide,by decide⟩,_,_,rfl,rfl,(by show (0:Int)<3;decide),rfl,_,rfl,ite2 (fun h=>?_) (fun _=>?_)⟩
     · have e:c / 7 % 3=2:=V.int.inj (Xa3 h)
       omega
     refine q _ _ pt ps _ ⟨w,hw,.inl ⟨i,r.s,hsi,rfl,.inl (Zdl)⟩⟩ ⟨T5,P5,fun b o e=>ZaV (Zbp ht ⟨o,s3 _ _ e⟩),fun b o e kb=>?_,fun b e=>?_⟩
     · rw [Zaf (fun z=>by rw [z] at kb;rw [k1] at kb;cases kb)];exact s34 _ _ e
     · by_cases z:b=r.G
       · rw [z,Zac] at e;cases e
       · rw [Zaf z] at e;exact s34.free e
   · refine ⟨_,rfl,_,_,rfl,rfl,⟨by decide,by decide⟩,_,_,rfl,rfl,(by show (0:Int)<3;decide),rfl,_,rfl,ite2 (fun h=>?_) (fun _=>?_)⟩
     · have e:c / 7 % 3=0:=V.int.inj (Xa3 h)
       omega
     refine ⟨_,rfl,_,_,rfl,rfl,⟨by decide,by decide⟩,_,_,rfl,rfl,(by show (0:Int)<3;decide),rfl,_,rfl,ite2 (fun _=>?_) (fun h=>absurd (Xa1 (Xbf V.int hq)) h)⟩;refine ⟨_,rfl,_,rfl,Or.inl ⟨S,_,_,_,rfl,rfl,SqL.of T3.top,ZcU hi,Or.inr (Or.inl ⟨_,_,_,.ref r.E,rfl,rfl,SqT.of R.tu,rfl,Or.inl ⟨rfl,_,SqL.of R.te⟩,_,rfl,r.E,_,_,0,rfl,rfl,R.te,by decide,Int.natCast_nonneg _,by rw [Xaa];omega,?_⟩)⟩⟩;have e4:(r.s.2.map V.str).take (0:Int).toNat++V.str w :: (r.s.2.map V.str).drop (0:Int).toNat=(w :: r.s.2).map V.str:=rfl;rw [e4];have T5:=T3.putE (es':=w :: r.s.2) hi;have P5:=P3.upd (x:=r.E) (o:=.lst ((w :: r.s.2).map V.str)) (by rw [k2];intro z;cases z) (by rw [k2];intro z;cases z);refine ⟨_,rfl,_,_,rfl,rfl,⟨by decide,by decide⟩,_,_,rfl,rfl,(by show (0:Int)<3;decide),rfl,_,rfl,ite2 (fun h=>?_) (fun _=>?_)⟩
     · have e:c / 7 % 3=2:=V.int.inj (Xa3 h)
       omega
     refine q _ _ pt ps _ ⟨w,hw,.inl ⟨i,r.s,hsi,rfl,.inr (Zdl)⟩⟩ ⟨T5,P5,ExtK.refl,fun b o e kb=>?_,fun b e=>?_⟩
     · rw [Zaf (fun z=>by rw [z] at kb;rw [k2] at kb;cases kb)];exact s3 _ _ e
     · by_cases z:b=r.E
       · rw [z,Zac] at e;cases e
       · rw [Zaf z] at e;exact s3.free e
   · refine ⟨_,rfl,_,_,rfl,rfl,⟨by decide,by decide⟩,_,_,rfl,rfl,(by show (0:Int)<3;decide),rfl,_,rfl,ite2 (fun h=>?_) (fun _=>?_)⟩
     · have e:c / 7 % 3=0:=V.int.inj (Xa3 h)
       omega
     refine ⟨_,rfl,_,_,rfl,rfl,⟨by decide,by decide⟩,_,_,rfl,rfl,(by show (0:Int)<3;decide),rfl,_,rfl,ite2 (fun h=>?_) (fun _=>?_)⟩
     · have e:c / 7 % 3=1:=V.int.inj (Xa3 h)
       omega
     refine ⟨_,rfl,_,_,rfl,rfl,⟨by decide,by decide⟩,_,_,rfl,rfl,(by show (0:Int)<3;decide),rfl,_,rfl,ite2 (fun _=>?_) (fun h=>absurd (Xa1 (Xbf V.int hq)) h)⟩;refine ⟨_,rfl,Or.inl ⟨rfl,_,SqL.of P3.pr⟩,_,rfl,Zbv,fun t1 ht1=>?_⟩
     have s4:=Zaj (o:=.lst [.str "z",.str w]) ht1
     have et1:(upd H3 t1 (.lst [.str "z",.str w])) t1=some (.lst ((wG ("z",w)).map V.str)):=Zac
     generalize upd H3 t1 (.lst [.str "z",.str w])=H4 at s4 et1 ⊢
     refine ⟨_,rfl,Zbv,fun t2 ht2=>?_⟩
     have s5:=Zaj (o:=.lst [.str w,.str "z"]) ht2
     have et2:(upd H4 t2 (.lst [.str w,.str "z"])) t2=some (.lst ((wG (w, "z")).map V.str)):=Zac
     generalize upd H4 t2 (.lst [.str w,.str "z"])=H5 at s5 et2 ⊢
     refine ⟨Zbv,fun l6 hl6=>?_⟩;obtain ⟨H6,qH6,s6,e6⟩:=new_at (o:=.lst [.ref t1,.ref t2]) hl6;rw [←qH6];have s46:=(s4.trans s5).trans s6;have s36:=s3.trans s46
     have pick:∃ t p,atI [V.ref t1,V.ref t2] (c / 21 % 2)=some (.ref t)∧H3 t=none∧H6 t=some (.lst ((wG p).map V.str))∧(p=(("z" : Str),w)∨p=(w,("z" : Str))):=by
      rcases (show c / 21 % 2=0∨c / 21 % 2=1 by omega) with e | e
      · exact ⟨t1,("z",w),by rw [e];exact Zbw (j:=0) rfl,ht1,s6 _ _ (s5 _ _ et1),.inl rfl⟩
      · exact ⟨t2,(w, "z"),by rw [e];exact Zbw (j:=1) rfl,s4.free ht2,s6 _ _ et2,.inr rfl⟩
     obtain ⟨t,p,eat,ht,et,ep⟩:=pick;refine ⟨_,rfl,_,_,rfl,rfl,⟨by decide,by decide⟩,_,_,rfl,rfl,(by show (0:Int)<2;decide),Or.inl ⟨l6,_,_,.ref t,rfl,rfl,SqL.of e6,eat,?_⟩⟩;have T6:=(T3.tag (g:=(5,0)) ht).same s46;have P6:=(P3.tag (g:=(5,0)) ht).same s46;refine ⟨P,_,_,rfl,rfl,P6.pr,by rw [Xaa];exact Zak (by omega),?_⟩
     have e4:pt.map V.ref++[V.ref t]=(pt++[t]).map V.ref:=by rw [Xad];rfl
     rw [e4]
     have P7:=P6.put (pt':=pt++[t]) (ps':=ps++[p]) (by rw [Xad];exact P6.pp.snoc et) (fun x hx=>by
      rcases Xaf.mp hx with z | z
      · exact P6.kQ x z
      · rw [Xaj.mp z];exact ZbW)
     have T7:=T6.upd (zs:=(pt++[t]).map V.ref) P6.pr (by rw [P6.kP];intro z;cases z) (fun i=>by rw [P6.kP];intro z;cases z) (fun i=>by rw [P6.kP];intro z;cases z) (fun i=>by rw [P6.kP];intro z;cases z);refine q _ _ _ _ _ ⟨w,hw,.inr ⟨rfl,?_⟩⟩ ⟨T7,P7,fun b o e=>ZaV (Zbp ht ⟨o,s3 _ _ e⟩),fun b o e kb=>?_,fun b e=>?_⟩
     · rcases ep with rfl | rfl
       · exact .inl rfl
       · exact .inr rfl
     · rw [Zaf (fun z=>by rw [z,PW.kP] at kb;cases kb)];exact s36 _ _ e
     · by_cases z:b=P
       · rw [z,Zac] at e;cases e
       · rw [Zaf z] at e;exact s36.free e
variable (P w K mg base) in
abbrev ZcJ:Prop:=Zbb P w K mg base "_law_named" 1 ["_law_states", "_law_pairs", "_law_cell"] (ZdQ K)
theorem Ze1 (B:Blt mg) (ER:Ers K mg)  (F:Fun K "_law_named" "_law_named" ZbA f fd) (hm:mg "_law_named" = some (.ref f)):ZcJ P w K mg base :=
 ⟨f,fd,Zgm B ER  F,hm,F.kp,F.binds fun _ _ _ _ _ _ us hl=>(by obtain ⟨x0,x1,x2,rfl⟩:=ZhM hl;rfl)⟩
def moreL:List Str:=["za", "zb", "zc", "zd", "ze", "zf", "zg", "zh", "zi"]
def MoreD (ss:List WSt) (ps:List (Str×Str)) (ss':List WSt) (ps':List (Str×Str)):Prop:=(ss'=ss++List.replicate (9 - ss.length) ([],[])∧ps'=ps)∨(∃ (i:Nat) (s:WSt),ss[i]?=some s∧ps'=ps∧(ss'=ss.set i (s.1++moreL.map fun l=>(l,("0" : Str)),s.2)∨ss'=ss.set i (s.1,s.2++moreL)))∨(ss'=ss∧ps'=ps++List.replicate 41 (("za" : Str),("zb" : Str)))
def Zek (_:XFg):Sp:=fun vs H Q _=>∃ (S P:Addr) (c:Int) (κ:Tag) (rs:List RwS) (pt:List Addr) (ps:List (Str×Str)),vs=[.ref S,.ref P,.int c]∧StW H κ S rs∧PrW H κ P pt ps∧rs≠[]∧rs.length≤8∧(∀ r∈rs,r.s.1.length≤8∧r.s.2.length≤8)∧ps.length≤60 ∧
 ∀ (κ':Tag) (rs':List RwS) (pt':List Addr) (ps':List (Str×Str)) (H':Hp),MoreD (wsOf rs) ps (wsOf rs') ps'→ThenW H H' κ κ' S P rs' pt' ps'→Q .non H'
theorem Zhd (B:Blt mg) (ER:Ers K mg)  (F:Fun K "_law_more" "_law_more" Zbh f fd):FnOk P w K mg base CX0 1 f fd ["_law_states", "_law_pairs", "_law_cell"] (Zek K):=by
 refine F.ok sc__law_more (fun vs H Q E h=>?_) (fun cdv A outer s H vs Q E hr h=>?_)
 · obtain ⟨S,P,c,κ,rs,pt,ps,rfl,_⟩:=h
   rfl
 · obtain ⟨S,P,c,κ,rs,pt,ps,rfl,SW,PW,hne,h8,hb,hpl,q⟩:=h
   obtain ⟨i,r,ei,hi⟩:=Zew hne (c / 4);have hl0:0<rs.length:=List.length_pos_iff.mpr hne
   refine ⟨_,(Zad (Zax (i:=3) sc__law_more.nd (Zaz (Zaa Zal (Zaa Zal (Zaa Zal (Zaa Zal (Zaa Zal (Zaa Zal (Zaa Zal (Zaa Zal (Zaa Zal Zab)))))))))))
    (Zad (Zax (i:=4) sc__law_more.nd (Zat ZaF (Zat ZaO (pv 2) Zai) (Zan ZaR B.b_len (Zaa (pv 0) Zab))))
    (Zad (ZaN (Zas Zb0 (Zat ZaF (pv 2) Zai) Zai (ZaC _)) (Zah (Zay (Za9 Xa4 PySem.F.slot_list_extend PySem.F.type_list_extend ZcQ (pv 0) (Zaa (Zb6 rfl _law_more_cs1 (Zcj rfl B.b_range (Zaa (Zat op_sub Zai (Zan ZaR B.b_len (Zaa (pv 0) Zab))) Zab)) (fun _ _ _ _ _=>(Zam (i:=0) _law_more_cs1.nd)) (fun _ _ _ _ _=>Zb1) (fun _ _ _ _ _=>(ZcO (Zaa (Zaz Zab) (Zaa (Zaz Zab) Zab))))) Zab)))) Zao)
    (Zad (ZaN (Zas Zb0 (Zat ZaF (pv 2) Zai) Zai (ZaC _)) (Zah (Zay (Za9 Xa4 PySem.F.slot_list_extend PySem.F.type_list_extend ZcQ (ZaZ ZaE (ZaZ ZaE (pv 0) (pv 4)) Zai) (Zaa (Zb6 rfl _law_more_cs2 (ZaI (pv 3)) (fun _ _ _ _ _=>(Zam (i:=0) _law_more_cs2.nd)) (fun _ _ _ _ _=>Zb1) (fun _ _ _ _ _=>(Zaz (Zaa (pv 0) (Zaa Zal Zab))))) Zab)))) Zao)
    (Zad (ZaN (Zas Zb0 (Zat ZaF (pv 2) Zai) Zai (ZaC _)) (Zah (Zay (Za9 Xa4 PySem.F.slot_list_extend PySem.F.type_list_extend ZcQ (ZaZ ZaE (ZaZ ZaE (pv 0) (pv 4)) Zai) (Zaa (pv 3) Zab)))) Zao)
    (Zah (ZaN (Zas Zb0 (Zat ZaF (pv 2) Zai) Zai (ZaC _)) (Zah (Zay (Za9 Xa4 PySem.F.slot_list_extend PySem.F.type_list_extend ZcQ (pv 1) (Zaa (Zb6 rfl _law_more_cs3 (Zcj rfl B.b_range (Zaa Zai Zab)) (fun _ _ _ _ _=>(Zam (i:=0) _law_more_cs3.nd)) (fun _ _ _ _ _=>Zb1) (fun _ _ _ _ _=>(Zaz (Zaa Zal (Zaa Zal Zab))))) Zab)))) Zao))))))),?_⟩
   have hln:(rs.map fun r=>V.ref r.u).length=rs.length:=Xaa _;refine ⟨show 9≤sizeLine by decide,fun l3 hl3=>?_⟩;generalize hG:upd H l3 _=H3
   have e3:H3 l3=some (.lst (moreL.map V.str)):=by rw [←hG,Zac];rfl
   have s3:Same H H3:=by rw [←hG];exact Zaj hl3
   clear hG;have T3:=SW.same s3;have P3:=PW.same s3;have hm:=Xah hi;have R:=T3.row r hm
   have hsi:(wsOf rs)[i]?=some r.s:=by rw [Xag,hi];rfl
   refine ⟨_,rfl,_,_,rfl,rfl,⟨by decide,by decide⟩,_,rfl,_,_,rfl,Or.inl ⟨_,SqL.of T3.top,rfl⟩,_,_,rfl,rfl,(by rw [hln];omega),?_⟩;rw [hln];refine g_in ?_;try dsimp only
   rw [ei]
   have lT:r.T.length=r.s.1.length:=by rw [R.gt.len,Xaa]
   have b1:=(hb r hm).1;have b2:=(hb r hm).2
   have lpt:pt.length=ps.length:=by rw [PW.pp.len,Xaa]
   obtain ⟨k1,k2,k3,k4⟩:=T3.kR i r hi
   rcases (show c % 4=0∨c % 4=1∨c % 4=2∨c % 4=3 by omega) with hq | hq | hq | hq
   · refine ⟨_,rfl,_,_,rfl,rfl,(by show (0:Int)<4;decide),rfl,_,rfl,ite2 (fun _=>?_) (fun h=>absurd (Xa1 (Xbf V.int hq)) h)⟩
     refine ⟨_,rfl,Or.inl ⟨rfl,_,SqL.of T3.top⟩,_,rfl,_,_,rfl,Or.inl ⟨_,SqL.of T3.top,rfl⟩,_,_,rfl,rfl,_,rfl,by rw [hln];omega,by rw [hln];omega,ZeH (fun D j ys H'=>∃ (κ':Tag) (rn:List RwS),ys=(rn.map fun r=>V.ref r.u)∧rn.length=j∧NewR H3 H' D κ κ' rs.length rn) (fun D hD=>⟨κ,[],rfl,rfl,NewR.nil hD⟩) (fun D j ys H4 R' hD0 hj hv k=>?_) (fun D ys H4 hD0 hv=>?_)⟩
     · obtain ⟨κ',rn,rfl,hrn,N⟩:=hv
       refine ⟨by decide,fun G hG=>⟨by decide,fun E0 hE=>⟨Zbv,fun u hu=>?_⟩⟩⟩;have s5:=Zaj (o:=.lst []) hG;have eG:(upd H4 G (.lst [])) G=some (.lst []):=Zac;generalize upd H4 G (.lst [])=H5 at s5 eG hE hu ⊢;have s6:=Zaj (o:=.lst []) hE;have eE:(upd H5 E0 (.lst [])) E0=some (.lst []):=Zac;have nGE:G≠E0:=Zag eG hE;generalize upd H5 E0 (.lst [])=H6 at s6 eE hu ⊢;obtain ⟨H7,qH7,s7,eu⟩:=new_at (o:=.tup [.ref G,.ref E0]) hu;rw [←qH7];have s47:=(s5.trans s6).trans s7;refine k _ _ (s47 _ _ N.eD) (by rw [Xaa];exact Zak (by rw [hln] at hj;omega)) ⟨_,rn++[⟨u,G,E0,[],([],[])⟩],by rw [Xad];rfl,by rw [Xac,hrn];rfl,N.step hD0 hG (s5.free hE) nGE s47 eu (s7 _ _ (s6 _ _ eG)) (s7 _ _ eE)⟩
     obtain ⟨κ',rn,rfl,hrn,N⟩:=hv;rw [hln] at hrn;have T4:=(T3.ext N.ex).same N.sm;have P4:=(P3.ext N.ex).same N.sm;refine ⟨S,D,_,_,rfl,rfl,T4.top,N.eD,by rw [hln,Xaa];exact XaU (Zak (by omega)),?_⟩;have T5:=T4.adds (fun r hr=>⟨(N.row r hr).1,(N.row r hr).2.1⟩) N.kR;have P5:=P4.upd (x:=S) (o:=.lst ((rs.map fun r=>V.ref r.u)++rn.map fun r=>V.ref r.u)) (by rw [T4.kS];intro z;cases z) (by rw [T4.kS];intro z;cases z);refine ⟨_,rfl,_,_,rfl,rfl,(by show (0:Int)<4;decide),rfl,_,rfl,ite2 (fun h=>?_) (fun _=>?_)⟩
     · have e:c % 4=1:=V.int.inj (Xa3 h)
       omega
     refine ⟨_,rfl,_,_,rfl,rfl,(by show (0:Int)<4;decide),rfl,_,rfl,ite2 (fun h=>?_) (fun _=>?_)⟩
     · have e:c % 4=2:=V.int.inj (Xa3 h)
       omega
     refine ⟨_,rfl,_,_,rfl,rfl,(by show (0:Int)<4;decide),rfl,_,rfl,ite2 (fun h=>?_) (fun _=>?_)⟩
     · have e:c % 4=3:=V.int.inj (Xa3 h)
       omega
     refine q _ _ pt ps _ (.inl ⟨?_,rfl⟩) ⟨T5,P5,fun b o e=>N.ex _ _ (s3 _ _ e),fun b o e kb=>?_,fun b e=>?_⟩
     · show (rs++rn).map (·.s)=rs.map (·.s)++List.replicate (9 - (rs.map (·.s)).length) ([],[])
       rw [Xad,Xaa];congr 1;refine List.eq_replicate_iff.mpr ⟨by rw [Xaa];omega,fun s hs=>?_⟩;obtain ⟨r,hr,rfl⟩:=Xai.mp hs;exact (N.row r hr).2.2.1
     · rw [Zaf (fun z=>by rw [z,SW.kS] at kb;cases kb)];exact N.sm _ _ (s3 _ _ e)
     · by_cases z:b=S
       · rw [z,Zac] at e;cases e
       · rw [Zaf z] at e;exact s3.free (N.sm.free e)
   · refine ⟨_,rfl,_,_,rfl,rfl,(by show (0:Int)<4;decide),rfl,_,rfl,ite2 (fun h=>?_) (fun _=>?_)⟩
     · have e:c % 4=0:=V.int.inj (Xa3 h)
       omega
     refine ⟨_,rfl,_,_,rfl,rfl,(by show (0:Int)<4;decide),rfl,_,rfl,ite2 (fun _=>?_) (fun h=>absurd (Xa1 (Xbf V.int hq)) h)⟩
     refine ⟨_,rfl,_,rfl,Or.inl ⟨S,_,_,_,rfl,rfl,SqL.of T3.top,ZcU hi,Or.inr (Or.inl ⟨_,_,_,.ref r.G,rfl,rfl,SqT.of R.tu,rfl,Or.inl ⟨rfl,_,SqL.of R.tg⟩,_,rfl,l3,rfl,⟨_,SqL.of e3⟩,ZbI (xs:=moreL.map V.str) (fun D j ys H'=>∃ (κ':Tag) (ts:List Addr),ys=ts.map V.ref∧NewL H3 H' D κ κ' (4,i) ts ((moreL.take j).map fun l=>wG (l,("0" : Str)))) (fun D hD=>⟨κ,[],rfl,NewL.nil hD⟩) (fun D j ys H' ⟨_,_,_,N⟩=>SqL.of (N.sm _ _ e3)) (fun D j x ys H4 R' hD0 hx hv k=>?_) (fun D ys H4 hD0 hv=>?_)⟩)⟩⟩
     · obtain ⟨κ',ts,rfl,N⟩:=hv
       obtain ⟨l,hl,rfl⟩:=getm hx;refine ⟨_,rfl,Zbv,fun t ht=>?_⟩
       have N2:=N.step (w:=wG (l,("0" : Str))) hD0 ht
       have hjl:j<9:=(Xae.mp hl).1
       have lts:ts.length≤9:=by
        have:=N.wd.len
        rw [Xaa,Xaw] at this;omega
       have eD:=Zaj (o:=.lst ((wG (l,("0" : Str))).map V.str)) ht _ _ N.eD
       refine k _ _ eD (by rw [Xaa];exact Zak (by omega)) ⟨setK κ' t (4,i),ts++[t],by rw [Xad];rfl,?_⟩;rw [Xar,hl,Xad];exact N2
     obtain ⟨κ',ts,rfl,N⟩:=hv;rw [Xaa,Xas] at N;have T4:=(T3.ext N.ex).same N.sm;have P4:=(P3.ext N.ex).same N.sm;have R4:=T4.row r hm
     have lts:ts.length=9:=by rw [N.wd.len,Xaa];rfl
     refine ⟨r.G,D,_,_,rfl,rfl,R4.tg,N.eD,by rw [Xaa,Xaa];exact XaU (Zak (by omega)),?_⟩;rw [←Xad];obtain ⟨m1,m2,m3,m4⟩:=T4.kR i r hi
     have T5:=T4.putG (T':=r.T++ts) (gs':=r.s.1++moreL.map fun l=>(l,("0" : Str))) hi (by rw [Xad,Xax];exact R4.gt.app N.wd) (List.nodup_append.mpr ⟨k3,N.nd,fun a ha b hb z=>by
      obtain ⟨o,eo⟩:=R.gt.some ha
      rw [z,(N.fr b hb).1] at eo;cases eo⟩) (fun x hx=>by
      rcases Xaf.mp hx with z | z
      · exact m4 x z
      · exact (N.fr x z).2.2)
     have P5:=P4.upd (x:=r.G) (o:=.lst ((r.T++ts).map V.ref)) (by rw [m1];intro z;cases z) (by rw [m1];intro z;cases z);refine ⟨_,rfl,_,_,rfl,rfl,(by show (0:Int)<4;decide),rfl,_,rfl,ite2 (fun h=>?_) (fun _=>?_)⟩
     · have e:c % 4=2:=V.int.inj (Xa3 h)
       omega
     refine ⟨_,rfl,_,_,rfl,rfl,(by show (0:Int)<4;decide),rfl,_,rfl,ite2 (fun h=>?_) (fun _=>?_)⟩
     · have e:c % 4=3:=V.int.inj (Xa3 h)
       omega
     refine q _ _ pt ps _ (.inr (.inl ⟨i,r.s,hsi,rfl,.inl Zdl⟩)) ⟨T5,P5,fun b o e=>N.ex _ _ (s3 _ _ e),fun b o e kb=>?_,fun b e=>?_⟩
     · rw [Zaf (fun z=>by rw [z,k1] at kb;cases kb)];exact N.sm _ _ (s3 _ _ e)
     · by_cases z:b=r.G
       · rw [z,Zac] at e;cases e
       · rw [Zaf z] at e;exact s3.free (N.sm.free e)
   · refine ⟨_,rfl,_,_,rfl,rfl,(by show (0:Int)<4;decide),rfl,_,rfl,ite2 (fun h=>?_) (fun _=>?_)⟩
     · have e:c % 4=0:=V.int.inj (Xa3 h)
       omega
     refine ⟨_,rfl,_,_,rfl,rfl,(by show (0:Int)<4;decide),rfl,_,rfl,ite2 (fun h=>?_) (fun _=>?_)⟩
     · have e:c % 4=1:=V.int.inj (Xa3 h)
       omega
     refine ⟨_,rfl,_,_,rfl,rfl,(by show (0:Int)<4;decide),rfl,_,rfl,ite2 (fun _=>?_) (fun h=>absurd (Xa1 (Xbf V.int hq)) h)⟩;refine ⟨_,rfl,_,rfl,Or.inl ⟨S,_,_,_,rfl,rfl,SqL.of T3.top,ZcU hi,Or.inr (Or.inl ⟨_,_,_,.ref r.E,rfl,rfl,SqT.of R.tu,rfl,Or.inl ⟨rfl,_,SqL.of R.te⟩,_,rfl,r.E,l3,_,_,rfl,rfl,R.te,e3,by rw [Xaa,Xaa];exact XaU (Zak (show _+9≤1000 by omega)),?_⟩)⟩⟩;rw [←Xad];have T5:=T3.putE (es':=r.s.2++moreL) hi;have P5:=P3.upd (x:=r.E) (o:=.lst ((r.s.2++moreL).map V.str)) (by rw [k2];intro z;cases z) (by rw [k2];intro z;cases z);refine ⟨_,rfl,_,_,rfl,rfl,(by show (0:Int)<4;decide),rfl,_,rfl,ite2 (fun h=>?_) (fun _=>?_)⟩
     · have e:c % 4=3:=V.int.inj (Xa3 h)
       omega
     refine q _ _ pt ps _ (.inr (.inl ⟨i,r.s,hsi,rfl,.inr Zdl⟩)) ⟨T5,P5,ExtK.refl,fun b o e kb=>?_,fun b e=>?_⟩
     · rw [Zaf (fun z=>by rw [z,k2] at kb;cases kb)];exact s3 _ _ e
     · by_cases z:b=r.E
       · rw [z,Zac] at e;cases e
       · rw [Zaf z] at e;exact s3.free e
   · refine ⟨_,rfl,_,_,rfl,rfl,(by show (0:Int)<4;decide),rfl,_,rfl,ite2 (fun h=>?_) (fun _=>?_)⟩
     · have e:c % 4=0:=V.int.inj (Xa3 h)
       omega
     refine ⟨_,rfl,_,_,rfl,rfl,(by show (0:Int)<4;decide),rfl,_,rfl,ite2 (fun h=>?_) (fun _=>?_)⟩
     · have e:c % 4=1:=V.int.inj (Xa3 h)
       omega
     refine ⟨_,rfl,_,_,rfl,rfl,(by show (0:Int)<4;decide),rfl,_,rfl,ite2 (fun h=>?_) (fun _=>?_)⟩
     · have e:c % 4=2:=V.int.inj (Xa3 h)
       omega
     refine ⟨_,rfl,_,_,rfl,rfl,(by show (0:Int)<4;decide),rfl,_,rfl,ite2 (fun _=>?_) (fun h=>absurd (Xa1 (Xbf V.int hq)) h)⟩
     refine ⟨_,rfl,Or.inl ⟨rfl,_,SqL.of P3.pr⟩,_,rfl,by decide,by decide,ZeH (fun D j ys H'=>∃ (κ':Tag) (ts:List Addr),ys=ts.map V.ref∧NewL H3 H' D κ κ' (5,0) ts ((List.replicate j (("za" : Str),("zb" : Str))).map wG)) (fun D hD=>⟨κ,[],rfl,NewL.nil hD⟩) (fun D j ys H4 R' hD0 hj hv k=>?_) (fun D ys H4 hD0 hv=>?_)⟩
     · obtain ⟨κ',ts,rfl,N⟩:=hv
       refine ⟨Zbv,fun t ht=>?_⟩
       have N2:=N.step (w:=wG (("za" : Str),("zb" : Str))) hD0 ht
       have hj:j<41:=hj
       have lts:ts.length≤41:=by
        have:=N.wd.len
        rw [Xaa,List.length_replicate] at this;omega
       have eD:=Zaj (o:=.lst ((wG (("za" : Str),("zb" : Str))).map V.str)) ht _ _ N.eD
       refine k _ _ eD (by rw [Xaa];exact Zak (by omega)) ⟨setK κ' t (5,0),ts++[t],by rw [Xad];rfl,?_⟩;rw [List.replicate_succ',Xad];exact N2
     obtain ⟨κ',ts,rfl,N⟩:=hv
     have N:NewL H3 H4 D κ κ' (5,0) ts ((List.replicate 41 (("za" : Str),("zb" : Str))).map wG):=N
     have T4:=(T3.ext N.ex).same N.sm;have P4:=(P3.ext N.ex).same N.sm
     have lts:ts.length=41:=by rw [N.wd.len,Xaa,List.length_replicate]
     refine ⟨P,D,_,_,rfl,rfl,P4.pr,N.eD,by rw [Xaa,Xaa];exact XaU (Zak (by omega)),?_⟩;rw [←Xad]
     have P5:=P4.put (pt':=pt++ts) (ps':=ps++List.replicate 41 (("za" : Str),("zb" : Str))) (by rw [Xad];exact P4.pp.app N.wd) (fun x hx=>by
      rcases Xaf.mp hx with z | z
      · exact P4.kQ x z
      · exact (N.fr x z).2.2)
     have T5:=T4.upd (zs:=(pt++ts).map V.ref) P4.pr (by rw [P4.kP];intro z;cases z) (fun i=>by rw [P4.kP];intro z;cases z) (fun i=>by rw [P4.kP];intro z;cases z) (fun i=>by rw [P4.kP];intro z;cases z);refine q _ _ _ _ _ (.inr (.inr ⟨rfl,rfl⟩)) ⟨T5,P5,fun b o e=>N.ex _ _ (s3 _ _ e),fun b o e kb=>?_,fun b e=>?_⟩
     · rw [Zaf (fun z=>by rw [z,PW.kP] at kb;cases kb)];exact N.sm _ _ (s3 _ _ e)
     · by_cases z:b=P
       · rw [z,Zac] at e;cases e
       · rw [Zaf z] at e;exact s3.free (N.sm.free e)
variable (P w K mg base) in
abbrev ZcY:Prop:=Zbb P w K mg base "_law_more" 1 ["_law_states", "_law_pairs", "_law_cell"] (Zek K)
theorem Zfh (B:Blt mg) (ER:Ers K mg)  (F:Fun K "_law_more" "_law_more" Zbh f fd) (hm:mg "_law_more" = some (.ref f)):ZcY P w K mg base :=
 ⟨f,fd,Zhd B ER  F,hm,F.kp,F.binds fun _ _ _ _ _ _ us hl=>(by obtain ⟨x0,x1,x2,rfl⟩:=ZhM hl;rfl)⟩
def Zdt (_:XFg):Sp:=fun vs H Q _=>∃ (l:Addr) (A B:List Str) (c:Int),vs=[.ref l,.int c]∧H l=some (.lst ((A++("|" : Str) :: B).map V.str))∧("|" : Str) ∉ A∧(A++("|" : Str) :: B).length≤800∧∀ (D:Addr) (ws':List Str) (H':Hp),ZdA A B ws'→H D=none→Same H H'→H' D=some (.lst (ws'.map V.str))→Q (.ref D) H'
theorem Zfi (B:Blt mg) (ER:Ers K mg)  (F:Fun K "_law_broken" "_law_broken" Zbq f fd):FnOk P w K mg base CX0 1 f fd ["_law_words", "_law_cell"] (Zdt K):=by
 refine F.ok sc__law_broken (fun vs H Q E h=>?_) (fun cdv A outer s H vs Q E hr h=>?_)
 · obtain ⟨l,A,B,c,rfl,_⟩:=h
   rfl
 · obtain ⟨l,Aw,Bw,c,rfl,hL,hn,hl,q⟩:=h
   have b0:=XaY c (show (7:Int)≠0 by omega);have b1:=XaX c (show (0:Int)<7 by omega)
   have la:Aw.length≤800:=by rw [Xac] at hl;omega
   have lb:Bw.length≤800:=by rw [Xac,XaB] at hl;omega
   have lw:((Aw++("|" : Str) :: Bw).map V.str).length≤800:=by rw [Xaa];exact hl
   have idx:((Aw++("|" : Str) :: Bw).map Dt.str)[Aw.length]?=some (Dt.str "|")∧∀ m,m<Aw.length→((Aw++("|" : Str) :: Bw).map Dt.str)[m]?≠some (Dt.str "|"):=by
    refine ⟨by rw [Xag,Xay (XaS _),Nat.sub_self];rfl,fun m hm z=>?_⟩;rw [Xag,Xat hm] at z;obtain ⟨x,h1,h2⟩:=XaR.mp z
    injection h2 with h2
    exact hn (by rw [←h2];exact Xah h1)
   have cmps:∀ e∈(Aw++("|" : Str) :: Bw).map Dt.str,Cmp 0 e (Dt.str "|"):=fun e he=>by
    obtain ⟨x,_,rfl⟩:=Xai.mp he;exact .str _ _
   have tk:((Aw++("|" : Str) :: Bw).map V.str).take Aw.length=Aw.map V.str:=by rw [←XaN,List.take_left]
   have dr:((Aw++("|" : Str) :: Bw).map V.str).drop Aw.length=(("|" : Str) :: Bw).map V.str:=by rw [←List.map_drop,List.drop_left]
   have dr1:((Aw++("|" : Str) :: Bw).map V.str).drop (Aw.length+1)=Bw.map V.str:=by rw [←List.map_drop,←List.drop_drop,List.drop_left];rfl
   generalize hW:Aw++("|" : Str) :: Bw=ww at *
   refine ⟨_,(Zad (Zax (i:=2) sc__law_broken.nd (Zat ZaF (pv 1) Zai))
    (Zad (ZaN (Zas Zb0 (pv 2) Zai (ZaC _)) (Zah (ZaB (Zat Zcv (pv 0) (Zaz (Zaa Zal (Zaa Zal Zab)))))) Zao)
    (Zad (ZaN (Zas Zb0 (pv 2) Zai (ZaC _)) (Zah (ZaB (Zat Zcv (Zaz (Zaa Zal Zab)) (pv 0)))) Zao)
    (Zad (ZaN (Zas Zb0 (pv 2) Zai (ZaC _)) (Zah (ZaB (Zat Zcv (Zaz (Zaa Zal Zab)) (pv 0)))) Zao)
    (Zad (ZaN (Zas Zb0 (pv 2) Zai (ZaC _)) (Zad (Zax (i:=3) sc__law_broken.nd (Za9 Xa4 PySem.F.slot_list_index PySem.F.type_list_index (Zga hr.units) (pv 0) (Zaa Zal Zab)))
     (Zah (ZaB (Zat Zcv (Zat Zcv (ZcF Zc4 (pv 0) Zdy (ZcT (pv 3))) (Zaz (Zaa (ZaZ ZaE (Zaz (Zaa Zal (Zaa Zal Zab))) (Zat ZaF (Zat ZaO (pv 1) Zai) Zai)) Zab))) (ZcF Zc4 (pv 0) (ZcT (pv 3)) Zdy))))) Zao)
    (Zad (ZaN (Zas Zb0 (pv 2) Zai (ZaC _)) (Zad (Zax (i:=3) sc__law_broken.nd (Za9 Xa4 PySem.F.slot_list_index PySem.F.type_list_index (Zga hr.units) (pv 0) (Zaa Zal Zab)))
     (Zah (ZaB (Zat Zcv (ZcF Zc4 (pv 0) Zdy (ZcT (pv 3))) (ZcF Zc4 (pv 0) (ZcT (Zat ZdE (pv 3) Zai)) Zdy))))) Zao)
    (Zad (ZaN (Zas Zb0 (pv 2) Zai (ZaC _)) (Zah (ZaB (Zat Zcv (pv 0) (Zaz (Zaa Zal Zab))))) Zao)
    (Zah (ZaB (Zat Zcv (pv 0) (ZaZ ZaE (Zaz (Zaa (Zaz (Zaa Zal (Zaa Zal Zab))) (Zaa (Zaz (Zaa Zal (Zaa Zal (Zaa Zal Zab)))) (Zaa (Zaz (Zaa Zal (Zaa Zal (Zaa Zal Zab)))) (Zaa (Zaz (Zaa Zal (Zaa Zal Zab))) Zab))))) (Zat ZaF (Zat ZaO (pv 1) Zai) Zai)))))))))))),?_⟩
   refine ⟨_,rfl,_,_,rfl,rfl,(by show (0:Int)<7;decide),?_⟩;refine g_in ?_;try dsimp only
   generalize c % 7=wy at b0 b1 ⊢
   rcases (show wy=0∨wy=1∨wy=2∨wy=3∨wy=4∨wy=5∨wy=6 by omega) with e | e | e | e | e | e | e <;> subst e
   · skip
     refine ⟨_,rfl,rfl,_,rfl,iteC (by decide) ?_⟩;refine ⟨_,rfl,Zbv,fun z hz=>?_⟩
     have s1:=Zaj (o:=.lst [.str ",",.str "a"]) hz
     have ez:(upd H z (.lst [.str ",",.str "a"])) z=some (.lst (([",", "a"]:List Str).map V.str)):=Zac
     generalize upd H z (.lst [.str ",",.str "a"])=H1 at s1 ez ⊢
     refine ⟨l,z,_,_,rfl,rfl,s1 _ _ hL,ez,XaU (Zak (show _+2≤1000 by omega)),fun D hD=>?_⟩
     exact q D (ww++[("," : Str), "a"]) _ (.inl (by rw [hW])) (s1.free hD) (s1.trans (Zaj hD)) (by rw [Zac,Xad])
   · skip
     refine ⟨_,rfl,rfl,_,rfl,iteN (by decide) ?_⟩;refine ⟨_,rfl,rfl,_,rfl,iteC (by decide) ?_⟩;refine ⟨Zbc,fun z hz=>?_⟩
     have s1:=Zaj (o:=.lst [.str "a"]) hz
     have ez:(upd H z (.lst [.str "a"])) z=some (.lst (([("a" : Str)]:List Str).map V.str)):=Zac
     generalize upd H z (.lst [.str "a"])=H1 at s1 ez ⊢
     refine ⟨_,rfl,z,l,_,_,rfl,rfl,ez,s1 _ _ hL,XaU (Zak (show 1+_≤1000 by omega)),fun D hD=>?_⟩
     exact q D (("a" : Str) :: ww) _ (.inr (.inl (by rw [hW]))) (s1.free hD) (s1.trans (Zaj hD)) (by rw [Zac];rfl)
   · skip
     refine ⟨_,rfl,rfl,_,rfl,iteN (by decide) ?_⟩;refine ⟨_,rfl,rfl,_,rfl,iteN (by decide) ?_⟩;refine ⟨_,rfl,rfl,_,rfl,iteC (by decide) ?_⟩;refine ⟨Zbc,fun z hz=>?_⟩
     have s1:=Zaj (o:=.lst [.str ","]) hz
     have ez:(upd H z (.lst [.str ","])) z=some (.lst (([("," : Str)]:List Str).map V.str)):=Zac
     generalize upd H z (.lst [.str ","])=H1 at s1 ez ⊢
     refine ⟨_,rfl,z,l,_,_,rfl,rfl,ez,s1 _ _ hL,XaU (Zak (show 1+_≤1000 by omega)),fun D hD=>?_⟩
     exact q D (("," : Str) :: ww) _ (.inr (.inr (.inl (by rw [hW])))) (s1.free hD) (s1.trans (Zaj hD)) (by rw [Zac];rfl)
   · skip
     refine ⟨_,rfl,rfl,_,rfl,iteN (by decide) ?_⟩;refine ⟨_,rfl,rfl,_,rfl,iteN (by decide) ?_⟩;refine ⟨_,rfl,rfl,_,rfl,iteN (by decide) ?_⟩;refine ⟨_,rfl,rfl,_,rfl,iteC (by decide) ?_⟩
     refine ⟨_,rfl,Or.inl ⟨rfl,_,SqL.of hL⟩,l,_,0,.str "|",_,_,Aw.length,rfl,rfl,cmps,by decide,.str _,SqL.of hL,IsDts.strs _,idx.1,idx.2,?_⟩
     refine g_in ?_;try dsimp only
     refine ⟨_,rfl,_,rfl,_,rfl,l,_,rfl,SqL.of hL,fun z0 hz0=>?_⟩;rw [ZdG,tk];obtain ⟨H1,qH1,s0,ez0⟩:=new_at (o:=.lst (Aw.map V.str)) hz0;rw [←qH1];refine ⟨Zbv,fun z1 hz1=>?_⟩
     obtain ⟨H2,qH2,s1,ez1⟩:=new_at (o:=.lst [.str ",",.str "/"]) hz1
     rw [←qH2]
     have pick:∃ x:Str,atI [V.str ",",V.str "/"] (c / 7 % 2)=some (.str x)∧(x = "," ∨ x = "/"):=by
      rcases (show c / 7 % 2=0∨c / 7 % 2=1 by omega) with e | e
      · exact ⟨",",by rw [e];exact Zbw (j:=0) rfl,.inl rfl⟩
      · exact ⟨"/",by rw [e];exact Zbw (j:=1) rfl,.inr rfl⟩
     obtain ⟨x,eat,hx⟩:=pick;refine ⟨_,rfl,_,_,rfl,rfl,⟨by decide,by decide⟩,_,_,rfl,rfl,(by show (0:Int)<2;decide),Or.inl ⟨z1,_,_,.str x,rfl,rfl,SqL.of ez1,eat,Zbc,fun z2 hz2=>?_⟩⟩;obtain ⟨H3,qH3,s2,ez2⟩:=new_at (o:=.lst [.str x]) hz2;rw [←qH3];refine ⟨z0,z2,_,_,rfl,rfl,s2 _ _ (s1 _ _ ez0),ez2,XaU (Zak (by rw [Xaa];show _+1≤1000;omega)),fun z3 hz3=>?_⟩;obtain ⟨H4,qH4,s3,ez3⟩:=new_at (o:=.lst (Aw.map V.str++[.str x])) hz3;rw [←qH4];have s03:=((s0.trans s1).trans s2).trans s3;refine ⟨_,rfl,_,rfl,_,rfl,l,_,rfl,SqL.of (s03 _ _ hL),fun z4 hz4=>?_⟩;rw [ZgP,dr]
     obtain ⟨H5,qH5,s4,ez4⟩:=new_at (o:=.lst ((("|" : Str) :: Bw).map V.str)) hz4
     rw [←qH5];have s04:=s03.trans s4;refine ⟨z3,z4,_,_,rfl,rfl,s4 _ _ ez3,ez4,XaU (Zak (by rw [Xac,Xaa,Xaa];rw [←hW,Xac] at hl;show _+1+_≤1000;omega)),fun D hD=>?_⟩
     exact q D (Aw++x :: ("|" : Str) :: Bw) _ (.inr (.inr (.inr (.inl ⟨x,hx,rfl⟩)))) (s04.free hD) (s04.trans (Zaj hD)) (by rw [Zac,Xad,XaE];rfl)
   · skip
     refine ⟨_,rfl,rfl,_,rfl,iteN (by decide) ?_⟩;refine ⟨_,rfl,rfl,_,rfl,iteN (by decide) ?_⟩;refine ⟨_,rfl,rfl,_,rfl,iteN (by decide) ?_⟩;refine ⟨_,rfl,rfl,_,rfl,iteN (by decide) ?_⟩;refine ⟨_,rfl,rfl,_,rfl,iteC (by decide) ?_⟩
     refine ⟨_,rfl,Or.inl ⟨rfl,_,SqL.of hL⟩,l,_,0,.str "|",_,_,Aw.length,rfl,rfl,cmps,by decide,.str _,SqL.of hL,IsDts.strs _,idx.1,idx.2,?_⟩
     refine g_in ?_;try dsimp only
     refine ⟨_,rfl,_,rfl,_,rfl,l,_,rfl,SqL.of hL,fun z0 hz0=>?_⟩;rw [ZdG,tk];obtain ⟨H1,qH1,s0,ez0⟩:=new_at (o:=.lst (Aw.map V.str)) hz0;rw [←qH1];refine ⟨_,rfl,_,rfl,_,_,rfl,rfl,_,rfl,l,_,rfl,SqL.of (s0 _ _ hL),fun z4 hz4=>?_⟩;rw [show ((Aw.length:Int)+1)=((Aw.length+1:Nat):Int) by omega,ZgP,dr1];obtain ⟨H5,qH5,s4,ez4⟩:=new_at (o:=.lst (Bw.map V.str)) hz4;rw [←qH5];have s04:=s0.trans s4;refine ⟨z0,z4,_,_,rfl,rfl,s4 _ _ ez0,ez4,XaU (Zak (by rw [Xaa,Xaa];rw [←hW,Xac,XaB] at hl;omega)),fun D hD=>?_⟩;exact q D (Aw++Bw) _ (.inr (.inr (.inr (.inr (.inl rfl))))) (s04.free hD) (s04.trans (Zaj hD)) (by rw [Zac,Xad])
   · skip
     refine ⟨_,rfl,rfl,_,rfl,iteN (by decide) ?_⟩;refine ⟨_,rfl,rfl,_,rfl,iteN (by decide) ?_⟩;refine ⟨_,rfl,rfl,_,rfl,iteN (by decide) ?_⟩;refine ⟨_,rfl,rfl,_,rfl,iteN (by decide) ?_⟩;refine ⟨_,rfl,rfl,_,rfl,iteN (by decide) ?_⟩;refine ⟨_,rfl,rfl,_,rfl,iteC (by decide) ?_⟩;refine ⟨_,rfl,Zbc,fun z hz=>?_⟩
     have s1:=Zaj (o:=.lst [.str "|"]) hz
     have ez:(upd H z (.lst [.str "|"])) z=some (.lst (([("|" : Str)]:List Str).map V.str)):=Zac
     generalize upd H z (.lst [.str "|"])=H1 at s1 ez ⊢
     refine ⟨l,z,_,_,rfl,rfl,s1 _ _ hL,ez,XaU (Zak (show _+1≤1000 by omega)),fun D hD=>?_⟩
     exact q D (ww++[("|" : Str)]) _ (.inr (.inr (.inr (.inr (.inr (.inl (by rw [hW]))))))) (s1.free hD) (s1.trans (Zaj hD)) (by rw [Zac,Xad])
   · skip
     refine ⟨_,rfl,rfl,_,rfl,iteN (by decide) ?_⟩;refine ⟨_,rfl,rfl,_,rfl,iteN (by decide) ?_⟩;refine ⟨_,rfl,rfl,_,rfl,iteN (by decide) ?_⟩;refine ⟨_,rfl,rfl,_,rfl,iteN (by decide) ?_⟩;refine ⟨_,rfl,rfl,_,rfl,iteN (by decide) ?_⟩;refine ⟨_,rfl,rfl,_,rfl,iteN (by decide) ?_⟩;refine ⟨_,rfl,by decide,fun z0 hz0=>?_⟩
     have s0:=Zaj (o:=.lst [.str "a",.str ":"]) hz0
     have ez0:(upd H z0 (.lst [.str "a",.str ":"])) z0=some (.lst ((["a", ":"]:List Str).map V.str)):=Zac
     generalize upd H z0 (.lst [.str "a",.str ":"])=H1 at s0 ez0 ⊢
     refine ⟨by decide,fun z1 hz1=>?_⟩
     have s1:=Zaj (o:=.lst [.str "a",.str "b",.str "c"]) hz1
     have ez1:(upd H1 z1 (.lst [.str "a",.str "b",.str "c"])) z1=some (.lst ((["a", "b", "c"]:List Str).map V.str)):=Zac
     generalize upd H1 z1 (.lst [.str "a",.str "b",.str "c"])=H2 at s1 ez1 ⊢
     refine ⟨by decide,fun z2 hz2=>?_⟩
     have s2:=Zaj (o:=.lst [.str ",",.str "b",.str "/"]) hz2
     have ez2:(upd H2 z2 (.lst [.str ",",.str "b",.str "/"])) z2=some (.lst (([",", "b", "/"]:List Str).map V.str)):=Zac
     generalize upd H2 z2 (.lst [.str ",",.str "b",.str "/"])=H3 at s2 ez2 ⊢
     refine ⟨by decide,fun z3 hz3=>?_⟩
     have s3:=Zaj (o:=.lst [.str "/",.str "a"]) hz3
     have ez3:(upd H3 z3 (.lst [.str "/",.str "a"])) z3=some (.lst ((["/", "a"]:List Str).map V.str)):=Zac
     generalize upd H3 z3 (.lst [.str "/",.str "a"])=H4 at s3 ez3 ⊢
     refine ⟨show 4≤sizeLine by decide,fun y hy=>?_⟩;obtain ⟨H5,qH5,s4,ey⟩:=new_at (o:=.lst [.ref z0,.ref z1,.ref z2,.ref z3]) hy;rw [←qH5];have s05:=(((s0.trans s1).trans s2).trans s3).trans s4
     have pick:∃ z w,atI [V.ref z0,V.ref z1,V.ref z2,V.ref z3] (c / 7 % 4)=some (.ref z)∧w∈Zgh∧H5 z=some (.lst (w.map V.str)):=by
      unfold Zgh
      rcases (show c / 7 % 4=0∨c / 7 % 4=1∨c / 7 % 4=2∨c / 7 % 4=3 by omega) with e | e | e | e
      · exact ⟨z0,["a", ":"],by rw [e];exact Zbw (j:=0) rfl,by simp,s4 _ _ (s3 _ _ (s2 _ _ (s1 _ _ ez0)))⟩
      · exact ⟨z1,["a", "b", "c"],by rw [e];exact Zbw (j:=1) rfl,by simp,s4 _ _ (s3 _ _ (s2 _ _ ez1))⟩
      · exact ⟨z2,[",", "b", "/"],by rw [e];exact Zbw (j:=2) rfl,by simp,s4 _ _ (s3 _ _ ez2)⟩
      · exact ⟨z3,["/", "a"],by rw [e];exact Zbw (j:=3) rfl,by simp,s4 _ _ ez3⟩
     obtain ⟨z,w,eat,hw,ez⟩:=pick
     have lw3:w.length≤3:=by
      unfold Zgh at hw;simp only [Xam,List.not_mem_nil,or_false] at hw
      rcases hw with e | e | e | e <;> rw [e] <;> decide
     refine ⟨_,rfl,_,_,rfl,rfl,⟨by decide,by decide⟩,_,_,rfl,rfl,(by show (0:Int)<4;decide),Or.inl ⟨y,_,_,.ref z,rfl,rfl,SqL.of ey,eat,?_⟩⟩;refine ⟨l,z,_,_,rfl,rfl,s05 _ _ hL,ez,XaU (Zak (by have:=Xaa (f:=V.str) (as:=w);omega)),fun D hD=>?_⟩;exact q D (ww++w) _ (.inr (.inr (.inr (.inr (.inr (.inr ⟨w,hw,by rw [hW]⟩)))))) (s05.free hD) (s05.trans (Zaj hD)) (by rw [Zac,Xad])
variable (P w K mg base) in
abbrev Zcn:Prop:=Zbb P w K mg base "_law_broken" 1 ["_law_words", "_law_cell"] (Zdt K)
theorem Zep (B:Blt mg) (ER:Ers K mg)  (F:Fun K "_law_broken" "_law_broken" Zbq f fd) (hm:mg "_law_broken" = some (.ref f)):Zcn P w K mg base :=
 ⟨f,fd,Zfi B ER  F,hm,F.kp,F.binds fun _ _ _ _ _ _ us hl=>(by obtain ⟨x0,x1,rfl⟩:=ZdL hl;rfl)⟩
theorem Zku {α:Type}{l:List α} (h:l≠[]):∃ a x,l=a++[x]:=⟨l.dropLast,l.getLast h,(List.dropLast_concat_getLast h).symm⟩
theorem wds_un {H:Hp}{us:List Addr}{u:Addr}{ws:List (List Str)} {g:List Str} (h:Wds H (us++[u]) (ws++[g])):Wds H us ws∧H u=some (.lst (g.map V.str)):=by
 have hl:us.length=ws.length:=by have:=h.len;simpa using this
 refine ⟨⟨hl,fun n v q h1 h2=>h.at_ n v q ?_ ?_⟩,h.at_ us.length u g ?_ ?_⟩
 · rw [Xat (Xae.mp h1).1];exact h1
 · rw [Xat (Xae.mp h2).1];exact h2
 · simp
 · rw [hl];simp
theorem Zk6 {sg:Str}{ws:List Str}{i:Nat}{w:Str} (h:ws[i]?=some w):prt sg (ws.take (i+1))=prtS sg (prt sg (ws.take i)) w:=by
 unfold prt;rw [Xar,h,XaQ];rfl
theorem ZfF {sg : Str} : ∀ (ws : List Str) (gs : List (List Str)) {m : Nat}, (∀ g ∈ gs, g.length ≤ m) → ∀ g ∈ ws.foldl (prtS sg) gs, g.length ≤ m + ws.length
 | [],_,_,h,g,hg=>h g hg
 | w :: ws, gs, m, h, g, hg => by
   rw [List.foldl_cons] at hg
   have := ZfF ws (prtS sg gs w) (m := m + 1) (fun x hx => by
    unfold prtS at hx
    split at hx
    · rcases Xaf.mp hx with z | z
      · have:=h x z;omega
      · rw [Xaj.mp z];exact XaW _
    · rcases Xaf.mp hx with z | z
      · have:=h x ((List.dropLast_sublist _).subset z);omega
      · rw [Xaj.mp z,Xac,Xau]
        cases e:gs.getLast? with
        | none=>show 0+1≤m+1;omega
        | some y =>
          have:=h y (List.mem_of_getLast? e)
          show y.length+1≤m+1
          omega) g hg
   rw [XaB];omega
def Zhe (K:XFg):Sp:=fun vs H Q _=>∃ (l:Addr) (ws:List Str) (sg:Str),vs=[.ref l,.str sg]∧SqL K H l (ws.map V.str)∧ws.length≤900∧∀ (D:Addr) (us:List Addr) (H':Hp),H D=none→Same H H'→H' D=some (.lst (us.map V.ref))→Wds H' us (prt sg ws)→Q (.ref D) H'
theorem Zkv (B:Blt mg) (ER:Ers K mg)  (F:Fun K "parted" "parted" ZcS f fd):FnOk P w K mg base CX0 1 f fd ["words", "sign"] (Zhe K):=by
 refine F.ok sc_parted (fun vs H Q E h=>?_) (fun cdv A outer s H vs Q E hr h=>?_)
 · obtain ⟨l,ws,sg,rfl,_⟩:=h
   rfl
 · obtain ⟨l,ws,sg,rfl,hL,hl,q⟩:=h
   refine ⟨_,(Zad (Zax (i:=2) sc_parted.nd (Zaz (Zaa (Zaz Zab) Zab)))
    (Zad (ZbM Xbn rfl (ZaI (pv 0)) (Zam (i:=3) sc_parted.nd) (Zah (ZaN (Zas Zb0 (pv 3) (pv 1) (ZaC _)) (Zah (Zay (Za9 Xa4 Xa5 Xa6 ZaD (pv 2) (Zaa (Zaz Zab) Zab)))) (Zah (Zay (Za9 Xa4 Xa5 Xa6 ZaD (ZaZ ZaE (pv 2) (pe_un Zjm Zai)) (Zaa (pv 3) Zab)))))))
    (Zah (ZaB (pv 2))))),?_⟩
   refine ⟨by decide,fun A hA=>?_⟩;obtain ⟨H1,qH1,s1,eA⟩:=new_at (o:=.lst []) hA;rw [←qH1];refine ⟨(show 1≤sizeLine by decide),fun D hD=>?_⟩;have hDH:H D=none:=s1.free hD
   have nAD:A≠D:=fun z=>by rw [z,hD] at eA;cases eA
   have s2:=s1.trans (Zaj (o:=.lst [.ref A]) hD);have eA2:=Zaj (o:=.lst [.ref A]) hD _ _ eA
   refine ⟨_,rfl,l,rfl,⟨_,s2.seq hL⟩,Za2 (xs:=ws.map V.str) (fun i σ H'=>∃ u3 us,σ=[some (.ref l),some (.str sg),some (.ref D),u3]∧Same H H'∧H' D=some (.lst (us.map V.ref))∧Wds H' us (prt sg (ws.take i))∧us.Nodup∧D ∉ us∧∀ u∈us,H u=none)
    ⟨none,[A],rfl,s2,Zac,⟨rfl,fun n u g h1 h2=>?_⟩,by simp,by simpa using nAD.symm,by simpa using hA⟩ (fun i σ H' _ ⟨_,_,_,e,_⟩=>e.seq hL) ?_ ?_⟩
   · cases n with
     | zero=>cases h1;cases h2;exact eA2
     | succ n=>simp at h1
   · rintro i x σ H3 hx ⟨u3,us,rfl,s3,eD,W,nd,nD,fr⟩
     obtain ⟨w,hw,rfl⟩:=getm hx;have hil:i<ws.length:=(Xae.mp hw).1;have hp:=Zk6 (sg:=sg) hw;obtain ⟨p1,p2⟩:=ZhH (sg:=sg) (ws.take i) [[]] (by simp)
     have p2:(prt sg (ws.take i)).length≤901:=by
      have:(prt sg (ws.take i)).length≤1+(ws.take i).length:=p2
      rw [Xaw] at this;omega
     have p1:prt sg (ws.take i)≠[]:=p1;refine ⟨_,rfl,_,rfl,rfl,_,rfl,?_⟩;refine ite2 (fun h1=>?_) (fun h1=>?_)
     · have h1:w=sg:=V.str.inj (Xa3 h1)
       refine ⟨_,rfl,Or.inl ⟨rfl,_,SqL.of eD⟩,by decide,fun B hB=>?_⟩;obtain ⟨H4,qH4,s4,eB⟩:=new_at (o:=.lst []) hB;rw [←qH4];have eD4:=s4 _ _ eD
       have nBD:B≠D:=fun z=>by rw [z,eD] at hB;cases hB
       refine ⟨D,_,_,rfl,rfl,eD4,by rw [Xaa,W.len];exact Zak (by omega),?_⟩;refine ⟨_,us++[B],rfl,fun b o e=>?_,by rw [Zac,Xad];rfl,?_,?_,?_,fun u hu=>?_⟩
       · rw [Zaf (Zag e hDH)];exact s4 _ _ (s3 b o e)
       · rw [hp]
         unfold prtS;rw [Xba h1];refine Wds.snoc ((W.same s4).upd fun u hu z=>nD (z ▸ hu)) ?_;rw [Zaf nBD];exact eB
       · refine Zb7 nd fun hm=>?_
         obtain ⟨n,hn⟩:=List.getElem?_of_mem hm
         have hn':n<(prt sg (ws.take i)).length:=by rw [←W.len];exact (Xae.mp hn).1
         have:=W.at_ n B _ hn (Xab hn')
         rw [hB] at this;cases this
       · rw [Xaf,Xaj]
         rintro (z | z)
         · exact nD z
         · exact nBD z.symm
       · rcases Xaf.mp hu with z | z
         · exact fr u z
         · rw [Xaj.mp z];exact s3.free hB
     · have h1:w≠sg:=fun z=>h1 (by rw [z];exact Xa1 rfl)
       obtain ⟨gs0,g0,eg⟩:=Zku p1;obtain ⟨us0,u0,eu⟩:=Zku (l:=us) (fun z=>by have:=W.len;rw [z] at this;exact p1 (List.length_eq_zero_iff.mp this.symm));subst eu;rw [eg] at W hp;rw [Zg3 h1] at hp;obtain ⟨W0,e0⟩:=wds_un W;have n0:u0≠D:=fun z=>nD (by rw [←z];simp);have hu0:u0 ∉ us0:=fun z=>(List.nodup_append.mp nd).2.2 u0 z u0 (by simp) rfl
       have g0l:g0.length≤900:=by
        exact Xbc (ZfF (sg:=sg) (ws.take i) [[]] (m:=0) (by simp) _ (by rw [show List.foldl (prtS sg) [[]] (ws.take i)=prt sg (ws.take i) from rfl,eg];simp)) (by rw [Xaw];omega)
       refine ⟨_,rfl,_,rfl,Or.inl ⟨D,_,_,.ref u0,rfl,rfl,SqL.of eD,by rw [Xad];exact ZhX _ _,Or.inl ⟨rfl,_,SqL.of e0⟩,_,rfl,u0,_,_,rfl,rfl,e0,by rw [Xaa];exact Zak (by omega),?_⟩⟩;refine ⟨_,us0++[u0],rfl,fun b o e=>?_,by rw [Zaf n0.symm];exact eD,?_,nd,nD,fr⟩
       · rw [Zaf (Zag e (fr u0 (by simp)))];exact s3 b o e
       · rw [hp]
         refine Wds.snoc (W0.upd fun u hu z=>hu0 (z ▸ hu)) ?_;rw [Zac,Xad];rfl
   · rintro σ H3 ⟨u3,us,rfl,s3,eD,W,nd,nD,fr⟩
     rw [Xaa,Xas] at W;exact ⟨_,rfl,q D us H3 hDH s3 eD W⟩
variable (P w K mg base) in
abbrev ZcK:Prop:=Zbb P w K mg base "parted" 1 ["words", "sign"] (Zhe K)
theorem ZhN (B:Blt mg) (ER:Ers K mg)  (F:Fun K "parted" "parted" ZcS f fd) (hm:mg "parted" = some (.ref f)):ZcK P w K mg base :=
 ⟨f,fd,Zkv B ER  F,hm,F.kp,F.binds fun _ _ _ _ _ _ us hl=>(by obtain ⟨x0,x1,rfl⟩:=ZdL hl;rfl)⟩
def ZbF (K:XFg):Sp:=fun vs H Q E=>∃ (l:Addr) (ws:List Str),vs=[.ref l]∧SqL K H l (ws.map V.str)∧ws.length≤900∧(∀ g:List (Str×Str),Zcl ws=g.map wG→∀ (D:Addr) (us:List Addr) (H':Hp),H D=none→Same H H'→H' D=some (.lst (us.map V.ref))→Wds H' us (g.map wG)→Q (.ref D) H') ∧
 ((¬∃ g:List (Str×Str),Zcl ws=g.map wG)→∀ H',Same H H'→E (.ref (clsA K "NoText")) none H')
theorem Zhf (B:Blt mg) (ER:Ers K mg) (c_parted:ZcK P w K mg base) (F:Fun K "read_twos" "read_twos" ZbB f fd):FnOk P w K mg base (CXE P w) 2 f fd ["words"] (ZbF K):=by
 refine F.okE sc_read_twos (fun vs H Q E h=>?_) (fun cdv A outer s H vs Q E hr h=>?_)
 · obtain ⟨l,ws,rfl,_⟩:=h
   rfl
 · obtain ⟨l, ws, rfl, hL, hl, q, qe⟩ := h
   refine ⟨_,(Zad (ZaN (Zc3 (Zhy (pv 0))) (Zah (ZaB (Zaz Zab))) Zao)
    (Zad (Zax (i:=1) sc_read_twos.nd (ZaU c_parted (Zaa (pv 0) (Zaa Zal Zab))))
    (Zad (ZaN (Zct (Zan (Zj6 rfl) B.b_any (Zaa (Zb6 (te:=tOp rNe (tCB (fun xs H Q=>∃ x n,xs=[x]∧LenV K x H n∧Q (V.int ↑n) H) (Zhq (tVar 0) tNil)) (tC (.int 2))) rfl read_twos_cs1 (ZaI (pv 1)) (fun _ _ _ _ _=>(Zam (i:=0) read_twos_cs1.nd)) (fun _ _ _ _ _=>Zb1) (fun _ _ _ _ _=>(ZfL ZfK (Zan ZaR B.b_len (Zaa (pv 0) Zab)) Zai (ZaC _)))) Zab))) (Zah (Zbd Zau rfl ER.k_NoText rfl (Zaa Zal Zab))) Zao)
    (Zah (ZaB (pv 1)))))),?_⟩
   refine ⟨_,rfl,l,_,rfl,hL,?_⟩
   cases he:(ws.map V.str).isEmpty with
   | true =>
     have e:ws=[]:=by simpa using he
     refine iteT ⟨by decide,fun D hD=>?_⟩;exact q [] (by unfold Zcl;rw [Xba e];rfl) D [] _ hD (Zaj hD) Zac Wds.nil
   | false =>
     have e:ws≠[]:=fun z=>by rw [z] at he;cases he
     refine iteF ⟨_,rfl,l,_, ",",rfl,hL,hl,fun D us H1 hD s1 eD W=>?_⟩
     have et:Zcl ws=prt "," ws:=by unfold Zcl;rw [Xa9 e]
     have pl:=(Ziw (sg := ",") (ws:=ws)).1
     refine ⟨_,rfl,D,rfl,⟨_,SqL.of eD⟩,ZbI (xs:=us.map V.ref) (fun D' i ys H'=>Same H1 H'∧H' D'=some (.lst ys)∧ys=(((prt "," ws).take i).map fun g=>decide (g.length≠2)).map V.bl) (fun D' hD'=>⟨Zaj hD',Zac,rfl⟩) (fun D' i ys H' ⟨s2,_⟩=>SqL.of (s2 _ _ eD)) (fun D' i x ys H2 R hD0 hx hv k=>?_) (fun D' ys H2 hD0 hv=>?_)⟩
     · obtain ⟨s2,eD',rfl⟩:=hv
       obtain ⟨u,hu,rfl⟩:=getm hx
       have hil:i<(prt "," ws).length:=by rw [←W.len];exact (Xae.mp hu).1
       have hg:=Xab hil;have eu:=s2 _ _ (W.at_ i u _ hu hg);refine ⟨_,rfl,_,_,rfl,Or.inl ⟨_,SqL.of eu,rfl⟩,rfl,?_⟩;refine k _ _ eD' (by rw [Xaa,Xaa,Xaw];exact Zak (by omega)) ⟨fun b o e=>?_,Zac,?_⟩
       · rw [Zaf (Zag e hD0)];exact s2 b o e
       · rw [Xar,hg,Xad,Xad]
         congr 1;show _=[V.bl _];congr 1;rw [Xaa]
         by_cases h2:(prt "," ws)[i].length=2
         · simp [h2]
         · have h3:¬(((prt "," ws)[i].length:Int)=2):=by omega
           simp [h2,h3]
     · obtain ⟨s2,eD',rfl⟩:=hv
       rw [Xaa,W.len,Xas] at eD';refine ⟨_,_,rfl,SqL.of eD',_,rfl,?_⟩
       by_cases h2:∀ g∈prt "," ws,g.length=2
       · rw [show ((prt "," ws).map fun g=>decide (g.length≠2)).any id=false from by
          rw [Bool.eq_false_iff];intro z;obtain ⟨b,hb,y⟩:=XaO.mp z;obtain ⟨g,hg,rfl⟩:=Xai.mp hb
          exact Xa3 y (h2 g hg)]
         obtain ⟨g,eg⟩:=Zi4 h2;exact iteF ⟨_,rfl,q g (by rw [et,eg]) D us H2 hD (s1.trans s2) (s2 _ _ eD) (by rw [←eg];exact W.same s2)⟩
       · rw [show ((prt "," ws).map fun g=>decide (g.length≠2)).any id=true from by
          rw [XaO];obtain ⟨g,hg⟩:=Classical.not_forall.mp h2;obtain ⟨hg,hn⟩:=Classical.not_imp.mp hg
          exact ⟨_,List.mem_map_of_mem hg,Xa1 hn⟩]
         refine iteT ⟨Zbc,qe (fun ⟨g,eg⟩=>h2 fun y hy=>?_) H2 (s1.trans s2)⟩;rw [←et,eg] at hy;obtain ⟨p,_,rfl⟩:=Xai.mp hy;rfl
theorem Zfj (B:Blt mg) (ER:Ers K mg) (c_parted:ZcK P w K mg base) (F:Fun K "read_twos" "read_twos" ZbB f fd) (hm:mg "read_twos" = some (.ref f)):Zar P w K mg base "read_twos" 2 ["words"] (ZbF K) :=
 ⟨f,fd,Zhf B ER c_parted F,hm,F.kp,F.binds fun _ _ _ _ _ _ us hl=>(by obtain ⟨x0,rfl⟩:=ZcW hl;rfl)⟩
def Zbu (K:XFg):Sp:=fun vs H Q E=>∃ x,vs=[.str x]∧(lab x→Q (.str x) H)∧(¬lab x→E (.ref (clsA K "NoText")) none H)
theorem Zgn (B:Blt mg) (ER:Ers K mg)  (F:Fun K "read_label" "read_label" ZbC f fd):FnOk P w K mg base (CXE P w) 1 f fd ["word"] (Zbu K):=by
 refine F.okE Zgi (fun vs H Q E h=>?_) (fun cdv A outer s H vs Q E hr h=>?_)
 · obtain ⟨x,rfl,_⟩:=h
   rfl
 · obtain ⟨x,rfl,q,qe⟩:=h
   refine ⟨_,(Zad (ZaN (Zas ZgF (pv 0) (ZbJ (v:=.ref (clsA K "SIGNS")) rfl ER.t_SIGNS rfl) (by with_unfolding_all rfl)) (Zah (Zbd Zau rfl ER.k_NoText rfl (Zaa Zal Zab))) Zao)
    (Zah (ZaB (pv 0)))),?_⟩
   refine ⟨_,rfl,_,_,rfl,Or.inr (ER.tv_SIGNS _),rfl,rfl,_,rfl,?_⟩;rw [Xa9 Xa7];refine ite2 (fun h1=>?_) (fun h1=>?_)
   · refine ⟨Zbc,qe fun hl=>?_⟩
     exact hl (inV_strs (l:=sgL).mp h1)
   · refine ⟨_,rfl,q fun hl=>h1 (inV_strs (l:=sgL).mpr hl)⟩
theorem Ze2 (B:Blt mg) (ER:Ers K mg)  (F:Fun K "read_label" "read_label" ZbC f fd) (hm:mg "read_label" = some (.ref f)):Zar P w K mg base "read_label" 1 ["word"] (Zbu K) :=
 ⟨f,fd,Zgn B ER  F,hm,F.kp,F.binds fun _ _ _ _ _ _ us hl=>(by obtain ⟨x0,rfl⟩:=ZcW hl;rfl)⟩
theorem fig_0 (c:Nat):(!decide ((⟨#[c]⟩:Str).cps.toList<("0" : Str).cps.toList))=decide (48≤c):=by
 show (!decide (([c]:List Nat)<("0" : Str).cps.toList))=_
 have e:("0" : Str).cps.toList=[48]:=by decide +kernel
 rw [e,ZfU]
 by_cases h:c<48
 · rw [Xa1 h,Xa2 (by omega)];rfl
 · rw [Xa2 h,Xa1 (by omega)];rfl
theorem fig_9 (c:Nat):(!decide (("9" : Str).cps.toList<(⟨#[c]⟩:Str).cps.toList))=decide (c≤57):=by
 show (!decide (("9" : Str).cps.toList<([c]:List Nat)))=_
 have e:("9" : Str).cps.toList=[57]:=by decide +kernel
 rw [e,ZfU]
 by_cases h:57<c
 · rw [Xa1 h,Xa2 (by omega)];rfl
 · rw [Xa2 h,Xa1 (by omega)];rfl
theorem both1 {A G:Prop} (k:A→G) (a:A):G:=k a
def digB (c:Nat):Bool:=decide (48≤c) && decide (c≤57)
theorem ZiC {x:Str} (h:¬NumW x):¬∃ n,Num x n:=fun ⟨_,z⟩=>h z.1
def Zbn (K:XFg):Sp:=fun vs H Q E=>∃ w,vs=[.str w]∧w.length≤1000∧(∀ n,Num w n→∀ H',Same H H'→Q (.int n) H')∧((¬∃ n,Num w n)→∀ H',Same H H'→E (.ref (clsA K "NoText")) none H')
theorem Zfk (B : Blt mg) (ER : Ers K mg)  (F : Fun K "read_number" "read_number" Za6 f fd) : FnOk P w K mg base (CXE P w) 1 f fd ["word"] (Zbn K) := by
 refine F.okE Zff (fun vs H Q E h=>?_) (fun cdv A outer s H vs Q E hr h=>?_)
 · obtain ⟨x,rfl,_⟩:=h
   rfl
 · obtain ⟨x,rfl,hl,q,qe⟩:=h
   have lx:x.cps.toList.length=x.length:=by simp [Str.length]
   refine ⟨_,(Zad (ZaN (PW.pt (Zhp (Zc3 (ZhU Zjr Zjr Zai (Zan ZaR B.b_len (Zaa (pv 0) Zab)) (ZbJ (v:=.int 4) rfl (Classical.choose_spec B.c_MOST_FIGURES) ⟨_,rfl⟩))) (Zfo (PW.pt (pw_and (Zas Zb0 (ZaZ ZaE (pv 0) Zai) Zal (ZaC _)) (Zjg (Zas ZfK (pv 0) Zal (ZaC _)))))))) (Zah (Zbd Zau rfl ER.k_NoText rfl (Zaa Zal Zab))) Zao)
    (Zad (ZaN (Zc3 (Zct (Zan (ZgK rfl) B.b_all (Zaa (Zb6 rfl read_number_cs1 (pi_str (pv 0)) (fun _ _ _ _ _=>(Zam (i:=0) read_number_cs1.nd)) (fun _ _ _ _ _=>Zb1) (fun _ _ _ _ _=>(ZfM Zh3 Zh3 Zal (pv 0) Zal))) Zab)))) (Zah (Zbd Zau rfl ER.k_NoText rfl (Zaa Zal Zab))) Zao)
    (Zah (ZaB (Zcu Zj7 B.b_int (Zaa (pv 0) Zab)))))),?_⟩
   refine ⟨_,rfl,_,_,rfl,⟨Xbc hl (by decide),rfl⟩,_,_,rfl,rfl,_,rfl,?_⟩;refine ite2 (fun h1=>?_) (fun h1=>?_);rotate_left
   · refine ⟨_,rfl,iteT (iteT ⟨Zbc,qe (ZiC fun z=>h1 (Xa1 (by have:=z.l1;omega))) H (Same.refl _)⟩)⟩
   have h1:1≤x.length:=by have:=Xa3 h1;omega
   refine ⟨_,_,rfl,rfl,_,rfl,?_⟩
   by_cases h4:x.length≤4
   rotate_left
   · rw [Xa2 (show ¬((x.length:Int)≤4) by omega)]
     exact iteT (iteT ⟨Zbc,qe (ZiC fun z=>h4 z.l4) H (Same.refl _)⟩)
   rw [Xa1 (show (x.length:Int)≤4 by omega)]
   obtain ⟨c0,r,ex⟩:∃ c0 r,x.cps.toList=c0 :: r:=by
    cases e:x.cps.toList with
    | nil=>rw [e] at lx;simp at lx;omega
    | cons a r=>exact ⟨a,r,rfl⟩
   refine iteF ⟨_,rfl,Or.inr (Or.inr ⟨_,_,c0,rfl,rfl,Xbc hl (by decide),Zbw (j:=0) (by rw [ex];rfl),rfl,_,rfl,?_⟩)⟩
   refine both1 (fun main=>ite2 (fun z=>⟨_,rfl,rfl,_,rfl,ite2 (fun y=>⟨Zbc,qe (ZiC fun k=>?bad) H (Same.refl _)⟩) (fun y=>main ?good)⟩) (fun z=>iteF (main ?good2))) (fun hz:x.cps.toList.head?=some 48→x = "0" => ?main)
   case bad =>
    have y:(!decide (V.str x=V.str "0"))=true:=y
    have e0:=V.str.inj (Xa3 z)
    have:c0=48:=by
     have:=Xbf (fun s:Str=>s.cps.toList) e0
     have k0:("0" : Str).cps.toList=[48]:=by decide +kernel
     rw [k0] at this
     simpa using this
    have:=k.z (by rw [ex,this];rfl)
    rw [this] at y;simp at y
   case good =>
    intro _
    have y:¬(!decide (V.str x=V.str "0"))=true:=y
    simpa using y
   case good2 =>
    intro e;rw [ex] at e;cases e;exact absurd (Xa1 (by decide +kernel)) z
   case main =>
    refine ⟨_,rfl,_,rfl,Zh7 (x:=x) (f:=fun c=>V.bl (digB c)) (Xbc hl (by decide)) (fun i c H2 D R hc s2 hD k=>?_) (fun H2 D s2 hD e2=>?_)⟩
    · refine ⟨_,rfl,_,_,rfl,rfl,_,rfl,?_⟩
      show if (!decide ((⟨#[c]⟩:Str).cps.toList<("0" : Str).cps.toList))=true then _ else _
      rw [fig_0];have k:=k H2 (Same.refl _);unfold digB at k
      by_cases d1:48≤c
      · rw [Xa1 d1] at k ⊢
        refine iteT ⟨_,_,rfl,rfl,?_⟩
        rw [show (V.bl ((fun a b:Str=>!decide (b.cps.toList<a.cps.toList)) ⟨#[c]⟩ "9"))=V.bl (decide (c≤57)) from Xbf V.bl (fig_9 c)]
        exact k
      · rw [Xa2 d1] at k ⊢
        exact iteF k
    · refine ⟨_,x.cps.toList.map digB,rfl,SqL.of (by rw [Xax];exact e2),_,rfl,?_⟩
      by_cases hd:∀ c∈x.cps.toList,48≤c∧c≤57
      · have N:NumW x:=⟨h1,h4,hz,hd⟩
        obtain ⟨n,hn⟩:=Zir N
        rw [show (x.cps.toList.map digB).all id=true from by
         rw [List.all_eq_true];intro b hb;obtain ⟨c,hc,rfl⟩:=Xai.mp hb
         have:=hd c hc
         unfold digB
         simp [this]]
        refine iteF ⟨_,rfl,_,n,rfl,hn.2,by omega,q n hn H2 s2⟩
      · rw [show (x.cps.toList.map digB).all id=false from by
         rw [Bool.eq_false_iff];intro z;refine hd fun c hc=>?_
         have:=List.all_eq_true.mp z _ (List.mem_map_of_mem hc)
         unfold digB at this
         simpa using this]
        exact iteT ⟨Zbc,qe (ZiC fun z=>hd z.d) H2 s2⟩
theorem Zeq (B:Blt mg) (ER:Ers K mg)  (F:Fun K "read_number" "read_number" Za6 f fd) (hm:mg "read_number" = some (.ref f)):Zar P w K mg base "read_number" 1 ["word"] (Zbn K) :=
 ⟨f,fd,Zfk B ER  F,hm,F.kp,F.binds fun _ _ _ _ _ _ us hl=>(by obtain ⟨x0,rfl⟩:=ZcW hl;rfl)⟩
theorem two_of {α:Type}{l:List α} (h:l.length=2):∃ a b,l=[a,b]:=by
 cases l with
 | nil=>cases h
 | cons a l =>
   cases l with
   | nil=>cases h
   | cons b l =>
     cases l with
     | nil=>exact ⟨a,b,rfl⟩
     | cons c l=>simp at h
def ZbY (K:XFg):Sp:=fun vs H Q E=>∃ (l:Addr) (ws:List Str),vs=[.ref l]∧SqL K H l (ws.map V.str)∧ws.length≤900∧(∀ x∈ws,x.length≤1000) ∧
 (∀ s:Stt,RdSt ws s→∀ (t g e:Addr) (gt:List Addr) (H':Hp),H t=none→H g=none→H e=none→g≠e→Same H H'→H' t=some (.tup [.ref g,.ref e])→H' g=some (.lst (gt.map V.ref))→GT H' gt s.1→H' e=some (.lst (s.2.map V.str))→Q (.ref t) H') ∧
 ((¬∃ s,RdSt ws s)→∀ H',Same H H'→E (.ref (clsA K "NoText")) none H')
theorem Zgo (B:Blt mg) (ER:Ers K mg) (c_parted:ZcK P w K mg base) (c_read_twos:Zar P w K mg base "read_twos" 2 ["words"] (ZbF K)) (c_read_label:Zar P w K mg base "read_label" 1 ["word"] (Zbu K)) (c_read_number:Zar P w K mg base "read_number" 1 ["word"] (Zbn K)) (F:Fun K "read_state" "read_state" Za7 f fd):FnOk P w K mg base (CXE P w) 3 f fd ["words"] (ZbY K):=by
 refine F.okE sc_read_state (fun vs H Q E h=>?_) (fun cdv A outer s H vs Q E hr h=>?_)
 · obtain ⟨l,ws,rfl,_⟩:=h
   rfl
 · obtain ⟨l,ws,rfl,hL,hl,hw,q,qe⟩:=h
   have pl:=Ziw (sg := ":") (ws:=ws)
   refine ⟨_,(Zad (Zax (i:=1) sc_read_state.nd (ZaU c_parted (Zaa (pv 0) (Zaa Zal Zab))))
    (Zad (ZaN (Zas ZfK (Zan ZaR B.b_len (Zaa (pv 1) Zab)) Zai (ZaC _)) (Zah (Zbd Zau rfl ER.k_NoText rfl (Zaa Zal Zab))) Zao)
    (Zad (Zge (i:=2) sc_read_state.nd rfl (Or.inl rfl) (g:=gLst K 2 (Zez (Zc2 0) (Zez (Zc2 1) gNil))) Zau rfl rfl rfl read_state_cs1 (ZaI (Zcx c_read_twos Zau (hr.mono (by decide)) rfl (Zaa (ZaZ ZaE (pv 1) Zai) Zab))) (fun _ _ _ _ _=>(pg_lst (n:=2) rfl (ZaA (Zam (i:=0) read_state_cs1.nd) (ZaA (Zam (i:=1) read_state_cs1.nd) ZbK)))) (fun _ _ _ _ _=>Zb1) (fun _ _ _ _ _=>(ZcO (Zaa (Zcx c_read_label Zb9 (hr.mono (by decide)) rfl (Zaa (pv 0) Zab)) (Zaa (Zcx c_read_number Zb9 (hr.mono (by decide)) rfl (Zaa (pv 1) Zab)) Zab)))))
    (Zah (ZaB (ZcO (Zaa (pv 2) (Zaa (Zk1 Zau rfl rfl rfl read_state_cs2 (ZaI (ZaZ ZaE (pv 1) Zai)) (fun _ _ _ _ _=>(Zam (i:=0) read_state_cs2.nd)) (fun _ _ _ _ _=>Zb1) (fun _ _ _ _ _=>(Zcx c_read_label Zb9 (hr.mono (by decide)) rfl (Zaa (pv 0) Zab)))) Zab)))))))),?_⟩
   refine ⟨_,rfl,l,ws, ":",rfl,hL,hl,fun D us H1 hD s1 eD W=>?_⟩
   refine ⟨_,rfl,_,_,rfl,Or.inl ⟨_,SqL.of eD,rfl⟩,rfl,_,rfl,?_⟩;rw [Xaa,W.len]
   by_cases h2:(prt ":" ws).length=2
   rotate_left
   · have h3:¬(((prt ":" ws).length:Int)=2):=by omega
     refine iteC (by simpa using h3) ⟨Zbc,qe (fun ⟨s,a,g,e,_⟩=>h2 (by rw [e];rfl)) H1 s1⟩
   have h3:(((prt ":" ws).length:Int)=2):=by omega
   refine iteN (by simpa using h3) ?_;obtain ⟨wa,wb,ep⟩:=two_of h2;rw [ep] at W pl;obtain ⟨a,b,rfl⟩:=two_of W.len;have ea:=W.at_ 0 a _ rfl rfl;have eb:=W.at_ 1 b _ rfl rfl;have la:=pl.2 wa (by simp);have lb:=pl.2 wb (by simp)
   have wax:∀ x∈wa,x∈ws:=fun x hx=>Zc8 (sg := ":") (by rw [ep];simp) hx
   refine ⟨_,rfl,Or.inl ⟨D,_,_,.ref a,rfl,rfl,SqL.of eD,rfl,a,wa,rfl,SqL.of ea,by omega,fun gg egg D2 us2 H2 hD2 s2 eD2 W2=>?_,fun hn H2 s2=>qe (fun ⟨s,a',g,e,e2,_⟩=>hn ?_) H2 (s1.trans s2)⟩⟩;rotate_left
   · rw [ep] at e
     injection e with e1 _
     exact ⟨g,by rw [e1];exact e2⟩
   have tl:=ZhI egg
   refine ⟨D2,rfl,⟨_,SqL.of eD2⟩,ZbI (xs:=us2.map V.ref) (fun G i ys H'=>∃ (ts:List Addr) (gs:List (Str×Int)),Same H2 H'∧H' G=some (.lst ys)∧ys=ts.map V.ref∧GT H' ts gs∧F2 RdG (gg.take i) gs)
    (fun G hG=>⟨[],[],Zaj hG,Zac,rfl,GT.nil,F2.nil⟩) (fun G i ys H' ⟨_,_,s3,_⟩=>SqL.of (s3 _ _ eD2)) (fun G i x ys H3 R hG0 hx hv k=>?_) (fun G ys H3 hG0 hv=>?_)⟩
   · obtain ⟨ts,gs,s3,eG,rfl,T,F⟩:=hv
     obtain ⟨u,hu,rfl⟩:=getm hx
     have hil:i<gg.length:=by
      have:=W2.len
      rw [Xaa] at this;rw [←this];exact (Xae.mp hu).1
     have hp:=Xab hil;have eu:=s3 _ _ (W2.at_ i u (wG gg[i]) hu (by rw [Xag,hp];rfl));have hmem:=Xah hp
     have bad:¬(lab gg[i].1∧∃ n,Num gg[i].2 n)→¬∃ s,RdSt ws s:=fun nb ⟨s,a',g,e,e2,f2,_⟩=>by
      rw [ep] at e
      injection e with e1 _
      rw [←e1,egg] at e2
      have:=ZfD e2
      subst this;obtain ⟨y,_,r1,r2,r3⟩:=f2.left hmem;exact nb ⟨r1,_,r3⟩
     have s123:=(s1.trans s2).trans s3;refine ⟨u,_,rfl,SqL.of eu,rfl,_,_,rfl,_,_,rfl,rfl,?_⟩;refine ⟨_,rfl,_,rfl,fun l1=>⟨_,rfl,_,rfl,hw _ (wax _ (tl.2 _ hmem).2),fun n hn H4 s4=>⟨Zbv,fun z hz=>?_⟩,fun hn H4 s4=>qe (bad fun y=>hn y.2) H4 (s123.trans s4)⟩,fun l1=>qe (bad fun y=>l1 y.1) H3 s123⟩;have s5:=s4.trans (Zaj (o:=.tup [.str gg[i].1,.int n]) hz);have ez:(upd H4 z (.tup [.str gg[i].1,.int n])) z=some (.tup [.str gg[i].1,.int n]):=Zac;generalize upd H4 z (.tup [.str gg[i].1,.int n])=H5 at s5 ez ⊢;have eG5:=s5 _ _ eG
     have lts:ts.length≤900:=by
      have:=F.1
      rw [Xaw] at this;rw [T.len];omega
     refine k _ _ eG5 (by rw [Xaa];exact Zak (by omega)) ⟨ts++[z],gs++[(gg[i].1,n)],fun b o e=>?_,Zac,by rw [Xad];rfl,((T.same s5).snoc ez).updL eG5,?_⟩
     · rw [Zaf (Zag e hG0)];exact s5 _ _ (s3 b o e)
     · rw [Xar,hp]
       exact F.snoc ⟨l1,rfl,hn⟩
   · obtain ⟨ts,gs,s3,eG,rfl,T,F⟩:=hv
     rw [Xaa,W2.len,Xaa,Xas] at F;have s23:=s2.trans s3;have eD3:=s23 _ _ eD;have eb3:=s23 _ _ eb;have s13:=s1.trans s23;refine g_in ?_;try dsimp only
     refine ⟨_,rfl,_,rfl,Or.inl ⟨D,_,_,.ref b,rfl,rfl,SqL.of eD3,rfl,b,rfl,⟨_,SqL.of eb3⟩,ZbI (xs:=wb.map V.str) (fun Ee i ys H'=>Same H3 H'∧H' Ee=some (.lst ys)∧ys=(wb.take i).map V.str∧∀ x∈wb.take i,lab x) (fun Ee hEe=>⟨Zaj hEe,Zac,rfl,fun x hx=>by simp at hx⟩) (fun Ee i ys H' ⟨s4,_⟩=>SqL.of (s4 _ _ eb3)) (fun Ee i x ys H4 R hE0 hx hv k=>?_) (fun Ee ys H4 hE0 hv=>?_)⟩⟩
     · obtain ⟨s4,eE,rfl,hlab⟩:=hv
       obtain ⟨y,hy,rfl⟩:=getm hx;have hil:i<wb.length:=(Xae.mp hy).1;refine ⟨_,rfl,_,rfl,fun l1=>?_,fun l1=>qe (fun ⟨s,a',g,e,_,_,e4⟩=>l1 (e4 y ?_)) H4 (s13.trans s4)⟩
       · refine k _ _ eE (by rw [Xaa,Xaw];exact Zak (by omega)) ⟨fun b o e=>?_,Zac,?_,fun x hx=>?_⟩
         · rw [Zaf (Zag e hE0)];exact s4 b o e
         · rw [Xar,hy,Xad];rfl
         · rw [Xar,hy] at hx
           rcases Xaf.mp hx with hx | hx
           · exact hlab x hx
           · have:x=y:=by simpa using hx
             rw [this];exact l1
       · rw [ep] at e
         injection e with _ e
         injection e with e _
         rw [←e];exact Xah hy
     · obtain ⟨s4,eE,rfl,hlab⟩:=hv
       rw [Xaa,Xas] at eE hlab;refine ⟨Zbv,fun t ht=>?_⟩;have s5:=Zaj (o:=.tup [.ref G,.ref Ee]) ht;have s35:=s4.trans s5
       have nGE:G≠Ee:=fun z=>by rw [z,hE0] at eG;cases eG
       exact q (gs,wb) ⟨wa,gg,ep,egg,F,hlab⟩ t G Ee ts _ ((s13.trans s4).free ht) ((s1.trans s2).free hG0) (s13.free hE0) nGE (s13.trans s35) Zac (s35 _ _ eG) (T.same s35) (s5 _ _ eE)
theorem Ze3 (B:Blt mg) (ER:Ers K mg) (c_parted:ZcK P w K mg base) (c_read_twos:Zar P w K mg base "read_twos" 2 ["words"] (ZbF K)) (c_read_label:Zar P w K mg base "read_label" 1 ["word"] (Zbu K)) (c_read_number:Zar P w K mg base "read_number" 1 ["word"] (Zbn K)) (F:Fun K "read_state" "read_state" Za7 f fd) (hm:mg "read_state" = some (.ref f)):Zar P w K mg base "read_state" 3 ["words"] (ZbY K) :=
 ⟨f,fd,Zgo B ER c_parted c_read_twos c_read_label c_read_number F,hm,F.kp,F.binds fun _ _ _ _ _ _ us hl=>(by obtain ⟨x0,rfl⟩:=ZcW hl;rfl)⟩
def Za0 (K:XFg):Sp:=fun vs H Q E=>∃ (a p:Addr) (ss:List Stt) (ps:List V),vs=[.ref a,.ref p]∧Stts K H a ss∧SqL K H p ps∧(Fits ss→ps.length≤40→Q .non H)∧(¬(Fits ss∧ps.length≤40)→E (.ref (clsA K "TooGreat")) none H)
theorem ZdB (B:Blt mg) (ER:Ers K mg)  (F:Fun K "refuse_too_great" "refuse_too_great" ZaJ f fd):FnOk P w K mg base (CXE P w) 1 f fd ["states", "pairs"] (Za0 K):=by
 refine F.okE sc_refuse_too_great (fun vs H Q E h=>?_) (fun cdv A outer s H vs Q E hr h=>?_)
 · obtain ⟨a,p,ss,ps,rfl,_⟩:=h
   rfl
 · obtain ⟨a,p,ss,ps,rfl,⟨vs,hS,hD⟩,hP,q,qe⟩:=h
   have lvs:=hD.len_map
   refine ⟨_,(Zad (ZaN (Zas Zjs (Zan ZaR B.b_len (Zaa (pv 0) Zab)) (ZbJ (v:=.int 8) rfl (Classical.choose_spec B.c_MOST_STATES) ⟨_,rfl⟩) (ZaC _)) (Zah (Zbd Zau rfl ER.k_TooGreat rfl (Zaa Zal Zab))) Zao)
    (Zad (ZbM PassesOwn.leaving rfl (ZaI (pv 0)) (ZcE (n:=2) rfl (ZaA (Zam (i:=2) sc_refuse_too_great.nd) (ZaA (Zam (i:=3) sc_refuse_too_great.nd) ZbK))) (Zad (ZaN (Zas Zjs (Zan ZaR B.b_len (Zaa (pv 2) Zab)) (ZbJ (v:=.int 8) rfl (Classical.choose_spec B.c_MOST_GOES) ⟨_,rfl⟩) (ZaC _)) (Zah (Zbd Zau rfl ER.k_TooGreat rfl (Zaa Zal Zab))) Zao)
     (Zah (ZaN (Zas Zjs (Zan ZaR B.b_len (Zaa (pv 3) Zab)) (ZbJ (v:=.int 8) rfl (Classical.choose_spec B.c_MOST_ENDS) ⟨_,rfl⟩) (ZaC _)) (Zah (Zbd Zau rfl ER.k_TooGreat rfl (Zaa Zal Zab))) Zao))))
    (Zah (ZaN (Zas Zjs (Zan ZaR B.b_len (Zaa (pv 1) Zab)) (ZbJ (v:=.int 40) rfl (Classical.choose_spec B.c_MOST_PAIRS) ⟨_,rfl⟩) (ZaC _)) (Zah (Zbd Zau rfl ER.k_TooGreat rfl (Zaa Zal Zab))) Zao)))),?_⟩
   refine ⟨_,rfl,_,_,rfl,Or.inl ⟨_,hS,rfl⟩,_,_,rfl,rfl,_,rfl,?_⟩
   by_cases hn:ss.length≤8
   case neg =>
    rw [Xa1 (show ((vs.length:Nat):Int) > 8 by omega)];exact iteT ⟨Zbc,qe fun z=>hn z.1.n⟩
   rw [Xa2 (show ¬((vs.length:Nat):Int) > 8 by omega)];refine iteF ?_;refine ⟨_,rfl,a,rfl,⟨_,hS⟩,Za2 (xs:=vs) (fun i σ H'=>∃ u2 u3,σ=[some (.ref a),some (.ref p),u2,u3]∧H'=H∧∀ s∈ss.take i,s.1.length≤8∧s.2.length≤8) ⟨none,none,rfl,rfl,fun s hs=>by simp at hs⟩ (fun i σ H' _ ⟨_,_,_,e,_⟩=>by rw [e];exact hS) ?_ ?_⟩
   · rintro i x σ H2 hx ⟨u2,u3,rfl,rfl,hall⟩
     obtain ⟨s,t,g,e,hs,rfl,ht,⟨gv,hg,hgd⟩,he⟩:=hD.sts_get hx;have lgv:=hgd.len_map;have hm:=Xah hs;refine ⟨t,_,rfl,ht,rfl,_,_,rfl,_,_,rfl,rfl,?_⟩;refine ⟨_,rfl,_,_,rfl,Or.inl ⟨_,hg,rfl⟩,_,_,rfl,rfl,_,rfl,?_⟩
     by_cases b1:s.1.length≤8
     case neg =>
      rw [Xa1 (show ((gv.length:Nat):Int) > 8 by omega)];exact iteT ⟨Zbc,qe fun z=>b1 (z.1.gs s hm)⟩
     rw [Xa2 (show ¬((gv.length:Nat):Int) > 8 by omega)];refine iteF ⟨_,rfl,_,_,rfl,Or.inl ⟨_,he,rfl⟩,_,_,rfl,rfl,_,rfl,?_⟩;rw [Xaa]
     by_cases b2:s.2.length≤8
     case neg =>
      rw [Xa1 (show ((s.2.length:Nat):Int) > 8 by omega)];exact iteT ⟨Zbc,qe fun z=>b2 (z.1.es s hm)⟩
     rw [Xa2 (show ¬((s.2.length:Nat):Int) > 8 by omega)];refine iteF ⟨_,_,rfl,rfl,fun s' hs'=>?_⟩;rw [Xar,hs] at hs'
     rcases Xaf.mp hs' with hs' | hs'
     · exact hall s' hs'
     · rw [Xaj.mp hs'];exact ⟨b1,b2⟩
   · rintro σ H2 ⟨u2,u3,rfl,rfl,hall⟩
     rw [lvs,Xas] at hall;refine ⟨_,rfl,_,_,rfl,Or.inl ⟨_,hP,rfl⟩,_,_,rfl,rfl,_,rfl,?_⟩
     by_cases hp:ps.length≤40
     · rw [Xa2 (show ¬((ps.length:Nat):Int) > 40 by omega)]
       exact iteF (q ⟨hn,fun s hs=>(hall s hs).1,fun s hs=>(hall s hs).2⟩ hp)
     · rw [Xa1 (show ((ps.length:Nat):Int) > 40 by omega)]
       exact iteT ⟨Zbc,qe fun z=>hp z.2⟩
theorem Zda (B:Blt mg) (ER:Ers K mg)  (F:Fun K "refuse_too_great" "refuse_too_great" ZaJ f fd) (hm:mg "refuse_too_great" = some (.ref f)):Zar P w K mg base "refuse_too_great" 1 ["states", "pairs"] (Za0 K) :=
 ⟨f,fd,ZdB B ER  F,hm,F.kp,F.binds fun _ _ _ _ _ _ us hl=>(by obtain ⟨x0,x1,rfl⟩:=ZdL hl;rfl)⟩
def Zel (K:XFg):Sp:=fun vs H Q _=>∃ (g:Addr) (gs:List (Str×Int)),vs=[.ref g]∧Goes K H g gs∧gs.length≤100∧∀ (p:Addr) (H':Hp),H p=none→Same H H'→H' p=some (.lst ((gs.map (·.1)).map V.str))→Q (.ref p) H'
theorem Zhg (B:Blt mg) (ER:Ers K mg)  (F:Fun K "labels_of" "labels_of" ZbD f fd):FnOk P w K mg base CX0 1 f fd ["goes"] (Zel K):=by
 refine F.ok Zg8 (fun vs H Q E h=>?_) (fun cdv A outer s H vs Q E hr h=>?_)
 · obtain ⟨g,gs,rfl,_⟩:=h
   rfl
 · obtain ⟨g,gs,rfl,⟨vs,hS,hD⟩,hlen,q⟩:=h
   have lvs:=hD.len_map;refine ⟨_,(Zah (ZaB (Zb6 (g:=gTup K 2 (Zez (Zc2 0) (Zez (Zc2 1) gNil))) rfl labels_of_cs1 (ZaI (pv 0)) (fun _ _ _ _ _=>(ZcE (n:=2) rfl (ZaA (Zam (i:=0) labels_of_cs1.nd) (ZaA (Zam (i:=1) labels_of_cs1.nd) ZbK)))) (fun _ _ _ _ _=>Zb1) (fun _ _ _ _ _=>(pv 0))))),?_⟩
   refine ⟨_,rfl,g,rfl,⟨_,hS⟩,ZbI (xs:=vs) (fun D i ys H'=>Same H H'∧H' D=some (.lst ys)∧ys=((gs.take i).map (·.1)).map V.str)
    (fun D hD=>⟨Zaj hD,Zac,rfl⟩) (fun D i ys H' ⟨s1,_⟩=>s1.seq hS) (fun D i x ys H2 R hD0 hx hv k=>?_) (fun R ys H2 hR hv=>?_)⟩
   · obtain ⟨s2,eD,rfl⟩:=hv
     obtain ⟨p,t,hp,rfl,ht⟩:=hD.goes_get hx;have hil:i<gs.length:=(Xae.mp hp).1;refine ⟨t,_,rfl,s2.seqT ht,rfl,_,_,rfl,_,_,rfl,rfl,?_⟩;refine ⟨_,rfl,k _ _ eD (by rw [Xaa,Xaa,Xaw];exact Zak (by omega)) ⟨fun b o e=>?_,Zac,?_⟩⟩
     · rw [Zaf (Zag e hD0)];exact s2 b o e
     · rw [Xar,hp,Xad,Xad];rfl
   · obtain ⟨s2,eD,rfl⟩:=hv
     rw [lvs,Xas] at eD;exact q R H2 hR s2 eD
variable (P w K mg base) in
abbrev Zca:Prop:=Zbb P w K mg base "labels_of" 1 ["goes"] (Zel K)
theorem Zfl (B:Blt mg) (ER:Ers K mg)  (F:Fun K "labels_of" "labels_of" ZbD f fd) (hm:mg "labels_of" = some (.ref f)):Zca P w K mg base :=
 ⟨f,fd,Zhg B ER  F,hm,F.kp,F.binds fun _ _ _ _ _ _ us hl=>(by obtain ⟨x0,rfl⟩:=ZcW hl;rfl)⟩
def Zdu (K:XFg):Sp:=fun vs H Q _=>∃ (a p:Addr) (ss:List Stt) (ps:List (Str×Str)),vs=[.ref a,.ref p]∧StE K H a ss∧Fits ss∧Prs K H p ps∧ps.length≤60∧∀ (l:Addr) (H':Hp),H l=none→Same H H'→H' l=some (.lst ((ZaH ss++ZbL ps).map V.str))→Q (.ref l) H'
theorem Zfm (B:Blt mg) (ER:Ers K mg) (c_labels_of:Zca P w K mg base) (F:Fun K "labels_told" "labels_told" Zbr f fd):FnOk P w K mg base CX0 2 f fd ["states", "pairs"] (Zdu K):=by
 refine F.ok sc_labels_told (fun vs H Q E h=>?_) (fun cdv A outer s H vs Q E hr h=>?_)
 · obtain ⟨a,p,ss,ps,rfl,_⟩:=h
   rfl
 · obtain ⟨a,p,ss,ps,rfl,⟨vs,hS,lvs,hE⟩,hF,⟨pws,hP,hPD⟩,hpl,q⟩:=h
   have lpws:=hPD.len_map;have hn8:=hF.n
   have tkl:∀ i,(ZaH (ss.take i)).length≤128:=fun i=>by
    have:=Zeh (ss.take i) (fun s hs=>hF.gs s (List.mem_of_mem_take hs)) (fun s hs=>hF.es s (List.mem_of_mem_take hs))
    rw [Xaw] at this;omega
   refine ⟨_,(Zad (Zax (i:=2) sc_labels_told.nd (Zaz Zab))
    (Zad (ZbM Xbn rfl (ZaI (pv 0)) (ZcE (n:=2) rfl (ZaA (Zam (i:=3) sc_labels_told.nd) (ZaA (Zam (i:=4) sc_labels_told.nd) ZbK))) (Zad (Zay (Za9 Xa4 PySem.F.slot_list_extend PySem.F.type_list_extend ZcQ (pv 2) (Zaa (ZaU c_labels_of (Zaa (pv 3) Zab)) Zab)))
     (Zah (Zay (Za9 Xa4 PySem.F.slot_list_extend PySem.F.type_list_extend ZcQ (pv 2) (Zaa (pv 4) Zab))))))
    (Zad (ZbM Xbn rfl (ZaI (pv 1)) (ZcE (n:=2) rfl (ZaA (Zam (i:=5) sc_labels_told.nd) (ZaA (Zam (i:=6) sc_labels_told.nd) ZbK))) (Zad (Zay (Za9 Xa4 Xa5 Xa6 ZaD (pv 2) (Zaa (pv 5) Zab)))
     (Zah (Zay (Za9 Xa4 Xa5 Xa6 ZaD (pv 2) (Zaa (pv 6) Zab))))))
    (Zah (ZaB (pv 2)))))),?_⟩
   refine ⟨by decide,fun D hD=>?_⟩;refine ⟨_,rfl,a,rfl,⟨_,(Zaj hD).seq hS⟩,Za2 (xs:=vs) (fun i σ H'=>∃ u3 u4,σ=[some (.ref a),some (.ref p),some (.ref D),u3,u4,none,none]∧Same H H'∧H' D=some (.lst ((ZaH (ss.take i)).map V.str))) ⟨none,none,rfl,Zaj hD,Zac⟩ (fun i σ H' _ ⟨_,_,_,e,_⟩=>e.seq hS) ?_ ?_⟩
   · rintro i x σ H2 hx ⟨u3,u4,rfl,s2,eD⟩
     have hil:i<ss.length:=by rw [←lvs];exact (Xae.mp hx).1
     have hs:=Xab hil;obtain ⟨t,g,e,rfl,ht,hg,he⟩:=hE i x _ hx hs;have b1:=hF.gs _ (Xah hs);have b2:=hF.es _ (Xah hs)
     have etk:ss.take (i+1)=ss.take i++[ss[i]]:=by rw [Xar,hs];rfl
     have tki:=tkl i;refine ⟨t,_,rfl,s2.seqT ht,rfl,_,_,rfl,_,_,rfl,rfl,?_⟩;refine ⟨_,rfl,Or.inl ⟨rfl,_,SqL.of eD⟩,_,rfl,g,_,rfl,hg.same s2,by omega,fun l1 H3 hl1 s3 e1=>?_⟩;have eD3:=s3 _ _ eD;refine ⟨D,l1,_,_,rfl,rfl,eD3,e1,?_,?_⟩
     · rw [Xaa,Xaa,Xaa];exact XaU (Zak (by omega))
     have eD4:(upd H3 D (.lst ((ZaH (ss.take i)).map V.str++(ss[i].1.map (·.1)).map V.str))) D=some (.lst ((ZaH (ss.take i)).map V.str++(ss[i].1.map (·.1)).map V.str)):=Zac
     have s4:Same H (upd H3 D (.lst ((ZaH (ss.take i)).map V.str++(ss[i].1.map (·.1)).map V.str))):=fun b o e=>by
      rw [Zaf (Zag e hD)];exact s3 _ _ (s2 b o e)
     generalize upd H3 D (.lst ((ZaH (ss.take i)).map V.str++(ss[i].1.map (·.1)).map V.str))=H4 at eD4 s4 ⊢;refine ⟨_,rfl,Or.inl ⟨rfl,_,SqL.of eD4⟩,_,rfl,D,e,_,_,rfl,rfl,eD4,s4 _ _ he,?_,?_⟩
     · rw [Xac,Xaa,Xaa,Xaa,Xaa];exact XaU (Zak (by omega))
     refine ⟨_,_,rfl,fun b o e=>?_,?_⟩
     · rw [Zaf (Zag e hD)];exact s4 b o e
     · rw [Zac,etk,Zf4,Xad,Xad]
   · rintro σ H2 ⟨u3,u4,rfl,s2,eD⟩
     rw [lvs,Xas] at eD;have tk8:=tkl ss.length;rw [Xas] at tk8;refine ⟨_,rfl,p,rfl,⟨_,s2.seq hP⟩,Za2 (xs:=pws) (fun i σ H'=>∃ u5 u6,σ=[some (.ref a),some (.ref p),some (.ref D),u3,u4,u5,u6]∧Same H H'∧H' D=some (.lst ((ZaH ss++ZbL (ps.take i)).map V.str))) ⟨none,none,rfl,s2,by rw [eD];show _=some (HO.lst ((ZaH ss++[]).map V.str));rw [XaH]⟩ (fun i σ H' _ ⟨_,_,_,e,_⟩=>e.seq hP) ?_ ?_⟩
     · rintro i x σ H3 hx ⟨u5,u6,rfl,s3,eD3⟩
       obtain ⟨pr,t,hp,rfl,ht⟩:=hPD.pairs_get hx;have hil:i<ps.length:=(Xae.mp hp).1
       have etk:ps.take (i+1)=ps.take i++[pr]:=by rw [Xar,hp];rfl
       have lp:=ZeG (ps.take i);rw [Xaw] at lp;refine ⟨t,_,rfl,s3.seqT ht,rfl,_,_,rfl,_,_,rfl,rfl,?_⟩;refine ⟨_,rfl,Or.inl ⟨rfl,_,SqL.of eD3⟩,_,rfl,D,_,_,rfl,rfl,eD3,?_,?_⟩
       · rw [Xaa,Xac];exact Zak (by omega)
       refine ⟨_,rfl,Or.inl ⟨rfl,_,SqL.of Zac⟩,_,rfl,D,_,_,rfl,rfl,Zac,?_,?_⟩
       · rw [Xac,Xaa,Xac];exact Zak (by simp;omega)
       refine ⟨_,_,rfl,fun b o e=>?_,?_⟩
       · rw [Zaf (Zag e hD),Zaf (Zag e hD)];exact s3 b o e
       · rw [Zac,etk,ZgW];simp only [Xad,Xao,XaM,XaE]
     · rintro σ H3 ⟨u5,u6,rfl,s3,eD3⟩
       rw [lpws,Xas] at eD3;exact ⟨_,rfl,q D H3 hD s3 eD3⟩
variable (P w K mg base) in
abbrev Zco:Prop:=Zbb P w K mg base "labels_told" 2 ["states", "pairs"] (Zdu K)
theorem Zer (B:Blt mg) (ER:Ers K mg) (c_labels_of:Zca P w K mg base) (F:Fun K "labels_told" "labels_told" Zbr f fd) (hm:mg "labels_told" = some (.ref f)):Zco P w K mg base :=
 ⟨f,fd,Zfm B ER c_labels_of F,hm,F.kp,F.binds fun _ _ _ _ _ _ us hl=>(by obtain ⟨x0,x1,rfl⟩:=ZdL hl;rfl)⟩
def Zgp (c:Nat):Bool:=decide (97≤c) && decide (c≤122)
def ZbU (x:Str):Bool:=decide (1≤x.length) && (decide (x.length≤8) && x.cps.toList.all Zgp)
theorem sign_a (c:Nat):(!decide ((⟨#[c]⟩:Str).cps.toList<("a" : Str).cps.toList))=decide (97≤c):=by
 show (!decide (([c]:List Nat)<("a" : Str).cps.toList))=_
 have e:("a" : Str).cps.toList=[97]:=by decide +kernel
 rw [e,ZfU]
 by_cases h:c<97
 · rw [Xa1 h,Xa2 (by omega)];rfl
 · rw [Xa2 h,Xa1 (by omega)];rfl
theorem sign_z (c:Nat):(!decide (("z" : Str).cps.toList<(⟨#[c]⟩:Str).cps.toList))=decide (c≤122):=by
 show (!decide (("z" : Str).cps.toList<([c]:List Nat)))=_
 have e:("z" : Str).cps.toList=[122]:=by decide +kernel
 rw [e,ZfU]
 by_cases h:122<c
 · rw [Xa1 h,Xa2 (by omega)];rfl
 · rw [Xa2 h,Xa1 (by omega)];rfl
def ZfG (K:XFg):Sp:=fun vs H Q _=>∃ v,vs=[v] ∧
 ((∃ x,v=.str x∧x.length≤1000∧∀ H',Same H H'→Q (.bl (ZbU x)) H')∨∃ T,TyN K H v T∧T≠.str∧Q (.bl false) H)
theorem Zi7 (B:Blt mg) (ER:Ers K mg)  (F:Fun K "is_name" "is_name" Zci f fd):FnOk P w K mg base CX0 1 f fd ["thing"] (ZfG K):=by
 refine F.ok Zi6 (fun vs H Q E h=>?_) (fun cdv A outer s H vs Q E hr h=>?_)
 · obtain ⟨v,rfl,_⟩:=h
   rfl
 · obtain ⟨v, rfl, h⟩ := h
   refine ⟨_,(Zad (ZaN (PW.pt (Zhp (Zc3 (Zct (Zan Zdg B.b_isinstance (Zaa (pv 0) (Zaa (Zhw "str" rfl B.b_str (by decide +kernel)) Zab))))) (Zfo (Zc3 (ZhU Zjr Zjr Zai (Zan ZaR B.b_len (Zaa (pv 0) Zab)) (ZbJ (v:=.int 8) rfl (Classical.choose_spec B.c_LONGEST_NAME) ⟨_,rfl⟩)))))) (Zah (ZaB Zje)) Zao)
    (Zah (ZaB (Zan (ZgK rfl) B.b_all (Zaa (Zb6 rfl is_name_cs1 (pi_str (pv 0)) (fun _ _ _ _ _=>(Zam (i:=0) is_name_cs1.nd)) (fun _ _ _ _ _=>Zb1) (fun _ _ _ _ _=>(ZfM Zh3 Zh3 Zal (pv 0) Zal))) Zab))))),?_⟩
   rcases h with ⟨x,rfl,hx,q⟩ | ⟨T,ty,hT,q⟩
   · have hz : x.length ≤ sizeLine := XaU (Zak hx)
     refine ⟨_,rfl,_,.str,.str,rfl,.str x,_,rfl,iteF ?_⟩;refine ⟨_,rfl,_,_,rfl,⟨hz,rfl⟩,_,_,rfl,rfl,_,rfl,?_⟩;refine ite2 (fun h1=>?_) (fun h1=>?_)
     · have h1:1≤x.length:=by have:=Xa3 h1;omega
       refine ⟨_,_,rfl,rfl,_,rfl,?_⟩;refine ite2 (fun h2=>?_) (fun h2=>?_)
       · have h2:¬x.length≤8:=fun z=>by
          rw [Xa1 (show ((x.length:Nat):Int)≤8 by omega)] at h2;cases h2
         have e:ZbU x=false:=by unfold ZbU;rw [Xa2 h2];simp
         have:=q H (Same.refl _)
         rw [e] at this;exact this
       · have h2:x.length≤8:=by
          refine Nat.le_of_not_lt fun z=>h2 ?_;rw [Xa2 (show ¬((x.length:Nat):Int)≤8 by omega)];rfl
         have e:ZbU x=(x.cps.toList.map Zgp).all id:=by
          unfold ZbU;rw [Xa1 h1,Xa1 h2,List.all_map];rfl
         refine ⟨_,rfl,_,rfl,Zh7 (f:=fun c=>V.bl (Zgp c)) hz (fun i c H2 D R hc s2 hD k=>?_) (fun H2 D s2 hD e2=>?_)⟩
         · refine ⟨_,rfl,_,_,rfl,rfl,_,rfl,?_⟩
           show if (!decide ((⟨#[c]⟩:Str).cps.toList<("a" : Str).cps.toList))=true then _ else _
           rw [show (!decide ((⟨#[c]⟩:Str).cps.toList<("a" : Str).cps.toList))=decide (97≤c) from sign_a c]
           refine ite2 (fun h3=>?_) (fun h3=>?_)
           · refine ⟨_,_,rfl,rfl,?_⟩
             rw [show (V.bl ((fun a b:Str=>!decide (b.cps.toList<a.cps.toList)) ⟨#[c]⟩ "z"))=V.bl (decide (c≤122)) from Xbf V.bl (sign_z c)]
             have:=k H2 (Same.refl _)
             unfold Zgp at this;rw [h3] at this;exact this
           · have:=k H2 (Same.refl _)
             unfold Zgp at this;rw [Bool.not_eq_true _ |>.mp h3] at this;exact this
         · refine ⟨_,x.cps.toList.map Zgp,rfl,SqL.of (by rw [Xax];exact e2),?_⟩
           rw [←e];exact q H2 s2
     · have h1:¬1≤x.length:=fun z=>h1 (Xa1 (by omega))
       have e:ZbU x=false:=by unfold ZbU;rw [Xa2 h1];rfl
       have:=q H (Same.refl _)
       rw [e] at this;exact ⟨_,rfl,iteT this⟩
   · refine ⟨_,rfl,_,.str,T,rfl,ty,_,rfl,?_⟩
     cases T with
     | str=>exact absurd rfl hT
     | _=>exact iteT (iteT q)
variable (P w K mg base) in
abbrev ZdR:Prop:=Zbb P w K mg base "is_name" 1 ["thing"] (ZfG K)
theorem Zhh (B:Blt mg) (ER:Ers K mg)  (F:Fun K "is_name" "is_name" Zci f fd) (hm:mg "is_name" = some (.ref f)):ZdR P w K mg base :=
 ⟨f,fd,Zi7 B ER  F,hm,F.kp,F.binds fun _ _ _ _ _ _ us hl=>(by obtain ⟨x0,rfl⟩:=ZcW hl;rfl)⟩
def Zbe (K:XFg):Sp:=fun vs H Q E=>∃ (a p:Addr) (ss:List Stt) (ps:List (Str×Str)),vs=[.ref a,.ref p]∧StE K H a ss∧Fits ss∧Prs K H p ps∧ps.length≤60∧(∀ x∈ZaH ss++ZbL ps,x.length≤1000)∧(∀ H',(∀ x∈ZaH ss++ZbL ps,ZbU x=true)→Same H H'→Q .non H')∧∀ H',¬(∀ x∈ZaH ss++ZbL ps,ZbU x=true)→Same H H'→E (.ref (clsA K "NoName")) none H'
theorem ZdS (B:Blt mg) (ER:Ers K mg) (c_labels_told:Zco P w K mg base) (c_is_name:ZdR P w K mg base) (F:Fun K "refuse_no_names" "refuse_no_names" ZaP f fd):FnOk P w K mg base (CXE P w) 3 f fd ["states", "pairs"] (Zbe K):=by
 refine F.okE sc_refuse_no_names (fun vs H Q E h=>?_) (fun cdv A outer s H vs Q E hr h=>?_)
 · obtain ⟨a,p,ss,ps,rfl,_⟩:=h
   rfl
 · obtain ⟨a,p,ss,ps,rfl,hS,hF,hP,hpl,hw,q,qe⟩:=h
   refine ⟨_,(Zah (ZbM PassesOwn.leaving rfl (ZaI (ZaU c_labels_told (Zaa (pv 0) (Zaa (pv 1) Zab)))) (Zam (i:=2) sc_refuse_no_names.nd) (Zah (ZaN (Zc3 (Zct (ZaU c_is_name (Zaa (pv 2) Zab)))) (Zah (Zbd Zau rfl ER.k_NoName rfl (Zaa Zal Zab))) Zao)))),?_⟩;refine ⟨_,rfl,_,rfl,a,p,ss,ps,rfl,hS,hF,hP,hpl,fun l H1 hl s1 el=>?_⟩;refine ⟨l,rfl,⟨_,SqL.of el⟩,Za2 (xs:=(ZaH ss++ZbL ps).map V.str) (fun i σ H'=>∃ u2,σ=[some (.ref a),some (.ref p),u2]∧Same H1 H'∧∀ x∈(ZaH ss++ZbL ps).take i,ZbU x=true) ⟨none,rfl,Same.refl _,fun x hx=>by simp at hx⟩ (fun i σ H' _ ⟨_,_,e,_⟩=>SqL.of (e _ _ el)) ?_ ?_⟩
   · rintro i x σ H2 hx ⟨u2,rfl,s2,hall⟩
     obtain ⟨b,hb,rfl⟩:=Zid hx;have hm:=Xah hb;refine ⟨_,rfl,_,rfl,Or.inl ⟨b,rfl,hw b hm,fun H3 s3=>?_⟩⟩
     cases hn:ZbU b with
     | true =>
       refine ⟨_,rfl,iteF ⟨_,rfl,s2.trans s3,fun x hx=>?_⟩⟩;rw [Xar,hb] at hx
       rcases Xaf.mp hx with hx | hx
       · exact hall x hx
       · rw [Xaj.mp hx];exact hn
     | false=>exact ⟨_,rfl,iteT ⟨Zbc,qe _ (fun z=>by rw [z b hm] at hn;cases hn) ((s1.trans s2).trans s3)⟩⟩
   · rintro σ H2 ⟨u2,rfl,s2,hall⟩
     rw [Xaa,Xas] at hall;exact q H2 hall (s1.trans s2)
theorem Zdp (B:Blt mg) (ER:Ers K mg) (c_labels_told:Zco P w K mg base) (c_is_name:ZdR P w K mg base) (F:Fun K "refuse_no_names" "refuse_no_names" ZaP f fd) (hm:mg "refuse_no_names" = some (.ref f)):Zar P w K mg base "refuse_no_names" 3 ["states", "pairs"] (Zbe K) :=
 ⟨f,fd,ZdS B ER c_labels_told c_is_name F,hm,F.kp,F.binds fun _ _ _ _ _ _ us hl=>(by obtain ⟨x0,x1,rfl⟩:=ZdL hl;rfl)⟩
def wholeT:Ty→Bool
 | .int=>true
 | _=>false
def Ze4 (K:XFg):Sp:=fun vs H Q _=>∃ v T,vs=[v]∧TyN K H v T∧Q (.bl (wholeT T)) H
theorem ZhO (B:Blt mg) (ER:Ers K mg)  (F:Fun K "is_whole" "is_whole" Zb2 f fd):FnOk P w K mg base CX0 1 f fd ["thing"] (Ze4 K):=by
 refine F.ok ZhK (fun vs H Q E h=>?_) (fun cdv A outer s H vs Q E hr h=>?_)
 · obtain ⟨v,T,rfl,_⟩:=h
   rfl
 · obtain ⟨v,T,rfl,ty,q⟩:=h
   refine ⟨_,(Zah (ZaB (Zji (Zan Zdg B.b_isinstance (Zaa (pv 0) (Zaa (Zhw "int" rfl B.b_int (by decide +kernel)) Zab))) (Zjh (pe_not (Zan Zdg B.b_isinstance (Zaa (pv 0) (Zaa (Zhw "bool" rfl B.b_bool (by decide +kernel)) Zab)))))))),?_⟩
   refine ⟨_,rfl,_,.int,T,rfl,ty,_,rfl,?_⟩
   cases T with
   | int=>exact iteT ⟨_,rfl,_,.bool,.int,rfl,ty,_,rfl,q⟩
   | bool=>exact iteT ⟨_,rfl,_,.bool,.bool,rfl,ty,_,rfl,q⟩
   | _=>exact iteF q
variable (P w K mg base) in
abbrev Zdm:Prop:=Zbb P w K mg base "is_whole" 1 ["thing"] (Ze4 K)
theorem Zgq (B:Blt mg) (ER:Ers K mg)  (F:Fun K "is_whole" "is_whole" Zb2 f fd) (hm:mg "is_whole" = some (.ref f)):Zdm P w K mg base :=
 ⟨f,fd,ZhO B ER  F,hm,F.kp,F.binds fun _ _ _ _ _ _ us hl=>(by obtain ⟨x0,rfl⟩:=ZcW hl;rfl)⟩
def Ze5 (_:XFg):Sp:=fun vs H Q _=>∃ (n m:Int),vs=[.int n,.int m]∧Q (.bl (decide (0≤n∧n<m))) H
theorem ZhP (B:Blt mg) (ER:Ers K mg) (c_is_whole:Zdm P w K mg base) (F:Fun K "is_place" "is_place" Zb3 f fd):FnOk P w K mg base CX0 2 f fd ["number", "many"] (Ze5 K):=by
 refine F.ok ZhL (fun vs H Q E h=>?_) (fun cdv A outer s H vs Q E hr h=>?_)
 · obtain ⟨n,m,rfl,_⟩:=h
   rfl
 · obtain ⟨n,m,rfl,q⟩:=h
   refine ⟨_,(Zah (ZaB (Zji (ZaU c_is_whole (Zaa (pv 0) Zab)) (Zjh (ZfM Zjr Zjq Zai (pv 0) (pv 1)))))),?_⟩;refine ⟨_,rfl,_,.int,rfl,.int n,_,rfl,iteT ?_⟩;refine ⟨_,rfl,_,_,rfl,rfl,_,rfl,?_⟩
   by_cases h0:0≤n
   · rw [Xa1 h0]
     refine iteT ⟨_,rfl,_,_,rfl,rfl,?_⟩
     have e:V.bl (decide (0≤n∧n<m))=V.bl (decide (n<m)):=by
      by_cases h1:n<m
      · rw [Xa1 h1,Xa1 ⟨h0,h1⟩]
      · rw [Xa2 h1,Xa2 fun z=>h1 z.2]
     rw [e] at q;exact q
   · rw [Xa2 h0]
     refine iteF ?_;rw [Xa2 fun z=>h0 z.1] at q;exact q
variable (P w K mg base) in
abbrev Zdn:Prop:=Zbb P w K mg base "is_place" 2 ["number", "many"] (Ze5 K)
theorem Zgr (B:Blt mg) (ER:Ers K mg) (c_is_whole:Zdm P w K mg base) (F:Fun K "is_place" "is_place" Zb3 f fd) (hm:mg "is_place" = some (.ref f)):Zdn P w K mg base :=
 ⟨f,fd,ZhP B ER c_is_whole F,hm,F.kp,F.binds fun _ _ _ _ _ _ us hl=>(by obtain ⟨x0,x1,rfl⟩:=ZdL hl;rfl)⟩
def Zck (ss:List Stt) (n:Int):Prop:=ss≠[]∧(0≤n∧n<ss.length)∧∀ s∈ss,∀ g∈s.1,0≤g.2∧g.2<ss.length
def Za1 (K:XFg):Sp:=fun vs H Q E=>∃ (a:Addr) (ss:List Stt) (n:Int),vs=[.ref a,.int n]∧Stts K H a ss∧(Zck ss n→Q .non H)∧(¬Zck ss n→E (.ref (clsA K "NoPlace")) none H)
theorem ZdC (B:Blt mg) (ER:Ers K mg) (c_is_place:Zdn P w K mg base) (F:Fun K "refuse_no_places" "refuse_no_places" ZaK f fd):FnOk P w K mg base (CXE P w) 3 f fd ["states", "inner"] (Za1 K):=by
 refine F.okE sc_refuse_no_places (fun vs H Q E h=>?_) (fun cdv A outer s H vs Q E hr h=>?_)
 · obtain ⟨a,ss,n,rfl,_⟩:=h
   rfl
 · obtain ⟨a,ss,n,rfl,⟨vs,hS,hD⟩,q,qe⟩:=h
   have lvs:=hD.len_map
   refine ⟨_,(Zad (ZaN (Zc3 (Zhy (pv 0))) (Zah (Zbd Zau rfl ER.k_NoPlace rfl (Zaa Zal Zab))) Zao)
    (Zad (ZaN (Zc3 (Zct (ZaU c_is_place (Zaa (pv 1) (Zaa (Zan ZaR B.b_len (Zaa (pv 0) Zab)) Zab))))) (Zah (Zbd Zau rfl ER.k_NoPlace rfl (Zaa Zal Zab))) Zao)
    (Zah (ZbM PassesOwn.leaving rfl (ZaI (pv 0)) (ZcE (n:=2) rfl (ZaA (Zam (i:=2) sc_refuse_no_places.nd) (ZaA (Zam (i:=3) sc_refuse_no_places.nd) ZbK))) (Zah (ZbM PassesOwn.leaving rfl (ZaI (pv 2)) (ZcE (n:=2) rfl (ZaA (Zam (i:=4) sc_refuse_no_places.nd) (ZaA (Zam (i:=5) sc_refuse_no_places.nd) ZbK))) (Zah (ZaN (Zc3 (Zct (ZaU c_is_place (Zaa (pv 5) (Zaa (Zan ZaR B.b_len (Zaa (pv 0) Zab)) Zab))))) (Zah (Zbd Zau rfl ER.k_NoPlace rfl (Zaa Zal Zab))) Zao)))))))),?_⟩
   refine ⟨_,rfl,a,vs,rfl,hS,?_⟩
   by_cases hne:ss=[]
   case pos =>
    have e:vs.isEmpty=true:=by
     cases vs with
     | nil=>rfl
     | cons _ _=>rw [hne] at lvs;simp at lvs
    rw [e];exact iteT ⟨Zbc,qe fun z=>z.1 hne⟩
   have e:vs.isEmpty=false:=by
    cases vs with
    | nil=>exact absurd (List.length_eq_zero_iff.mp lvs.symm) hne
    | cons _ _=>rfl
   rw [e];refine iteF ⟨_,rfl,_,rfl,_,_,rfl,Or.inl ⟨_,hS,rfl⟩,n,_,rfl,?_⟩;rw [lvs]
   by_cases hn:0≤n∧n<ss.length
   case neg =>
    rw [Xa2 hn];exact ⟨_,rfl,iteT ⟨Zbc,qe fun z=>hn z.2.1⟩⟩
   rw [Xa1 hn];refine ⟨_,rfl,iteF ?_⟩;refine ⟨_,rfl,a,rfl,⟨_,hS⟩,Za2 (xs:=vs) (fun i σ H'=>∃ u2 u3 u4 u5,σ=[some (.ref a),some (.int n),u2,u3,u4,u5]∧H'=H∧∀ s∈ss.take i,∀ g∈s.1,0≤g.2∧g.2<ss.length) ⟨none,none,none,none,rfl,rfl,fun s hs=>by simp at hs⟩ (fun i σ H' _ ⟨_,_,_,_,_,e,_⟩=>by rw [e];exact hS) ?_ ?_⟩
   · rintro i x σ H2 hx ⟨u2,u3,u4,u5,rfl,rfl,hall⟩
     obtain ⟨s,t,g,e,hs,rfl,ht,⟨gv,hg,hgd⟩,he⟩:=hD.sts_get hx;have lgv:=hgd.len_map;have hm:=Xah hs;refine ⟨t,_,rfl,ht,rfl,_,_,rfl,_,_,rfl,rfl,?_⟩;refine ⟨_,rfl,g,rfl,⟨_,hg⟩,Za2 (xs:=gv) (fun i σ H'=>∃ u4 u5,σ=[some (.ref a),some (.int n),some (.ref g),some (.ref e),u4,u5]∧H'=H2∧∀ p∈s.1.take i,0≤p.2∧p.2<ss.length) ⟨_,_,rfl,rfl,fun p hp=>by simp at hp⟩ (fun i σ H' _ ⟨_,_,_,e,_⟩=>by rw [e];exact hg) ?_ ?_⟩
     · rintro j y σ H3 hy ⟨u4,u5,rfl,rfl,hal⟩
       obtain ⟨p,t',hp,rfl,ht'⟩:=hgd.goes_get hy;refine ⟨t',_,rfl,ht',rfl,_,_,rfl,_,_,rfl,rfl,?_⟩;refine ⟨_,rfl,_,rfl,_,_,rfl,Or.inl ⟨_,hS,rfl⟩,p.2,_,rfl,?_⟩;rw [lvs]
       by_cases hq:0≤p.2∧p.2<ss.length
       · rw [Xa1 hq]
         refine ⟨_,rfl,iteF ⟨_,_,rfl,rfl,fun p' hp'=>?_⟩⟩;rw [Xar,hp] at hp'
         rcases Xaf.mp hp' with hp' | hp'
         · exact hal p' hp'
         · rw [Xaj.mp hp'];exact hq
       · rw [Xa2 hq]
         exact ⟨_,rfl,iteT ⟨Zbc,qe fun z=>hq (z.2.2 s hm p (Xah hp))⟩⟩
     · rintro σ H3 ⟨u4,u5,rfl,rfl,hal⟩
       rw [lgv,Xas] at hal;refine ⟨_,_,_,_,rfl,rfl,fun s' hs'=>?_⟩;rw [Xar,hs] at hs'
       rcases Xaf.mp hs' with hs' | hs'
       · exact hall s' hs'
       · rw [Xaj.mp hs'];exact hal
   · rintro σ H2 ⟨u2,u3,u4,u5,rfl,rfl,hall⟩
     rw [lvs,Xas] at hall;exact q ⟨hne,hn,hall⟩
theorem Zdb (B:Blt mg) (ER:Ers K mg) (c_is_place:Zdn P w K mg base) (F:Fun K "refuse_no_places" "refuse_no_places" ZaK f fd) (hm:mg "refuse_no_places" = some (.ref f)):Zar P w K mg base "refuse_no_places" 3 ["states", "inner"] (Za1 K) :=
 ⟨f,fd,ZdC B ER c_is_place F,hm,F.kp,F.binds fun _ _ _ _ _ _ us hl=>(by obtain ⟨x0,x1,rfl⟩:=ZdL hl;rfl)⟩
def Zdc (K:XFg):Sp:=fun vs H Q _=>∃ (l:Addr) (ls:List Str),vs=[.ref l]∧SqL K H l (ls.map V.str)∧ls.length≤1000∧∀ H',Same H H'→(ls.Nodup→Q (.bl false) H')∧(¬ls.Nodup→Q (.bl true) H')
theorem Ze6 (B:Blt mg) (ER:Ers K mg)  (F:Fun K "is_one_twice" "is_one_twice" Zbi f fd):FnOk P w K mg base CX0 1 f fd ["labels"] (Zdc K):=by
 refine F.ok ZeS (fun vs H Q E h=>?_) (fun cdv A outer s H vs Q E hr h=>?_)
 · obtain ⟨l,ls,rfl,_⟩:=h
   rfl
 · obtain ⟨l,ls,rfl,hL,hll,q⟩:=h
   refine ⟨_,(Zah (ZaB (ZfL Zjq (Zan ZfZ B.b_len (Zaa (Zcu (Zg1 rfl) B.b_set (Zaa (pv 0) Zab)) Zab)) (Zan ZaR B.b_len (Zaa (pv 0) Zab)) (ZaC _)))),?_⟩;refine ⟨_,rfl,l,ls,rfl,hL,hll,fun s n hn hle hs=>?_⟩;refine ⟨_,n,rfl,Zac,by omega,_,rfl,_,ls.length,rfl,Or.inl ⟨_,(Zaj hs).seq hL,by rw [Xaa]⟩,_,_,rfl,rfl,?_⟩
   have key:∀ o,Q (V.bl (decide ((n:Int)<(ls.length:Int)))) (upd H s o):=fun o=>by
    obtain ⟨q1,q2⟩:=q _ (Zaj (o:=o) hs)
    by_cases nd:ls.Nodup
    · rw [hn.mpr nd,Xa2 (by omega)];exact q1 nd
    · have:n≠ls.length:=fun z=>nd (hn.mp z)
      rw [Xa1 (by omega)];exact q2 nd
   exact key _
variable (P w K mg base) in
abbrev Zce:Prop:=Zbb P w K mg base "is_one_twice" 1 ["labels"] (Zdc K)
theorem Zd6 (B:Blt mg) (ER:Ers K mg)  (F:Fun K "is_one_twice" "is_one_twice" Zbi f fd) (hm:mg "is_one_twice" = some (.ref f)):Zce P w K mg base :=
 ⟨f,fd,Ze6 B ER  F,hm,F.kp,F.binds fun _ _ _ _ _ _ us hl=>(by obtain ⟨x0,rfl⟩:=ZcW hl;rfl)⟩
def ZbG (K:XFg):Sp:=fun vs H Q E=>∃ (a:Addr) (ss:List Stt),vs=[.ref a]∧Stts K H a ss∧Fits ss∧(∀ H',(∀ s∈ss,(s.1.map (·.1)).Nodup∧s.2.Nodup)→Same H H'→Q .non H')∧∀ H',¬(∀ s∈ss,(s.1.map (·.1)).Nodup∧s.2.Nodup)→Same H H'→E (.ref (clsA K "Twice")) none H'
theorem Ze7 (B:Blt mg) (ER:Ers K mg) (c_is_one_twice:Zce P w K mg base) (c_labels_of:Zca P w K mg base) (F:Fun K "refuse_twice" "refuse_twice" Zbj f fd):FnOk P w K mg base (CXE P w) 2 f fd ["states"] (ZbG K):=by
 refine F.okE sc_refuse_twice (fun vs H Q E h=>?_) (fun cdv A outer s H vs Q E hr h=>?_)
 · obtain ⟨a,ss,rfl,_⟩:=h
   rfl
 · obtain ⟨a,ss,rfl,⟨vs,hS,hD⟩,hF,q,qe⟩:=h
   have lvs:=hD.len_map
   refine ⟨_,(Zah (ZbM PassesOwn.leaving rfl (ZaI (pv 0)) (ZcE (n:=2) rfl (ZaA (Zam (i:=1) sc_refuse_twice.nd) (ZaA (Zam (i:=2) sc_refuse_twice.nd) ZbK))) (Zad (ZaN (Zct (ZaU c_is_one_twice (Zaa (ZaU c_labels_of (Zaa (pv 1) Zab)) Zab))) (Zah (Zbd Zau rfl ER.k_Twice rfl (Zaa Zal Zab))) Zao)
    (Zah (ZaN (Zct (ZaU c_is_one_twice (Zaa (pv 2) Zab))) (Zah (Zbd Zau rfl ER.k_Twice rfl (Zaa Zal Zab))) Zao))))),?_⟩
   refine ⟨_,rfl,a,rfl,⟨_,hS⟩,Za2 (xs:=vs) (fun i σ H'=>∃ u1 u2,σ=[some (.ref a),u1,u2]∧Same H H'∧∀ s∈ss.take i,(s.1.map (·.1)).Nodup∧s.2.Nodup) ⟨none,none,rfl,Same.refl _,fun s hs=>by simp at hs⟩ (fun i σ H' _ ⟨_,_,_,e,_⟩=>e.seq hS) ?_ ?_⟩
   · rintro i x σ H2 hx ⟨u1,u2,rfl,s2,hall⟩
     obtain ⟨s,t,g,e,hs,rfl,ht,hg,he⟩:=hD.sts_get hx;have hm:=Xah hs;have b1:=hF.gs s hm;have b2:=hF.es s hm;refine ⟨t,_,rfl,s2.seqT ht,rfl,_,_,rfl,_,_,rfl,rfl,?_⟩;refine ⟨_,rfl,g,s.1,rfl,hg.same s2,by omega,fun l H3 hl s3 el=>?_⟩;refine ⟨l,_,rfl,SqL.of el,by rw [Xaa];omega,fun H4 s4=>⟨fun d1=>⟨_,rfl,iteF ?_⟩,fun d1=>⟨_,rfl,iteT ⟨Zbc,qe _ (fun z=>d1 (z s hm).1) ((s2.trans s3).trans s4)⟩⟩⟩⟩;have s24:=(s2.trans s3).trans s4;refine ⟨_,rfl,e,s.2,rfl,s24.seq he,by omega,fun H5 s5=>⟨fun d2=>⟨_,rfl,iteF ⟨_,_,rfl,s24.trans s5,fun s' hs'=>?_⟩⟩,fun d2=>⟨_,rfl,iteT ⟨Zbc,qe _ (fun z=>d2 (z s hm).2) (s24.trans s5)⟩⟩⟩⟩;rw [Xar,hs] at hs'
     rcases Xaf.mp hs' with hs' | hs'
     · exact hall s' hs'
     · rw [Xaj.mp hs'];exact ⟨d1,d2⟩
   · rintro σ H2 ⟨u1,u2,rfl,s2,hall⟩
     rw [lvs,Xas] at hall;exact q H2 hall s2
theorem Zd7 (B:Blt mg) (ER:Ers K mg) (c_is_one_twice:Zce P w K mg base) (c_labels_of:Zca P w K mg base) (F:Fun K "refuse_twice" "refuse_twice" Zbj f fd) (hm:mg "refuse_twice" = some (.ref f)):Zar P w K mg base "refuse_twice" 2 ["states"] (ZbG K) :=
 ⟨f,fd,Ze7 B ER c_is_one_twice c_labels_of F,hm,F.kp,F.binds fun _ _ _ _ _ _ us hl=>(by obtain ⟨x0,rfl⟩:=ZcW hl;rfl)⟩
def ZcL (K:XFg):Sp:=fun vs H Q _=>∃ p ps,vs=[.ref p]∧Prs K H p ps∧ps.length≤100∧∀ d ks H',H d=none→Same H H'→WBB H' d ps ks→ks.length≤ps.length→Q (.ref d) H'
theorem ZdT (B : Blt mg) (ER : Ers K mg)  (F : Fun K "worse_by_better" "worse_by_better" ZaQ f fd) : FnOk P w K mg base CX0 1 f fd ["pairs"] (ZcL K) := by
 refine F.ok sc_worse_by_better (fun vs H Q E h=>?_) (fun cdv A outer s H vs Q E hr h=>?_)
 · obtain ⟨p,ps,rfl,_⟩:=h
   rfl
 · obtain ⟨p,ps,rfl,⟨vs,hS,hD⟩,hlen,q⟩:=h
   have lvs:vs.length=ps.length:=by have:=hD.length;rw [Xaa] at this;exact this
   refine ⟨_,(Zad (Zax (i:=1) sc_worse_by_better.nd Zh1)
    (Zad (ZbM Xbn rfl (ZaI (pv 0)) (ZcE (n:=2) rfl (ZaA (Zam (i:=2) sc_worse_by_better.nd) (ZaA (Zam (i:=3) sc_worse_by_better.nd) ZbK))) (Zah (Zay (Za9 Xa4 Xa5 Xa6 ZaD (Za9 PySem.F.plainAttrs_dict PySem.F.slot_dict_setdefault PySem.F.type_dict_setdefault ZfV (pv 1) (Zaa (pv 2) (Zaa (Zaz Zab) Zab))) (Zaa (pv 3) Zab)))))
    (Zah (ZaB (pv 1))))),?_⟩
   intro d hd;refine ⟨_,rfl,p,rfl,⟨vs,(Zaj hd).seq hS⟩,Za2 (xs:=vs) (fun i σ H'=>∃ u2 u3 ks,σ=[some (.ref p),some (.ref d),u2,u3]∧Same H H'∧WBB H' d (ps.take i) ks∧(∀ q∈ks,H q.2=none)∧ks.length≤i) ⟨none,none,[],rfl,Zaj hd,WBB.start Zac,fun q hq=>by simp at hq,XaS _⟩ (fun i σ H' _ ⟨_,_,_,_,s2,_⟩=>s2.seq hS) ?_ ?_⟩
   · rintro i x σ H2 hx ⟨u2,u3,ks,rfl,s2,W,hk,hkl⟩
     obtain ⟨pr,t,hp,rfl,ht⟩:=hD.pairs_get hx;have hil:i<ps.length:=(Xae.mp hp).1
     have etk:ps.take (i+1)=ps.take i++[(pr.1,pr.2)]:=by rw [Xar,hp];rfl
     have wl:∀ b,(Za4 (ps.take i) b).length≤100:=fun b=>by
      unfold Za4;rw [Xaa];refine Xbc (List.length_filter_le _ _) ?_;rw [Xaw];omega
     refine ⟨t,_,rfl,s2.seqT ht,rfl,_,_,rfl,_,_,rfl,rfl,?_⟩;refine ⟨_,rfl,Or.inr (Or.inr (Or.inl ⟨rfl,Or.inl ⟨_,W.dict⟩⟩)),_,rfl,by decide,fun a ha=>?_⟩;have nda:d≠a:=Zag W.dict ha;have haH:H a=none:=s2.free ha;refine ⟨d,kvR ks,Sum.inr pr.1,.ref a,rfl,rfl,by rw [Zaf nda];exact W.dict,Zak (by rw [Xaa];omega),fun v hv=>?_,fun hn=>?_⟩
     · rw [ZkO] at hv
       obtain ⟨a0,h0,rfl⟩:=XaR.mp hv;have W1:WBB (upd H2 a (.lst [])) d (ps.take i) ks:=W.same (Zaj ha);have hl:=W1.worse.1 a0 h0;refine ⟨Or.inl ⟨rfl,_,SqL.of hl⟩,_,rfl,a0,_,_,rfl,rfl,hl,Zak (by rw [Xaa];exact Xbc (wl _) (by decide)),?_⟩;refine ⟨_,_,ks,rfl,fun b o e=>?_,by rw [etk];exact W1.known h0,hk,Nat.le_succ_of_le hkl⟩;have n0:b≠a0:=Zag e (hk _ (ZeE h0));rw [Zaf n0,Zaf (Zag e haH)];exact s2 b o e
     · rw [ZkO] at hn
       have h0:ks.lookup pr.1=none:=by
        cases e:ks.lookup pr.1 with
        | none=>rfl
        | some z=>rw [e] at hn;cases hn
       have hl:(upd (upd H2 a (.lst [])) d (.dK (putK (kvR ks) (Sum.inr pr.1) (.ref a)))) a=some (.lst []):=by rw [Zaf nda.symm,Zac]
       refine ⟨Or.inl ⟨rfl,_,SqL.of hl⟩,_,rfl,a,_,_,rfl,rfl,hl,Zak (by decide),?_⟩;refine ⟨_,_,ks++[(pr.1,a)],rfl,fun b o e=>?_,by rw [etk];exact W.more h0 ha,fun z hz=>?_,by rw [Xac];exact Nat.add_le_add_right hkl 1⟩
       · rw [Zaf (Zag e haH),Zaf (Zag e hd),Zaf (Zag e haH)]
         exact s2 b o e
       · rcases Xaf.mp hz with hz | hz
         · exact hk z hz
         · rw [Xaj] at hz;subst hz;exact haH
   · rintro σ H2 ⟨u2,u3,ks,rfl,s2,W,hk,hkl⟩
     rw [lvs,Xas] at W;rw [lvs] at hkl;exact ⟨_,rfl,q d ks H2 hd s2 W hkl⟩
variable (P w K mg base) in
abbrev ZaX:Prop:=Zbb P w K mg base "worse_by_better" 1 ["pairs"] (ZcL K)
theorem Zdq (B:Blt mg) (ER:Ers K mg)  (F:Fun K "worse_by_better" "worse_by_better" ZaQ f fd) (hm:mg "worse_by_better" = some (.ref f)):ZaX P w K mg base :=
 ⟨f,fd,ZdT B ER  F,hm,F.kp,F.binds fun _ _ _ _ _ _ us hl=>(by obtain ⟨x0,rfl⟩:=ZcW hl;rfl)⟩
def ZfH (_:XFg):Sp:=fun vs H Q _=>∃ d ks ps st,vs=[.ref d,.str st]∧WBB H d ps ks∧ps.length≤100∧∀ c cf H',H c=none→Same H H'→H' c=some (.dK (kvS cf))→Tree ps st cf→Full ps st cf→Q (.ref c) H'
theorem Zi8 (B : Blt mg) (ER : Ers K mg)  (F : Fun K "reached" "reached" Zcs f fd) : FnOk P w K mg base CX0 1 f fd ["worse_labels", "start"] (ZfH K) := by
 refine F.ok sc_reached (fun vs H Q E h=>?_) (fun cdv A outer s H vs Q E hr h=>?_)
 · obtain ⟨d,ks,ps,st,rfl,_⟩:=h
   rfl
 · obtain ⟨d,ks,ps,st,rfl,W,hlen,q⟩:=h
   refine ⟨_,(Zad (Zax (i:=2) sc_reached.nd Zh1)
    (Zad (Zax (i:=3) sc_reached.nd (Zaz (Zaa (pv 1) Zab)))
    (Zad (ZhT Xbn (Zhy (pv 3)) (Zad (Zax (i:=4) sc_reached.nd (Zaz Zab))
     (Zad (ZbM Xbn rfl (ZaI (pv 3)) (Zam (i:=5) sc_reached.nd) (Zah (ZbM Xbn rfl (ZaI (Za9 PySem.F.plainAttrs_dict PySem.F.slot_dict_get PySem.F.type_dict_get (mt_get (ZiO hr)) (pv 0) (Zaa (pv 5) (Zaa (Zaz Zab) Zab)))) (Zam (i:=6) sc_reached.nd) (Zah (ZaN (Zas (Zee (ZiO hr)) (pv 6) (pv 2) (by with_unfolding_all rfl)) (Zad (Zgy (pv 5) (Zjj (pv 2) (pv 6) (ZkM (ZiO hr))))
           (Zah (Zay (Za9 Xa4 Xa5 Xa6 ZaD (pv 4) (Zaa (pv 6) Zab))))) Zao)))))
     (Zah (Zax (i:=3) sc_reached.nd (pv 4))))))
    (Zah (ZaB (pv 2)))))),?_⟩
   intro c hc;refine ⟨_,rfl,Zbc,fun l hl=>?_⟩;have hlH:H l=none:=(Zaj hc).free hl;have ncl:c≠l:=Zag Zac hl;refine ⟨fun m σ H'=>∃ u4 u5 u6 cf ly la,σ=[some (.ref d),some (.str st),some (.ref c),some (.ref la),u4,u5,u6]∧Same H H'∧H la=none∧H' c=some (.dK (kvS cf))∧H' la=some (.lst (ly.map V.str))∧Lay ps st cf ly []∧m=2 * (ps.length - cf.length)+(if ly.length=0 then 0 else 1),⟨_,none,none,none,[],[st],l,rfl,(Zaj hc).trans (Zaj hl),hlH,?_,Zac,Lay.start,rfl⟩,?_⟩
   · rw [Zaf ncl,Zac];rfl
   rintro m σ H1 ⟨u4,u5,u6,cf,ly,la,rfl,s1,hlaH,ec,ela,L,em⟩;refine ⟨_,rfl,la,_,rfl,SqL.of ela,?_⟩
   cases ly with
   | nil=>exact iteF ⟨_,rfl,q c cf H1 hc s1 ec L.tree L.done⟩
   | cons b0 ly0 =>
     refine iteT ?_;generalize hly:b0 :: ly0=ly at *
     have hlp:0<ly.length:=by rw [←hly];exact Nat.succ_pos _
     refine ⟨fun σ' H'=>∃ u5 u6 cf' fu fa,σ'=[some (.ref d),some (.str st),some (.ref c),some (.ref fa),some (.ref fa),u5,u6]∧Same H H'∧H fa=none∧H' c=some (.dK (kvS cf'))∧H' fa=some (.lst (fu.map V.str))∧Lay ps st cf' fu []∧cf'.length=cf.length+fu.length,?_,?_⟩
     · rintro σ' H' ⟨u5,u6,cf',fu,fa,rfl,s2,hfa,ec2,efa,L2,el⟩
       refine ⟨_,?_,_,u5,u6,cf',fu,fa,rfl,s2,hfa,ec2,efa,L2,rfl⟩;have h1:=L2.tree.length;rw [em,Xa9 (show ¬ly.length=0 by omega)]
       by_cases hf0:fu.length=0
       · rw [Xba hf0];omega
       · rw [Xa9 hf0];omega
     refine ⟨by decide,fun fa hfa=>?_⟩;have hfaH:H fa=none:=s1.free hfa;have ncf:c≠fa:=Zag ec hfa;have nlf:la≠fa:=Zag ela hfa;have ncla:c≠la:=ZfI ec ela (by intro z;cases z)
     refine ⟨_,rfl,la,rfl,⟨_,SqL.of (by rw [Zaf nlf];exact ela)⟩,Za2 (xs:=ly.map V.str) (fun i σ H'=>∃ u5 u6 cf' fu,σ=[some (.ref d),some (.str st),some (.ref c),some (.ref la),some (.ref fa),u5,u6]∧Same H H'∧H' la=some (.lst (ly.map V.str))∧H' c=some (.dK (kvS cf'))∧H' fa=some (.lst (fu.map V.str))∧Lay ps st cf' (ly.drop i) fu∧cf'.length=cf.length+fu.length)
      ⟨_,_,cf,[],rfl,s1.trans (Zaj hfa),by rw [Zaf nlf];exact ela,by rw [Zaf ncf];exact ec,Zac,L,rfl⟩ (fun i σ H' _ ⟨_,_,_,_,_,_,e,_⟩=>SqL.of e) ?_ ?_⟩
     · rintro i x σ H2 hx ⟨u5,u6,cf',fu,rfl,s2,ela2,ec2,efa2,L2,el⟩
       obtain ⟨b,hb,rfl⟩:∃ b,ly[i]?=some b∧x=V.str b:=by
        rw [Xag] at hx;obtain ⟨b,h1,h2⟩:=XaR.mp hx;exact ⟨b,h1,h2.symm⟩
       have hil:i<ly.length:=(Xae.mp hb).1
       have edr:ly.drop i=b :: ly.drop (i+1):=by
        rw [List.drop_eq_getElem_cons hil];rw [Xab hil] at hb;rw [Xa8 hb]
       rw [edr] at L2;have W2:=W.same s2;refine ⟨_,rfl,Or.inr (Or.inr (Or.inl ⟨rfl,Or.inl ⟨_,W2.dict⟩⟩)),_,rfl,by decide,fun na hna=>?_⟩;have hnaH:H na=none:=s2.free hna;have s3:=s2.trans (Zaj (o:=.lst []) hna);have nac:c≠na:=Zag ec2 hna;have naf:fa≠na:=Zag efa2 hna;have nal:la≠na:=Zag ela2 hna;have W3:=W.same s3
       obtain ⟨wa,hwa,ewa,nwc,nwf,nwl⟩:∃ wa,((ks.lookup b).map V.ref).getD (.ref na)=.ref wa∧(upd H2 na (.lst [])) wa=some (.lst ((Za4 ps b).map V.str))∧wa≠c∧wa≠fa∧wa≠la:=by
        cases e:ks.lookup b with
        | none=>exact ⟨na,rfl,by rw [Zac,W.worse.2 e];rfl,nac.symm,naf.symm,nal.symm⟩
        | some a0 =>
          have h0:=W.worse.1 a0 e;exact ⟨a0,rfl,s3 _ _ h0,Zag h0 hc,Zag h0 hfaH,Zag h0 hlaH⟩
       refine ⟨d,_,_,((ks.lookup b).map V.ref),rfl,rfl,by rw [←ZkO];exact DGet.k (k:=Sum.inr b) W3.dict,?_⟩;rw [hwa]
       refine ⟨wa,rfl,⟨_,SqL.of ewa⟩,Za2 (xs:=(Za4 ps b).map V.str) (fun j σ H'=>∃ u6 cf' fu,σ=[some (.ref d),some (.str st),some (.ref c),some (.ref la),some (.ref fa),some (.str b),u6]∧Same H H'∧H' wa=some (.lst ((Za4 ps b).map V.str))∧H' la=some (.lst (ly.map V.str))∧H' c=some (.dK (kvS cf'))∧H' fa=some (.lst (fu.map V.str))∧LayB ps st b ((Za4 ps b).take j) cf' (ly.drop (i+1)) fu∧cf'.length=cf.length+fu.length)
        ⟨_,cf',fu,rfl,s3,ewa,by rw [Zaf nal];exact ela2,by rw [Zaf nac];exact ec2,by rw [Zaf naf];exact efa2,L2.into,el⟩ (fun j σ H' _ ⟨_,_,_,_,_,e,_⟩=>SqL.of e) ?_ ?_⟩
       · rintro j y σ H4 hy ⟨u6,cf2,fu2,rfl,s4,ewa4,ela4,ec4,efa4,L4,el4⟩
         obtain ⟨w,hw,rfl⟩:∃ w,(Za4 ps b)[j]?=some w∧y=V.str w:=by
          rw [Xag] at hy;obtain ⟨w,h1,h2⟩:=XaR.mp hy;exact ⟨w,h1,h2.symm⟩
         have etk:(Za4 ps b).take (j+1)=(Za4 ps b).take j++[w]:=by rw [Xar,hw];rfl
         have hmem:(b,w)∈ps:=mem_worseOf.mp (Xah hw);refine ⟨_,rfl,_,rfl,c,_,rfl,DGet.k (k:=Sum.inr w) ec4,_,rfl,?_⟩;rw [ZjR]
         cases e:cf2.lookup w with
         | some z =>
           refine iteF ?_;have hk:w∈cf2.map (·.1):=Xai.mpr ⟨_,Zev e,rfl⟩;exact ⟨_,cf2,fu2,rfl,s4,ewa4,ela4,ec4,efa4,by rw [etk];exact L4.known hk,el4⟩
         | none =>
           refine iteT ?_;have hk:w ∉ cf2.map (·.1):=Zdi e
           have hv:valV (kvS cf2) (Sum.inr w)=none:=by rw [ZjR,e];rfl
           have L5:=L4.more hk hmem;have hcl:=L4.tree.length
           have hfl:fu2.length≤100:=by omega
           have ncf':c≠fa:=ZfI ec4 efa4 (by intro z;cases z);refine ⟨_,rfl,_,rfl,_,rfl,c,_,rfl,DPut.k (k:=Sum.inr w) ec4 (Zak (by rw [Xaa];omega)),?_⟩
           have efa5:(upd H4 c (.dK (putK (kvS cf2) (Sum.inr w) (.str b)))) fa=some (.lst (fu2.map V.str)):=by rw [Zaf ncf'.symm];exact efa4
           refine ⟨_,rfl,Or.inl ⟨rfl,_,SqL.of efa5⟩,_,rfl,fa,_,_,rfl,rfl,efa5,Zak (by rw [Xaa];omega),?_⟩;refine ⟨_,cf2++[(w,b)],fu2++[w],rfl,fun z o ez=>?_,?_,?_,?_,?_,by rw [etk];exact L5,by rw [Xac,Xac,el4];simp;omega⟩
           · rw [Zaf (Zag ez hfaH),Zaf (Zag ez hc)]
             exact s4 z o ez
           · rw [Zaf nwf,Zaf nwc];exact ewa4
           · rw [Zaf nlf,Zaf ncla.symm];exact ela4
           · rw [Zaf ncf',Zac,Zh0 _ hv]
             simp [kvS]
           · rw [Zac,Xad];rfl
       · rintro σ H4 ⟨u6,cf2,fu2,rfl,s4,ewa4,ela4,ec4,efa4,L4,el4⟩
         rw [Xaa,Xas] at L4;exact ⟨_,_,cf2,fu2,rfl,s4,ela4,ec4,efa4,L4.out,el4⟩
     · rintro σ H2 ⟨u5,u6,cf',fu,rfl,s2,ela2,ec2,efa2,L2,el⟩
       rw [Xaa,List.drop_length] at L2;exact ⟨_,rfl,_,_,cf',fu,fa,rfl,s2,hfaH,ec2,efa2,L2.next,el⟩
variable (P w K mg base) in
abbrev ZcR:Prop:=Zbb P w K mg base "reached" 1 ["worse_labels", "start"] (ZfH K)
theorem Zhi (B:Blt mg) (ER:Ers K mg)  (F:Fun K "reached" "reached" Zcs f fd) (hm:mg "reached" = some (.ref f)):ZcR P w K mg base :=
 ⟨f,fd,Zi8 B ER  F,hm,F.kp,F.binds fun _ _ _ _ _ _ us hl=>(by obtain ⟨x0,x1,rfl⟩:=ZdL hl;rfl)⟩
def ltP (p q:Str×Str):Prop:=ltS p.1 q.1∨(p.1=q.1∧ltS p.2 q.2)
structure OrdOf (ps ord:List (Str×Str)):Prop where
 mem:∀ a b,(a,b)∈ord↔Path ps a b
 srt:ord.Pairwise ltP
structure OrdUp (ps:List (Str×Str)) (kk:List Str) (ord:List (Str×Str)):Prop where
 mem:∀ a b,(a,b)∈ord↔a∈kk∧Path ps a b
 srt:ord.Pairwise ltP
theorem OrdUp.more {ps:List (Str×Str)} {kk ss:List Str} {b:Str} {ord:List (Str×Str)} (O:OrdUp ps kk ord) (hk:(kk++[b]).Pairwise ltS) (hs:ss.Pairwise ltS) (hm:∀ w,w∈ss↔Path ps b w):OrdUp ps (kk++[b]) (ord++ss.map fun w=>(b,w)):=by
 refine ⟨fun x y=>?_,?_⟩
 · rw [Xaf,O.mem,Xaf,Xaj,Xai]
   constructor
   · rintro (⟨h1,h2⟩ | ⟨w,hw,e⟩)
     · exact ⟨.inl h1,h2⟩
     · cases e
       exact ⟨.inr rfl,(hm _).mp hw⟩
   · rintro ⟨h1 | h1,h2⟩
     · exact .inl ⟨h1,h2⟩
     · subst h1
       exact .inr ⟨y,(hm y).mpr h2,rfl⟩
 · rw [List.pairwise_append] at hk ⊢
   refine ⟨O.srt,?_,fun x hx y hy=>?_⟩
   · rw [List.pairwise_map]
     exact hs.imp fun {x y} h=>.inr ⟨rfl,h⟩
   · obtain ⟨w,_,rfl⟩:=Xai.mp hy
     obtain ⟨x1,x2⟩:=x;exact .inl (hk.2.2 x1 ((O.mem x1 x2).mp hx).1 b (by simp))
theorem ZiD {l m:List Str} (h:l.Perm m) {x:Str}:x∈l↔x∈m:=h.mem_iff
def ZcB (K:XFg):Sp:=fun vs H Q _=>∃ (p:Addr) (ps:List (Str×Str)),vs=[.ref p]∧Prs K H p ps∧ps.length≤60∧∀ (ts:List Addr) (ord:List (Str×Str)) (D:Addr) (H':Hp),OrdOf ps ord→ord.length≤4000→H D=none→Same H H'→H' D=some (.lst (ts.map V.ref))→Tups H' ts ord→Q (.ref D) H'
theorem ZdD (B : Blt mg) (ER : Ers K mg) (c_worse_by_better : ZaX P w K mg base) (c_reached : ZcR P w K mg base) (F : Fun K "all_that_follows" "all_that_follows" ZaL f fd) : FnOk P w K mg base CX0 2 f fd ["pairs"] (ZcB K) := by
 refine F.ok sc_all_that_follows (fun vs H Q E h=>?_) (fun cdv A outer s H vs Q E hr h=>?_)
 · obtain ⟨p,ps,rfl,_⟩:=h
   rfl
 · obtain ⟨p,ps,rfl,hP,hlen,q⟩:=h
   refine ⟨_,(Zad (Zax (i:=1) sc_all_that_follows.nd (ZaU c_worse_by_better (Zaa (pv 0) Zab)))
    (Zad (Zax (i:=2) sc_all_that_follows.nd (Zaz Zab))
    (Zad (ZbM Xbn rfl (ZaI (Zan (Zfu rfl) B.b_sorted (Zaa (pv 1) Zab))) (Zam (i:=3) sc_all_that_follows.nd) (Zah (ZbM Xbn rfl (ZaI (Zan (Zfu rfl) B.b_sorted (Zaa (ZaU c_reached (Zaa (pv 1) (Zaa (pv 3) Zab))) Zab))) (Zam (i:=4) sc_all_that_follows.nd) (Zah (Zay (Za9 Xa4 Xa5 Xa6 ZaD (pv 2) (Zaa (ZcO (Zaa (pv 3) (Zaa (pv 4) Zab))) Zab)))))))
    (Zah (ZaB (pv 2)))))),?_⟩
   refine ⟨_,rfl,p,ps,rfl,hP,by omega,fun d ks H1 hd s1 W hkl=>?_⟩;refine ⟨by decide,fun D hD=>?_⟩;have hDH:H D=none:=s1.free hD;have s2:=s1.trans (Zaj (o:=.lst []) hD);have W2:=W.same (Zaj (o:=.lst []) hD);have eD2:(upd H1 D (.lst [])) D=some (.lst []):=Zac;generalize upd H1 D (.lst [])=H2 at s2 W2 eD2 ⊢
   have hkeys:(kvR ks).map (·.1)=(ks.map (·.1)).map Sum.inr:=by rw [Xax,Xax];rfl
   refine ⟨_,rfl,d,_,ks.map (·.1),rfl,W2.dict,hkeys,by rw [Xaa];omega,fun S kk hkp hks hS=>?_⟩;have ndk:kk.Nodup:=hkp.nodup_iff.mpr W2.nd;have pwk:kk.Pairwise ltS:=ZgU hks ndk
   have lkk:kk.length≤60:=by rw [hkp.length_eq,Xaa];omega
   have s3:=Zaj (o:=.lst (kk.map V.str)) hS;have eS:(upd H2 S (.lst (kk.map V.str))) S=some (.lst (kk.map V.str)):=Zac;have hSH:H S=none:=s2.free hS
   have nSD:S≠D:=fun z=>by rw [z,eD2] at hS;cases hS
   have eD3:(upd H2 S (.lst (kk.map V.str))) D=some (.lst []):=s3 _ _ eD2;have W3:=W2.same s3;have s03:=s2.trans s3;generalize upd H2 S (.lst (kk.map V.str))=H3 at s3 eS eD3 W3 s03 ⊢;have hdD:d≠D:=ZfI W3.dict eD3 (by intro z;cases z)
   refine ⟨S,rfl,⟨_,SqL.of eS⟩,Za2 (xs:=kk.map V.str) (fun i σ H'=>∃ u3 u4 ts ord,σ=[some (.ref p),some (.ref d),some (.ref D),u3,u4]∧Same H H'∧H' S=some (.lst (kk.map V.str))∧WBB H' d ps ks∧H' D=some (.lst (ts.map V.ref))∧Tups H' ts ord∧OrdUp ps (kk.take i) ord∧ord.length≤60 * i)
    ⟨none,none,[],[],rfl,s03,eS,W3,eD3,Tups.nil,⟨fun a b=>by simp,List.Pairwise.nil⟩,XaS _⟩ (fun i σ H' _ ⟨_,_,_,_,_,_,e,_⟩=>SqL.of e) ?_ ?_⟩
   · rintro i x σ H4 hx ⟨u3,u4,ts,ord,rfl,s4,eS4,W4,eD4,T4,O4,ol⟩
     obtain ⟨b,hb,rfl⟩:=Zid hx;have hil:i<kk.length:=(Xae.mp hb).1
     have etk:kk.take (i+1)=kk.take i++[b]:=by rw [Xar,hb];rfl
     refine ⟨_,rfl,_,rfl,d,ks,ps,b,rfl,W4,by omega,fun c cf H5 hc s5 ec Tr Fu=>?_⟩;have hcf:cf.length≤60:=Xbc Tr.length hlen
     have hck:(kvS cf).map (·.1)=(cf.map (·.1)).map Sum.inr:=by rw [Xax,Xax];rfl
     refine ⟨c,_,cf.map (·.1),rfl,ec,hck,by rw [Xaa];omega,fun S2 ss hsp hss hS2=>?_⟩;have nds:ss.Nodup:=hsp.nodup_iff.mpr Tr.nd;have pws:ss.Pairwise ltS:=ZgU hss nds
     have lss:ss.length≤60:=by rw [hsp.length_eq,Xaa];exact hcf
     have hms:∀ w,w∈ss↔Path ps b w:=fun w=>(ZiD hsp).trans (Tr.iff Fu);have s6:=s5.trans (Zaj (o:=.lst (ss.map V.str)) hS2);have eS2:(upd H5 S2 (.lst (ss.map V.str))) S2=some (.lst (ss.map V.str)):=Zac
     have nS2D:S2≠D:=fun z=>by rw [z,s5 _ _ eD4] at hS2;cases hS2
     generalize upd H5 S2 (.lst (ss.map V.str))=H6 at s6 eS2 ⊢
     refine ⟨S2,rfl,⟨_,SqL.of eS2⟩,Za2 (xs:=ss.map V.str) (fun j σ H'=>∃ u4 ts,σ=[some (.ref p),some (.ref d),some (.ref D),some (.str b),u4]∧Same H H'∧H' S=some (.lst (kk.map V.str))∧H' S2=some (.lst (ss.map V.str))∧WBB H' d ps ks∧H' D=some (.lst (ts.map V.ref))∧Tups H' ts (ord++(ss.take j).map fun w=>(b,w)))
      ⟨_,ts,rfl,s4.trans s6,s6 _ _ eS4,eS2,W4.same s6,s6 _ _ eD4,by rw [Xaz,XaM,XaH];exact T4.same s6⟩ (fun j σ H' _ ⟨_,_,_,_,_,e,_⟩=>SqL.of e) ?_ ?_⟩
     · rintro j y σ H7 hy ⟨u4,ts7,rfl,s7,eS7,eS27,W7,eD7,T7⟩
       obtain ⟨w,hw,rfl⟩:=Zid hy;have hjl:j<ss.length:=(Xae.mp hw).1;refine ⟨_,rfl,Or.inl ⟨rfl,_,SqL.of eD7⟩,_,rfl,_,rfl,Zbv,fun t ht=>?_⟩;have s8:=Zaj (o:=.tup [.str b,.str w]) ht
       have T8:Tups (upd H7 t (.tup [.str b,.str w])) (ts7++[t]) (ord++(ss.take (j+1)).map fun w=>(b,w)):=by
        rw [Xar,hw,Xad,←XaE];exact (T7.same s8).snoc (p:=(b,w)) Zac
       have eD8:=s8 _ _ eD7;have nD:=T8.ne eD8;have W8:=W7.same s8;refine ⟨D,_,_,rfl,rfl,eD8,by rw [Xaa,T7.len,Xac,Xaa,Xaw];exact Xbb (show _<5000 by omega) (by decide),?_⟩;refine ⟨_,ts7++[t],rfl,fun z o e=>?_,?_,?_,?_,by rw [Zac,Xad];rfl,T8.upd nD⟩
       · rw [Zaf (Zag e hDH)];exact s8 _ _ (s7 z o e)
       · rw [Zaf nSD];exact s8 _ _ eS7
       · rw [Zaf nS2D];exact s8 _ _ eS27
       · refine ⟨by rw [Zaf hdD];exact W8.dict,W8.nd,fun r hr=>?_,W8.all,W8.adr⟩
         have nr:r.2≠D:=fun z=>Zag (W.lst r hr) hD z;rw [Zaf nr];exact W8.lst r hr
     · rintro σ H7 ⟨u4,ts7,rfl,s7,eS7,eS27,W7,eD7,T7⟩
       rw [Xaa,Xas] at T7;refine ⟨_,_,ts7,_,rfl,s7,eS7,W7,eD7,T7,?_,by rw [Xac,Xaa];omega⟩;rw [etk];refine O4.more ?_ pws hms;rw [←etk];exact pwk.sublist (List.take_sublist _ _)
   · rintro σ H4 ⟨u3,u4,ts,ord,rfl,s4,eS4,W4,eD4,T4,O4,ol⟩
     rw [Xaa,Xas] at O4;rw [Xaa] at ol;refine ⟨_,rfl,q ts ord D H4 ⟨fun a b=>?_,O4.srt⟩ (by omega) hDH s4 eD4 T4⟩;rw [O4.mem];refine ⟨fun h=>h.2,fun h=>⟨?_,h⟩⟩;obtain ⟨pr,hpr,e⟩:=Xai.mp h.fst
     have:=W4.all pr hpr
     rw [e] at this;exact (ZiD hkp).mpr this
variable (P w K mg base) in
abbrev Zbx:Prop:=Zbb P w K mg base "all_that_follows" 2 ["pairs"] (ZcB K)
theorem Zdd (B:Blt mg) (ER:Ers K mg) (c_worse_by_better:ZaX P w K mg base) (c_reached:ZcR P w K mg base) (F:Fun K "all_that_follows" "all_that_follows" ZaL f fd) (hm:mg "all_that_follows" = some (.ref f)):Zbx P w K mg base :=
 ⟨f,fd,ZdD B ER c_worse_by_better c_reached F,hm,F.kp,F.binds fun _ _ _ _ _ _ us hl=>(by obtain ⟨x0,rfl⟩:=ZcW hl;rfl)⟩
def Zcp (K:XFg):Nat→Sp
 | 0=>fun _ _ _ _=>False
 | n+1=>fun vs H Q _=>(∃ x,vs=[.str x]∧Q (.str x) H)∨(n≠0∧∃ (l:Addr) (xs:List Str),vs=[.ref l]∧SqL K H l (xs.map V.str)∧xs.length≤100∧∀ D H',H D=none→Same H H'→H' D=some (.lst (xs.map V.str))→Q (.ref D) H')
abbrev Zhj (K:XFg):Sp:=Zcp K 2
theorem Zhk (B:Blt mg) (ER:Ers K mg)  (n:Nat) (c_own_lists:Zbb P w K mg base "own_lists" (0+n) ["thing"] (Zcp K n)) (F:Fun K "own_lists" "own_lists" Zbk f fd):FnOk P w K mg base CX0 (0+n+1) f fd ["thing"] (Zcp K (n+1)):=by
 refine F.ok Zg9 (fun vs H Q E h=>?_) (fun cdv A outer s H vs Q E hr h=>?_)
 · rcases h with ⟨x,rfl,_⟩ | ⟨_,l,xs,rfl,_⟩ <;> rfl
 · skip
   refine ⟨_,(Zad (ZaN (Zct (Zan Zdg B.b_isinstance (Zaa (pv 0) (Zaa (Zhw "list" rfl B.b_list (by decide +kernel)) Zab)))) (Zah (ZaB (Zb6 rfl own_lists_cs1 (ZaI (pv 0)) (fun _ _ _ _ _=>(Zam (i:=0) own_lists_cs1.nd)) (fun _ _ _ _ _=>Zb1) (fun _ _ _ _ _=>(ZaU c_own_lists (Zaa (pv 0) Zab) (hr.mono (by omega))))))) Zao)
    (Zad (ZaN (Zct (Zan Zdg B.b_isinstance (Zaa (pv 0) (Zaa (Zhw "tuple" rfl B.b_tuple (by decide +kernel)) Zab)))) (Zah (ZaB (Zcu ZfQ B.b_tuple (Zaa (Zb6 rfl own_lists_cs2 (ZaI (pv 0)) (fun _ _ _ _ _=>(Zam (i:=0) own_lists_cs2.nd)) (fun _ _ _ _ _=>Zb1) (fun _ _ _ _ _=>(ZaU c_own_lists (Zaa (pv 0) Zab) (hr.mono (by omega))))) Zab)))) Zao)
    (Zah (ZaB (pv 0))))),?_⟩
   rcases h with ⟨x,rfl,q⟩ | ⟨hn,l,xs,rfl,hL,hll,q⟩
   · refine ⟨_,rfl,_,.lst,.str,rfl,.str x,_,rfl,iteF ?_⟩
     refine ⟨_,rfl,_,.tup,.str,rfl,.str x,_,rfl,iteF ?_⟩;exact ⟨_,rfl,q⟩
   · cases n with
     | zero=>exact absurd rfl hn
     | succ m =>
       refine ⟨_,rfl,_,.lst,.lst,rfl,.lst hL,_,rfl,iteT ?_⟩;refine ⟨_,rfl,l,rfl,⟨_,hL⟩,ZjL (xs:=xs.map V.str) (fun v=>v) (by rw [Xaa];exact Xbc hll (by decide)) hL (fun j y H3 D3 R3 hy s3 hD3 k3=>?_) (fun H3 D3 s3 hD3 e3=>?_)⟩
       · obtain ⟨y,hy',rfl⟩:=Zid hy
         exact ⟨_,rfl,Or.inl ⟨y,rfl,k3 _ (Same.refl _)⟩⟩
       · rw [List.map_id'] at e3
         exact q D3 H3 hD3 s3 e3
theorem Ze8 (B:Blt mg) (ER:Ers K mg)  (F:Fun K "own_lists" "own_lists" Zbk f fd) (hm:mg "own_lists" = some (.ref f)) (n:Nat):Zbb P w K mg base "own_lists" (0+n) ["thing"] (Zcp K n):=by
 have bi:Binds K fd ["thing"] []:=F.binds fun _ _ _ _ _ _ us hl=>(by obtain ⟨x0,rfl⟩:=ZcW hl;rfl)
 induction n with
 | zero=>exact ⟨f,fd,⟨fun vs H Q E h=>(by exact False.elim h),fun A outer s H args us vs Q E _ _ _ _ h=>(by exact False.elim h)⟩,hm,F.kp,bi⟩
 | succ n ih=>exact ⟨f,fd,Zhk B ER  n ih F,hm,F.kp,bi⟩
variable (P w K mg base) in
abbrev ZcZ:Prop:=Zbb P w K mg base "own_lists" 2 ["thing"] (Zhj K)
theorem Zfn (B:Blt mg) (ER:Ers K mg)  (F:Fun K "own_lists" "own_lists" Zbk f fd) (hm:mg "own_lists" = some (.ref f)):ZcZ P w K mg base :=
 Ze8 B ER  F hm 2
def ZbH (K:XFg):Sp:=fun vs H Q _=>∃ (e r:Addr) (ring:List Str),vs=[.ref e,.ref r]∧H e=some (ExcN e (clsA K "Ring") none)∧SqL K H r (ring.map V.str)∧ring.length≤100∧(∀ y∈ring,ZgY y) ∧
 ∀ (dx D:Addr) (H':Hp),D≠e→dx≠e→Keep1 e H H'→H' D=some (.lst (ring.map V.str))→H' dx=some (.xd [("ring",.ref D)])→H' e=some (ExcN e (clsA K "Ring") (some dx))→Q .non H'
theorem Ze9 (B:Blt mg) (ER:Ers K mg) (c_own_lists:ZcZ P w K mg base) (F:Fun K "__init__" "Ring.__init__" Zbl f fd):FnOk P w K mg base CX0 3 f fd ["self", "ring"] (ZbH K):=by
 refine F.ok ZeT (fun vs H Q E h=>?_) (fun cdv A outer s H vs Q E hr h=>?_)
 · obtain ⟨e,r,ring,rfl,_⟩:=h
   rfl
 · obtain ⟨e,r,ring,rfl,he,hR,hl,hsm,q⟩:=h
   obtain ⟨fI,hx⟩:=ER.xi_Ring
   refine ⟨_,(Zad (Zay (pe_sup ER.e_PathError ER.ci_PathError rfl (Zaa (pv 0) (Zaa (pe_fstr hr (pv 1)) Zab))))
    (Zah (ps_xfld (pv 0) (ZaU c_own_lists (Zaa (pv 1) Zab))))),?_⟩
   refine ⟨_,rfl,_,rfl,r,ring,rfl,hR,hl,hsm,fun y=>?_⟩
   refine ⟨e,clsA K "Ring",fI,none,[.str y],rfl,he,hx,Zbc,?_⟩
   refine ⟨_,rfl,Or.inr ⟨by decide,r,ring,rfl,hR,hl,fun D H1 hD s1 eD=>?_⟩⟩
   refine ⟨_,rfl,e,clsA K "Ring",fI,rfl,s1 _ _ he,hx,ER.sa_Ring,ER.na_Ring_ring,fun dx hdx hde=>?_⟩
   have hDe:D≠e:=fun z=>by rw [z,he] at hD;cases hD
   have hDx:D≠dx:=Zag eD hdx;refine q dx D _ hDe hde (fun b o hb hbe=>?_) ?_ ?_ Zac
   · rw [Zaf hbe,Zaf (Zag (s1 _ _ hb) hdx)];exact s1 _ _ hb
   · rw [Zaf hDe,Zaf hDx];exact eD
   · rw [Zaf hde,Zac]
theorem Zd8 (B:Blt mg) (ER:Ers K mg) (c_own_lists:ZcZ P w K mg base) (F:Fun K "__init__" "Ring.__init__" Zbl f fd) (hx:PySem.W.xIn K (clsA K "Ring") f=true) (hf:PySem.W.isFn K (.ref f)=true):ZeL P w K mg base (clsA K "Ring") 3 ["self", "ring"] (ZbH K) :=
 ⟨f,fd,Ze9 B ER c_own_lists F,hx,hf,F.binds fun _ _ _ _ _ _ us hl=>(by obtain ⟨x0,x1,rfl⟩:=ZdL hl;rfl)⟩
def ZiE (K:XFg):Sp:=fun vs H Q _=>∃ p ps a b,vs=[.ref p,.str a,.str b]∧Prs K H p ps∧ps.length≤100∧(¬Path ps a b→∀ H',Same H H'→Q .non H')∧(Path ps a b→∀ c l H',Chain ps a b c→c.length≤101→H l=none→Same H H'→H' l=some (.lst (c.map V.str))→Q (.ref l) H')
theorem Zk7 (B : Blt mg) (ER : Ers K mg) (c_reached : ZcR P w K mg base) (c_worse_by_better : ZaX P w K mg base) (F : Fun K "chain" "chain" Zdv f fd) : FnOk P w K mg base CX0 2 f fd ["pairs", "one", "other"] (ZiE K) := by
 refine F.ok sc_chain (fun vs H Q E h=>?_) (fun cdv A outer s H vs Q E hr h=>?_)
 · obtain ⟨p,ps,a,b,rfl,_⟩:=h
   rfl
 · obtain ⟨p,ps,a,b,rfl,hP,hlen,qn,qy⟩:=h
   refine ⟨_,(Zad (Zax (i:=3) sc_chain.nd (ZaU c_reached (Zaa (ZaU c_worse_by_better (Zaa (pv 0) Zab)) (Zaa (pv 1) Zab))))
    (Zad (ZaN (Zas (Zee (ZiO hr)) (pv 2) (pv 3) (by with_unfolding_all rfl)) (Zah (ZaB Zjf)) Zao)
    (Zad (Zax (i:=4) sc_chain.nd (Zaz (Zaa (pv 2) Zab)))
    (Zad (Zax (i:=5) sc_chain.nd (ZjF (ZiO hr) (pv 3) (pv 2) (fun _ _=>rfl)))
    (Zad (ZhT Xbn (Zas ZfK (pv 5) (pv 1) (ZaC _)) (Zad (Zay (Za9 Xa4 Xa5 Xa6 ZaD (pv 4) (Zaa (pv 5) Zab)))
     (Zah (Zax (i:=5) sc_chain.nd (ZjF (ZiO hr) (pv 3) (pv 5) (fun _ _=>rfl))))))
    (Zad (Zay (Za9 Xa4 Xa5 Xa6 ZaD (pv 4) (Zaa (pv 1) Zab)))
    (Zad (Zay (pe_bm0 Xa4 PySem.F.slot_list_reverse PySem.F.type_list_reverse ZiP (pv 4)))
    (Zah (ZaB (pv 4)))))))))),?_⟩
   refine ⟨_,rfl,p,ps,rfl,hP,hlen,fun d ks H1 hd s1 W _=>?_⟩;refine ⟨_,rfl,d,ks,ps,a,rfl,W,hlen,fun c cf H2 hc s2 ec T F=>?_⟩;have s12:=s1.trans s2;have hcH:H c=none:=s1.free hc;refine ⟨_,rfl,_,rfl,c,_,rfl,DGet.k (k:=Sum.inr b) ec,_,rfl,?_⟩;rw [ZjR]
   cases e:cf.lookup b with
   | none =>
     refine iteT ?_;exact qn (fun hp=>Zdi e ((T.iff F).mpr hp)) H2 s12
   | some b1 =>
     refine iteF ?_;have hp:Path ps a b:=(T.iff F).mp (Xai.mpr ⟨_,Zev e,rfl⟩);refine ⟨_,rfl,Zbc,fun l hl=>?_⟩;have hlH:H l=none:=s12.free hl;have ncl:c≠l:=Zag ec hl
     have ec3:(upd H2 l (.lst [.str b])) c=some (.dK (kvS cf)):=by rw [Zaf ncl];exact ec
     refine ⟨_,rfl,_,rfl,c,_,rfl,by rw [show some (V.str b1)=valV (kvS cf) (Sum.inr b) by rw [ZjR,e];rfl];exact DGet.k (k:=Sum.inr b) ec3,?_⟩;refine g_in ?_;try dsimp only
     refine Zcw (fun σ' H'=>∃ ls,σ'=[some (.ref p),some (.str a),some (.str b),some (.ref c),some (.ref l),some (.str a)]∧Same H H'∧H' l=some (.lst (ls.map V.str))∧Back ps cf a b ls a∧ls.length≤100) ?_ (fun N hN=>?_)
     · rintro σ' H3 ⟨ls,rfl,s3,el3,B,hll⟩
       refine ⟨_,rfl,Or.inl ⟨rfl,_,SqL.of el3⟩,_,rfl,l,_,_,rfl,rfl,el3,Zak (by rw [Xaa];omega),?_⟩;refine ⟨_,rfl,Or.inl ⟨rfl,_,SqL.of Zac⟩,l,_,rfl,rfl,Zac,?_⟩;refine ⟨_,rfl,qy hp (ls++[a]).reverse l _ (B.fin T) (by simp;omega) hlH (fun z o ez=>?_) ?_⟩
       · rw [Zaf (Zag ez hlH),Zaf (Zag ez hlH)];exact s3 z o ez
       · rw [Zac]
         simp
     · -- while label != one
       have key:∀ {ls:List Str} {lb:Str},Back ps cf a b ls lb→ls.length≤cf.length:=fun {ls lb} B=>by
        have nd:ls.Nodup:=B.dec.imp fun {x y} h e=>by subst e;omega
        have:=Zc0 nd (m:=cf.map (·.1)) B.keys
        simpa using this
       have hcl:=T.length;refine ⟨fun m σ H'=>∃ ls lb,σ=[some (.ref p),some (.str a),some (.str b),some (.ref c),some (.ref l),some (.str lb)]∧Same H H'∧H' c=some (.dK (kvS cf))∧H' l=some (.lst (ls.map V.str))∧Back ps cf a b ls lb∧m=cf.length - ls.length,⟨_,[b],b1,rfl,s12.trans (Zaj hl),ec3,Zac,Back.start e,rfl⟩,?_⟩;rintro m σ H3 ⟨ls,lb,rfl,s3,ec4,el3,B,em⟩;have hll:=key B;refine ⟨_,rfl,_,rfl,rfl,_,rfl,?_⟩
       by_cases hne:lb=a
       · subst hne
         rw [show (!decide (V.str lb=V.str lb))=false by simp];exact iteF (hN _ _ ⟨ls,rfl,s3,el3,B,by omega⟩)
       · rw [show (!decide (V.str lb=V.str a))=true by simp [hne]]
         refine iteT ?_;obtain ⟨b2,hb2,B2,_⟩:=B.next T hne;have hll2:=key B2;rw [Xac,Xau] at hll2;refine ⟨fun σ' H'=>∃ ls lb,σ'=[some (.ref p),some (.str a),some (.str b),some (.ref c),some (.ref l),some (.str lb)]∧Same H H'∧H' c=some (.dK (kvS cf))∧H' l=some (.lst (ls.map V.str))∧Back ps cf a b ls lb∧cf.length - ls.length<m,?_,?_⟩
         · rintro σ' H' ⟨ls',lb',rfl,s4,ec5,el4,B4,hm⟩
           exact ⟨_,hm,ls',lb',rfl,s4,ec5,el4,B4,rfl⟩
         refine ⟨_,rfl,Or.inl ⟨rfl,_,SqL.of el3⟩,_,rfl,l,_,_,rfl,rfl,el3,Zak (by rw [Xaa];omega),?_⟩
         have ec5:(upd H3 l (.lst (ls.map V.str++[.str lb]))) c=some (.dK (kvS cf)):=by rw [Zaf ncl];exact ec4
         refine ⟨_,rfl,_,rfl,c,_,rfl,by rw [show some (V.str b2)=valV (kvS cf) (Sum.inr lb) by rw [ZjR,hb2];rfl];exact DGet.k (k:=Sum.inr lb) ec5,?_⟩;refine ⟨ls++[lb],b2,rfl,fun z o ez=>?_,ec5,?_,B2,?_⟩
         · rw [Zaf (Zag ez hlH)];exact s3 z o ez
         · rw [Zac,Xad];rfl
         · rw [Xac,Xau];omega
variable (P w K mg base) in
abbrev Zgs:Prop:=Zbb P w K mg base "chain" 2 ["pairs", "one", "other"] (ZiE K)
theorem Zi9 (B:Blt mg) (ER:Ers K mg) (c_reached:ZcR P w K mg base) (c_worse_by_better:ZaX P w K mg base) (F:Fun K "chain" "chain" Zdv f fd) (hm:mg "chain" = some (.ref f)):Zgs P w K mg base :=
 ⟨f,fd,Zk7 B ER c_reached c_worse_by_better F,hm,F.kp,F.binds fun _ _ _ _ _ _ us hl=>(by obtain ⟨x0,x1,x2,rfl⟩:=ZhM hl;rfl)⟩
def ZcC (K:XFg):Sp:=fun vs H Q E=>∃ (p:Addr) (ps:List (Str×Str)),vs=[.ref p]∧Prs K H p ps∧ps.length≤60∧(∀ x∈ps,ZgY x.2) ∧
 (∀ (ts:List Addr) (ord:List (Str×Str)) (D:Addr) (H':Hp),(∀ a,¬Path ps a a)→OrdOf ps ord→ord.length≤4000→H D=none→Same H H'→H' D=some (.lst (ts.map V.ref))→Tups H' ts ord→Q (.ref D) H') ∧
 ∀ (dx D:Addr) (ring:List Str) (H':Hp),RingOk ps ring→ring.length≤100→Same H H'→H' D=some (.lst (ring.map V.str))→H' dx=some (.xd [("ring",.ref D)])→E (.ref (clsA K "Ring")) (some dx) H'
theorem ZhQ (B:Blt mg) (ER:Ers K mg) (c_all_that_follows:Zbx P w K mg base) (c_Ring__init__:ZeL P w K mg base (clsA K "Ring") 3 ["self", "ring"] (ZbH K)) (c_chain:Zgs P w K mg base) (F:Fun K "order_of" "order_of" Zb4 f fd):FnOk P w K mg base (CXE P w) 5 f fd ["pairs"] (ZcC K):=by
 refine F.okE sc_order_of (fun vs H Q E h=>?_) (fun cdv A outer s H vs Q E hr h=>?_)
 · obtain ⟨p,ps,rfl,_⟩:=h
   rfl
 · obtain ⟨p,ps,rfl,hP,hlen,hsm,q,qe⟩:=h
   refine ⟨_,(Zad (Zax (i:=1) sc_order_of.nd (ZaU c_all_that_follows (Zaa (pv 0) Zab)))
    (Zad (ZbM PassesOwn.leaving rfl (ZaI (pv 1)) (ZcE (n:=2) rfl (ZaA (Zam (i:=2) sc_order_of.nd) (ZaA (Zam (i:=3) sc_order_of.nd) ZbK))) (Zah (ZaN (Zas Zb0 (pv 2) (pv 3) (ZaC _)) (Zah (Zj3 c_Ring__init__ Zau rfl ER.e_Ring ER.kp_Ring (hr.mono (by decide)) rfl (Zaa (ZcF Zc4 (ZaU c_chain (Zaa (pv 0) (Zaa (pv 2) (Zaa (pv 2) Zab)))) Zdy (ZcT (pe_un Zjm Zai))) Zab))) Zao)))
    (Zah (ZaB (pv 1))))),?_⟩
   refine ⟨_,rfl,p,ps,rfl,hP,hlen,fun ts ord D H1 O hol hD s1 eD T=>?_⟩;refine ⟨_,rfl,D,rfl,⟨_,SqL.of eD⟩,Za2 (xs:=ts.map V.ref) (fun i σ H'=>∃ u2 u3,σ=[some (.ref p),some (.ref D),u2,u3]∧H'=H1∧∀ x∈ord.take i,x.1≠x.2) ⟨none,none,rfl,rfl,fun x hx=>by simp at hx⟩ (fun i σ H' _ ⟨_,_,_,e,_⟩=>by rw [e];exact SqL.of eD) ?_ ?_⟩
   · rintro i x σ H2 hx ⟨u2,u3,rfl,rfl,hall⟩
     obtain ⟨t,ht,rfl⟩:=getm hx
     have hil:i<ord.length:=by rw [←T.len];exact (Xae.mp ht).1
     have hp:=T.at_ i t ord[i] ht (Xab hil);refine ⟨t,_,rfl,SqT.of hp,rfl,_,_,rfl,_,_,rfl,rfl,?_⟩;refine ⟨_,rfl,_,rfl,rfl,_,rfl,?_⟩
     by_cases hne:ord[i].1=ord[i].2
     · rw [show decide (V.str ord[i].1=V.str ord[i].2)=true from Xa1 (by rw [hne])]
       refine iteT ?_;have hm:(ord[i].1,ord[i].2)∈ord:=Xav hil;have hpath:=(O.mem _ _).mp hm;rw [←hne] at hpath;refine ⟨_,rfl,_,rfl,_,rfl,p,ps,ord[i].1,ord[i].1,rfl,hP.same s1,by omega,fun z=>absurd hpath z,fun _ c l H3 C hcl hl s3 el=>?_⟩;refine ⟨_,rfl,_,rfl,l,_,rfl,SqL.of el,fun r hr=>?_⟩;rw [ZjM,←List.map_dropLast];have R:=RingOk.of C
       have hrl:c.dropLast.length≤100:=by rw [List.length_dropLast];omega
       have s4:=(s1.trans s3).trans (Zaj (o:=.lst (c.dropLast.map V.str)) hr);have er:(upd H3 r (.lst (c.dropLast.map V.str))) r=some (.lst (c.dropLast.map V.str)):=Zac;generalize upd H3 r (.lst (c.dropLast.map V.str))=H4 at s4 er ⊢;refine ⟨Zbc,fun e he=>⟨e,r,c.dropLast,rfl,Zac,SqL.of (by rw [Zaf (Zag er he)];exact er),hrl,fun y hy=>?_,fun dx D5 H5 hD5 hdx5 kp e5 ex5 ee5=>⟨rfl,some dx,ee5,?_⟩⟩⟩
       · obtain ⟨x,hx,rfl⟩:=R.mem hy
         exact hsm x hx
       · refine qe dx D5 c.dropLast _ R hrl (fun b o hb=>?_) (by rw [Zds hD5];exact e5) (by rw [Zds hdx5];exact ex5)
         have hb4:=s4 _ _ hb;have hbe:b≠e:=Zag hb4 he;rw [Zds hbe];exact kp b o (by rw [Zaf hbe];exact hb4) hbe
     · rw [show decide (V.str ord[i].1=V.str ord[i].2)=false from Xa2 fun z=>hne (V.str.inj z)]
       refine iteF ⟨_,_,rfl,rfl,fun x hx=>?_⟩;rw [Xar,Xab hil] at hx
       rcases Xaf.mp hx with hx | hx
       · exact hall x hx
       · rw [Xaj.mp hx];exact hne
   · rintro σ H2 ⟨u2,u3,rfl,rfl,hall⟩
     rw [Xaa,T.len,Xas] at hall;exact ⟨_,rfl,q ts ord D _ (fun a ha=>hall _ ((O.mem a a).mpr ha) rfl) O hol hD s1 eD T⟩
theorem Zgt (B:Blt mg) (ER:Ers K mg) (c_all_that_follows:Zbx P w K mg base) (c_Ring__init__:ZeL P w K mg base (clsA K "Ring") 3 ["self", "ring"] (ZbH K)) (c_chain:Zgs P w K mg base) (F:Fun K "order_of" "order_of" Zb4 f fd) (hm:mg "order_of" = some (.ref f)):Zar P w K mg base "order_of" 5 ["pairs"] (ZcC K) :=
 ⟨f,fd,ZhQ B ER c_all_that_follows c_Ring__init__ c_chain F,hm,F.kp,F.binds fun _ _ _ _ _ _ us hl=>(by obtain ⟨x0,rfl⟩:=ZcW hl;rfl)⟩
def Zde (K:XFg):Sp:=fun vs H Q _=>∃ (g e:Addr) (s:Stt),vs=[.ref g,.ref e]∧Goes K H g s.1∧SqL K H e (s.2.map V.str)∧s.1.length≤8∧s.2.length≤8 ∧
 ∀ (t G E:Addr) (r:Stt) (H':Hp),SrtOf s r→H t=none→H G=none→H E=none→Same H H'→H' t=some (.tup [.ref G,.ref E])→Goes K H' G r.1→(∃ xs,H' G=some (.lst xs))→H' E=some (.lst (r.2.map V.str))→Q (.ref t) H'
theorem Zfa (B:Blt mg) (ER:Ers K mg)  (F:Fun K "sorted_state" "sorted_state" ZaW f fd):FnOk P w K mg base CX0 1 f fd ["goes", "ends"] (Zde K):=by
 refine F.ok ZeU (fun vs H Q E h=>?_) (fun cdv A outer s H vs Q E hr h=>?_)
 · obtain ⟨g,e,s,rfl,_⟩:=h
   rfl
 · obtain ⟨g,e,s,rfl,⟨gv,hg,hgd⟩,he,l1,l2,q⟩:=h
   have lgv:=hgd.len_map;refine ⟨_,(Zah (ZaB (ZcO (Zaa (Zan (ZiR strC intC) B.b_sorted (Zaa (Zb6 (g:=gTup K 2 (Zez (Zc2 0) (Zez (Zc2 1) gNil))) rfl sorted_state_cs1 (ZaI (pv 0)) (fun _ _ _ _ _=>(ZcE (n:=2) rfl (ZaA (Zam (i:=0) sorted_state_cs1.nd) (ZaA (Zam (i:=1) sorted_state_cs1.nd) ZbK)))) (fun _ _ _ _ _=>Zb1) (fun _ _ _ _ _=>(ZcO (Zaa (pv 0) (Zaa (pv 1) Zab))))) Zab)) (Zaa (Zan ZiT B.b_sorted (Zaa (pv 1) Zab)) Zab))))),?_⟩
   refine ⟨_,rfl,g,rfl,⟨_,hg⟩,ZbI (xs:=gv) (fun D i ys H'=>∃ ts:List Addr,ts.length=i∧Same H H'∧H' D=some (.lst ys)∧ys=ts.map V.ref∧(∀ a∈ts,a≠D)∧∀ (n:Nat) (a:Addr) (p:Str×Int),ts[n]?=some a→s.1[n]?=some p→H' a=some (.tup [.str p.1,.int p.2]))
    (fun D hD=>⟨[],rfl,Zaj hD,Zac,rfl,fun a ha=>by simp at ha,fun n a p hn=>by simp at hn⟩) (fun D i ys H' ⟨_,_,s1,_⟩=>s1.seq hg) (fun D i x ys H2 R hD0 hx hv k=>?_) (fun D ys H2 hD0 hv=>?_)⟩
   · obtain ⟨ts,hts,s2,eD,rfl,hnd,hat⟩:=hv
     obtain ⟨p,t,hp,rfl,ht⟩:=hgd.goes_get hx;have hil:i<s.1.length:=(Xae.mp hp).1;refine ⟨t,_,rfl,s2.seqT ht,rfl,_,_,rfl,_,_,rfl,rfl,?_⟩;refine ⟨_,rfl,_,rfl,Zbv,fun z hz=>?_⟩
     have nz:z≠D:=fun y=>by rw [y,eD] at hz;cases hz
     have s3:=Zaj (o:=.tup [.str p.1,.int p.2]) hz;refine k _ _ (s3 _ _ eD) (by rw [Xaa,hts];exact Zak (by omega)) ⟨ts++[z],by rw [Xac,hts];rfl,fun b o e=>?_,Zac,by rw [Xad];rfl,fun a ha=>?_,fun n a p' hn hp'=>?_⟩
     · rw [Zaf (Zag e hD0)];exact s3 _ _ (s2 b o e)
     · rcases Xaf.mp ha with ha | ha
       · exact hnd a ha
       · rw [Xaj.mp ha];exact nz
     · rcases Nat.lt_or_ge n ts.length with hlt | hge
       · rw [Xat hlt] at hn
         rw [Zaf (hnd a (Xah hn))];exact s3 _ _ (hat n a p' hn hp')
       · have hn1:n<(ts++[z]).length:=(Xae.mp hn).1
         rw [Xac,Xau] at hn1
         obtain rfl:n=i:=by omega
         rw [hp] at hp';cases hp';rw [Xay (by omega),hts,Nat.sub_self] at hn;cases hn;rw [Zaf nz,Zac]
   · obtain ⟨ts,hts,s2,eD,rfl,hnd,hat⟩:=hv
     rw [lgv] at hts;obtain ⟨zs,z1,z2,z3⟩:=Zf5 (K:=K) hts hat
     have lzs:zs.length=s.1.length:=by rw [←z2,Xaa]
     refine ⟨D,zs,rfl,SqL.of (by rw [z1];exact eD),by omega,z3,fun G zs' hp hw hG=>?_⟩;have s3:=Zaj (o:=.lst (zs'.map (·.1))) hG;have eG:(upd H2 G (.lst (zs'.map (·.1)))) G=some (.lst (zs'.map (·.1))):=Zac;have hGH:H G=none:=s2.free hG
     have z3':∀ z∈zs',ZkT K (upd H2 G (.lst (zs'.map (·.1)))) z:=fun z hz=>by
      obtain ⟨t,a1,a2⟩:=z3 z (hp.mem_iff.mp hz);exact ⟨t,a1,s3.seqT a2⟩
     have s23:=s2.trans s3;generalize upd H2 G (.lst (zs'.map (·.1)))=H3 at s3 eG z3' s23 ⊢;refine ⟨_,rfl,e,s.2,rfl,s23.seq he,by omega,fun E es hpe hwe hE=>?_⟩;have s4:=Zaj (o:=.lst (es.map V.str)) hE;have eE:(upd H3 E (.lst (es.map V.str))) E=some (.lst (es.map V.str)):=Zac;have hEH:H E=none:=s23.free hE;have s24:=s23.trans s4;have eG4:=s4 _ _ eG
     have z4:∀ z∈zs',ZkT K (upd H3 E (.lst (es.map V.str))) z:=fun z hz=>by
      obtain ⟨t,a1,a2⟩:=z3' z hz;exact ⟨t,a1,s4.seqT a2⟩
     generalize upd H3 E (.lst (es.map V.str))=H4 at s4 eE s24 eG4 z4 ⊢;refine ⟨Zbv,fun t ht=>?_⟩;have s5:=Zaj (o:=.tup [.ref G,.ref E]) ht;refine q t G E (zs'.map (·.2),es) _ ⟨by rw [←z2];exact hp.map _,hpe,hw,hwe⟩ (s24.free ht) hGH hEH (s24.trans s5) Zac ⟨_,SqL.of (s5 _ _ eG4),?_⟩ ⟨_,s5 _ _ eG4⟩ (s5 _ _ eE);exact (Zf6 zs' z4).same s5
variable (P w K mg base) in
abbrev Zcf:Prop:=Zbb P w K mg base "sorted_state" 1 ["goes", "ends"] (Zde K)
theorem Zd9 (B:Blt mg) (ER:Ers K mg)  (F:Fun K "sorted_state" "sorted_state" ZaW f fd) (hm:mg "sorted_state" = some (.ref f)):Zcf P w K mg base :=
 ⟨f,fd,Zfa B ER  F,hm,F.kp,F.binds fun _ _ _ _ _ _ us hl=>(by obtain ⟨x0,x1,rfl⟩:=ZdL hl;rfl)⟩
theorem Zja {x:Str} (h:ZbU x=true):ZgY x:=by
 unfold ZbU at h;simp only [Bool.and_eq_true,decide_eq_true_eq,List.all_eq_true] at h;refine ⟨h.2.1,fun c hc=>?_⟩
 have:=h.2.2 c hc
 unfold Zgp at this;simp only [Bool.and_eq_true,decide_eq_true_eq] at this;exact Nat.lt_of_le_of_lt this.2 (by decide)
def C1 (ss:List Stt) (ps:List (Str×Str)):Prop:=Fits ss∧ps.length≤40
def C2 (ss:List Stt) (ps:List (Str×Str)):Prop:=∀ x∈ZaH ss++ZbL ps,ZbU x=true
def C4 (ss:List Stt):Prop:=∀ s∈ss,(s.1.map (·.1)).Nodup∧s.2.Nodup
def C5 (ps:List (Str×Str)):Prop:=∀ x,¬Path ps x x
def ZcD (K:XFg):Sp:=fun vs H Q E=>∃ (a p:Addr) (ss:List Stt) (ps:List (Str×Str)) (n:Int),vs=[.ref a,.int n,.ref p]∧StE K H a ss∧Stts K H a ss∧Prs K H p ps∧(∀ x∈ZaH ss++ZbL ps,x.length≤1000) ∧
 (C1 ss ps→C2 ss ps→Zck ss n→C4 ss→C5 ps→∀ v H',Same H H'→Q v H')∧(¬C1 ss ps→E (.ref (clsA K "TooGreat")) none H)∧(C1 ss ps→¬C2 ss ps→∀ H',Same H H'→E (.ref (clsA K "NoName")) none H') ∧
 (C1 ss ps→C2 ss ps→¬Zck ss n→∀ H',Same H H'→E (.ref (clsA K "NoPlace")) none H')∧(C1 ss ps→C2 ss ps→Zck ss n→¬C4 ss→∀ H',Same H H'→E (.ref (clsA K "Twice")) none H') ∧
 (C1 ss ps→C2 ss ps→Zck ss n→C4 ss→¬C5 ps→∀ dx o H',Same H H'→H' dx=some o→E (.ref (clsA K "Ring")) (some dx) H')
theorem ZhR (B:Blt mg) (ER:Ers K mg) (c_refuse_too_great:Zar P w K mg base "refuse_too_great" 1 ["states", "pairs"] (Za0 K)) (c_refuse_no_names:Zar P w K mg base "refuse_no_names" 3 ["states", "pairs"] (Zbe K)) (c_refuse_no_places:Zar P w K mg base "refuse_no_places" 3 ["states", "inner"] (Za1 K)) (c_refuse_twice:Zar P w K mg base "refuse_twice" 2 ["states"] (ZbG K)) (c_order_of:Zar P w K mg base "order_of" 5 ["pairs"] (ZcC K)) (c_sorted_state:Zcf P w K mg base) (F:Fun K "table_of" "table_of" ZbS f fd):FnOk P w K mg base (CXE P w) 6 f fd ["states", "inner", "pairs"] (ZcD K):=by
 refine F.okE sc_table_of (fun vs H Q E h=>?_) (fun cdv A outer s H vs Q E hr h=>?_)
 · obtain ⟨a,p,ss,ps,n,rfl,_⟩:=h
   rfl
 · obtain ⟨a,p,ss,ps,n,rfl,hSE,hS,hP,hw,q,q1,q2,q3,q4,q5⟩:=h
   have hS':=hS;obtain ⟨vs,hV,hD⟩:=hS';have lvs:=hD.len_map
   refine ⟨_,(Zad (Zay (Zcx c_refuse_too_great Zau (hr.mono (by decide)) rfl (Zaa (pv 0) (Zaa (pv 2) Zab))))
    (Zad (Zay (Zcx c_refuse_no_names Zau (hr.mono (by decide)) rfl (Zaa (pv 0) (Zaa (pv 2) Zab))))
    (Zad (Zay (Zcx c_refuse_no_places Zau (hr.mono (by decide)) rfl (Zaa (pv 0) (Zaa (pv 1) Zab))))
    (Zad (Zay (Zcx c_refuse_twice Zau (hr.mono (by decide)) rfl (Zaa (pv 0) Zab)))
    (Zad (Zax (i:=3) sc_table_of.nd (Zcx c_order_of Zau (hr.mono (by decide)) rfl (Zaa (pv 2) Zab)))
    (Zah (ZaB (ZcO (Zaa (Zb6 (g:=gTup K 2 (Zez (Zc2 0) (Zez (Zc2 1) gNil))) rfl table_of_cs1 (ZaI (pv 0)) (fun _ _ _ _ _=>(ZcE (n:=2) rfl (ZaA (Zam (i:=0) table_of_cs1.nd) (ZaA (Zam (i:=1) table_of_cs1.nd) ZbK)))) (fun _ _ _ _ _=>Zb1) (fun _ _ _ _ _=>(ZaU c_sorted_state (Zaa (pv 0) (Zaa (pv 1) Zab))))) (Zaa (pv 1) (Zaa (pv 3) Zab))))))))))),?_⟩
   obtain ⟨pws,hPL,hPD⟩:=id hP;have lpw:=hPD.len_map;refine ⟨_,rfl,_,rfl,a,p,ss,pws,rfl,hS,hPL,fun hF hpl=>?_,fun z=>q1 fun y=>z ⟨y.1,by rw [lpw];exact y.2⟩⟩;rw [lpw] at hpl;have c1:C1 ss ps:=⟨hF,hpl⟩;have hn8:=hF.n;refine ⟨_,rfl,_,rfl,a,p,ss,ps,rfl,hSE,hF,hP,by omega,hw,fun H1 hN s1=>?_,fun H1 hN s1=>q2 c1 hN H1 s1⟩;refine ⟨_,rfl,_,rfl,a,ss,n,rfl,hS.same s1,fun hG=>?_,fun hG=>q3 c1 hN hG H1 s1⟩;refine ⟨_,rfl,a,ss,rfl,hS.same s1,hF,fun H2 hT s2=>?_,fun H2 hT s2=>q4 c1 hN hG hT H2 (s1.trans s2)⟩;have s12:=s1.trans s2;refine ⟨_,rfl,p,ps,rfl,hP.same s12,by omega,fun x hx=>Zja (hN x.2 (Xan _ (List.mem_flatMap.mpr ⟨x,hx,by simp⟩))),fun ts ord o H3 hR hO hol ho s3 eo T=>?_,fun dx D ring H3 R _ s3 _ ex=>q5 c1 hN hG hT (fun z=>by obtain ⟨x,hx⟩:=R.path;exact z x hx) dx _ H3 (s12.trans s3) ex⟩;have s13:=s12.trans s3;have hoH:H o=none:=s12.free ho
   refine ⟨_,rfl,a,rfl,⟨_,s13.seq hV⟩,ZbI (xs:=vs) (fun D i ys H'=>∃ (us:List Addr) (rs:List Stt),us.length=i∧Same H3 H'∧H' D=some (.lst ys)∧ys=us.map V.ref∧StRows K (fun x=>H x=none) H' D us rs∧∀ (n:Nat) (s r:Stt),ss[n]?=some s→rs[n]?=some r→SrtOf s r)
    (fun D hD=>⟨[],[],rfl,Zaj hD,Zac,rfl,StRows.nil,fun n s r _ h=>by simp at h⟩) (fun D i ys H' ⟨_,_,_,s1,_⟩=>(s13.trans s1).seq hV) (fun D i x ys H4 R hD0 hx hv k=>?_) (fun D ys H4 hD0 hv=>?_)⟩
   · obtain ⟨us,rs,hus,s4,eD,rfl,SR,hso⟩:=hv
     obtain ⟨s,t,g,e,hs,rfl,ht,hg,he⟩:=hD.sts_get hx;have b1:=hF.gs s (Xah hs);have b2:=hF.es s (Xah hs);have s14:=s13.trans s4;have hil:i<ss.length:=(Xae.mp hs).1;refine ⟨t,_,rfl,s14.seqT ht,rfl,_,_,rfl,_,_,rfl,rfl,?_⟩;refine ⟨_,rfl,_,rfl,g,e,s,rfl,hg.same s14,s14.seq he,b1,b2,fun u G E r H5 so hu hG hE s5 eu eG eGx eE=>?_⟩;obtain ⟨xs,eGx⟩:=eGx;have eD5:=s5 _ _ eD
     have nG:G≠D:=fun z=>by rw [z,eD] at hG;cases hG
     have nE:E≠D:=fun z=>by rw [z,eD] at hE;cases hE
     refine k _ _ eD5 (by rw [Xaa,hus];exact Zak (by omega)) ⟨us++[u],rs++[r],by rw [Xac,hus];rfl,fun b o e=>?_,Zac,by rw [Xad];rfl,((SR.same s5).snoc eu eG eGx eE nG nE (s14.free hG) (s14.free hE)).updL eD5,fun m s' r' h1 h2=>?_⟩
     · rw [Zaf (Zag e hD0)];exact s5 _ _ (s4 b o e)
     · rcases Nat.lt_or_ge m rs.length with hlt | hge
       · rw [Xat hlt] at h2
         exact hso m s' r' h1 h2
       · have hn1:m<(rs++[r]).length:=(Xae.mp h2).1
         rw [Xac,Xau] at hn1;have hrl:=SR.len
         obtain rfl:m=i:=by omega
         rw [hs] at h1;cases h1;rw [Xay hge,show m - rs.length=0 by omega] at h2;cases h2;exact so
   · obtain ⟨us,rs,hus,s4,eD,rfl,SR,hso⟩:=hv
     refine ⟨_,rfl,_,rfl,ZkU,fun t ht=>?_⟩;have s5:=Zaj (o:=.tup [.ref D,.int n,.ref o]) ht;have s45:=s4.trans s5;exact q c1 hN hG hT hR _ _ (s13.trans s45)
theorem Zgu (B:Blt mg) (ER:Ers K mg) (c_refuse_too_great:Zar P w K mg base "refuse_too_great" 1 ["states", "pairs"] (Za0 K)) (c_refuse_no_names:Zar P w K mg base "refuse_no_names" 3 ["states", "pairs"] (Zbe K)) (c_refuse_no_places:Zar P w K mg base "refuse_no_places" 3 ["states", "inner"] (Za1 K)) (c_refuse_twice:Zar P w K mg base "refuse_twice" 2 ["states"] (ZbG K)) (c_order_of:Zar P w K mg base "order_of" 5 ["pairs"] (ZcC K)) (c_sorted_state:Zcf P w K mg base) (F:Fun K "table_of" "table_of" ZbS f fd) (hm:mg "table_of" = some (.ref f)):Zar P w K mg base "table_of" 6 ["states", "inner", "pairs"] (ZcD K) :=
 ⟨f,fd,ZhR B ER c_refuse_too_great c_refuse_no_names c_refuse_no_places c_refuse_twice c_order_of c_sorted_state F,hm,F.kp,F.binds fun _ _ _ _ _ _ us hl=>(by obtain ⟨x0,x1,x2,rfl⟩:=ZhM hl;rfl)⟩
theorem ZiF {α:Type}{l:List α} (h:l.length=3):∃ a b c,l=[a,b,c]:=by
 match l,h with
 | [a,b,c],_=>exact ⟨a,b,c,rfl⟩
def Zkw (ss:List Stt) (n:Int) (ps:List (Str×Str)) (w:Str):Prop:=(¬C1 ss ps∧w = "great")∨(C1 ss ps∧¬C2 ss ps∧w = "name")∨(C1 ss ps∧C2 ss ps∧¬Zck ss n∧w = "place")∨(C1 ss ps∧C2 ss ps∧Zck ss n∧¬C4 ss∧w = "twice")∨(C1 ss ps∧C2 ss ps∧Zck ss n∧C4 ss∧¬C5 ps∧w = "ring")∨(C1 ss ps∧C2 ss ps∧Zck ss n∧C4 ss∧C5 ps∧w = "made")
def OutT (ws:List Str) (w:Str):Prop:=(∃ ss n ps,RdT ws ss n ps∧Zkw ss n ps w)∨((¬∃ ss n ps,RdT ws ss n ps)∧w = "text")
def wcL:List (Str×Str):=[("text", "NoText"),("great", "TooGreat"),("name", "NoName"),("place", "NoPlace"),("twice", "Twice"),("ring", "Ring")]
def TxtO (K:XFg) (H:Hp) (v:V) (O:Str→Prop):Prop:=(∃ T',TyN K H v T'∧isiB T' .str=false∧O "text")∨∃ ws:List Str,v=.str (Txt.join (" " : Str) ws)∧ws≠[]∧ws.length≤890∧(∀ x∈ws,32 ∉ x.cps.toList∧x.length≤9)∧∀ w,OutT ws w→O w
def ZbZ (K:XFg):Sp:=fun vs H Q E=>∃ (v:V) (O:Str→Prop),vs=[v]∧TxtO K H v O ∧
 (O "made" → ∀ v H',Same H H'→Q v H')∧∀ (w c:Str) (dd:Option Addr) (H':Hp),O w→(w,c)∈wcL→Same H H'→(∀ dx,dd=some dx→∃ o,H' dx=some o)→E (.ref (clsA K c)) dd H'
theorem Zgv (B:Blt mg) (ER:Ers K mg) (c_parted:ZcK P w K mg base) (c_read_state:Zar P w K mg base "read_state" 3 ["words"] (ZbY K)) (c_read_number:Zar P w K mg base "read_number" 1 ["word"] (Zbn K)) (c_read_twos:Zar P w K mg base "read_twos" 2 ["words"] (ZbF K)) (c_read_label:Zar P w K mg base "read_label" 1 ["word"] (Zbu K)) (c_table_of:Zar P w K mg base "table_of" 6 ["states", "inner", "pairs"] (ZcD K)) (F:Fun K "read_table" "read_table" Za8 f fd):FnOk P w K mg base (CXE P w) 7 f fd ["text"] (ZbZ K):=by
 refine F.okE sc_read_table (fun vs H Q E h=>?_) (fun cdv A outer s H vs Q E hr h=>?_)
 · obtain ⟨v,O,rfl,_⟩:=h
   rfl
 · obtain ⟨v,O,rfl,hv,q,qe⟩:=h
   refine ⟨_,(Zad (ZaN (Zc3 (Zct (Zan Zdg B.b_isinstance (Zaa (pv 0) (Zaa (Zhw "str" rfl B.b_str (by decide +kernel)) Zab))))) (Zah (Zbd Zau rfl ER.k_NoText rfl (Zaa Zal Zab))) Zao)
    (Zad (Zax (i:=1) sc_read_table.nd (ZaU c_parted (Zaa (Za9 PySem.F.plainAttrs_str PySem.F.slot_str_split PySem.F.type_str_split ZkZ (pv 0) (Zaa Zal Zab)) (Zaa Zal Zab))))
    (Zad (ZaN (PW.pt (Zhp (Zas ZfK (Zan ZaR B.b_len (Zaa (pv 1) Zab)) Zai (ZaC _)) (Zfo (Zas ZfK (Zan ZaR B.b_len (Zaa (ZaZ ZaE (pv 1) Zai) Zab)) Zai (ZaC _))))) (Zah (Zbd Zau rfl ER.k_NoText rfl (Zaa Zal Zab))) Zao)
    (Zad (Zge (i:=2) sc_read_table.nd rfl (Or.inl rfl) Zau rfl rfl rfl read_table_cs1 (ZaI (ZaU c_parted (Zaa (ZaZ ZaE (pv 1) Zai) (Zaa Zal Zab)))) (fun _ _ _ _ _=>(Zam (i:=0) read_table_cs1.nd)) (fun _ _ _ _ _=>Zb1) (fun _ _ _ _ _=>(Zcx c_read_state Zb9 (hr.mono (by decide)) rfl (Zaa (pv 0) Zab))))
    (Zad (Zax (i:=3) sc_read_table.nd (Zcx c_read_number Zau (hr.mono (by decide)) rfl (Zaa (ZaZ ZaE (ZaZ ZaE (pv 1) Zai) Zai) Zab)))
    (Zad (Zge (i:=4) sc_read_table.nd rfl (Or.inl rfl) (g:=gLst K 2 (Zez (Zc2 0) (Zez (Zc2 1) gNil))) Zau rfl rfl rfl read_table_cs2 (ZaI (Zcx c_read_twos Zau (hr.mono (by decide)) rfl (Zaa (ZaZ ZaE (pv 1) Zai) Zab))) (fun _ _ _ _ _=>(pg_lst (n:=2) rfl (ZaA (Zam (i:=0) read_table_cs2.nd) (ZaA (Zam (i:=1) read_table_cs2.nd) ZbK)))) (fun _ _ _ _ _=>Zb1) (fun _ _ _ _ _=>(ZcO (Zaa (Zcx c_read_label Zb9 (hr.mono (by decide)) rfl (Zaa (pv 0) Zab)) (Zaa (Zcx c_read_label Zb9 (hr.mono (by decide)) rfl (Zaa (pv 1) Zab)) Zab)))))
    (Zah (ZaB (Zcx c_table_of Zau (hr.mono (by decide)) rfl (Zaa (pv 2) (Zaa (pv 3) (Zaa (pv 4) Zab)))))))))))),?_⟩
   rcases hv with ⟨T',ty,hT,ho⟩ | ⟨ws,rfl,hne,hlen,hws,hO⟩
   · refine ⟨_,rfl,_,.str,T',rfl,ty,_,rfl,?_⟩
     rw [hT]
     exact iteT ⟨Zbc,qe "text" "NoText" none H ho (by unfold wcL;simp) (Same.refl _) fun d e=>nomatch e⟩
   have tl:=Zkb (ws:=ws) fun x hx=>(hws x hx).2
   have bad:(¬∃ ss n ps,RdT ws ss n ps)→∀ H',Same H H'→E (.ref (clsA K "NoText")) none H':=fun hn H' s'=>qe "text" "NoText" none H' (hO _ (.inr ⟨hn,rfl⟩)) (by unfold wcL;simp) s' fun d e=>nomatch e
   have pl:=Ziw (sg := "|") (ws:=ws)
   refine ⟨_,rfl,_,.str,.str,rfl,.str _,_,rfl,iteF ?_⟩
   refine ⟨_,rfl,rfl,_, " ",rfl,rfl,rfl,by omega,fun S hS=>?_⟩
   rw [ZhE hne fun x hx=>(hws x hx).1];obtain ⟨H0,qH0,s0,eS⟩:=new_at (o:=.lst (ws.map V.str)) hS;rw [←qH0]
   refine ⟨S,_, "|",rfl,SqL.of eS,by omega,fun D us H1 hD s1 eD W=>?_⟩
   have s01:=s0.trans s1;refine g_in ?_;try dsimp only
   refine ⟨_,rfl,_,_,rfl,Or.inl ⟨_,SqL.of eD,rfl⟩,rfl,_,rfl,?_⟩;rw [Xaa,W.len]
   by_cases h3:(prt "|" ws).length=3
   rotate_left
   · have h4:¬(((prt "|" ws).length:Int)=3):=by omega
     exact iteC (by simpa using h4) (iteT ⟨Zbc,bad (fun ⟨ss,n,ps,a,w,b,e,_⟩=>h3 (by rw [e];rfl)) H1 s01⟩)
   have h4:(((prt "|" ws).length:Int)=3):=by omega
   refine iteN (by simpa using h4) ?_;obtain ⟨wa,wi,wb,ep⟩:=ZiF h3;rw [ep] at W pl;obtain ⟨a1,a2,a3,rfl⟩:=ZiF W.len;have e1:=W.at_ 0 a1 _ rfl rfl;have e2:=W.at_ 1 a2 _ rfl rfl;have e3:=W.at_ 2 a3 _ rfl rfl;have la:=pl.2 wa (by simp);have lb:=pl.2 wb (by simp)
   have inw:∀ g x,g∈[wa,wi,wb]→x∈g→x∈ws:=fun g x hg hx=>Zc8 (sg := "|") (by rw [ep];exact hg) hx
   refine ⟨_,rfl,Or.inl ⟨D,_,_,.ref a2,rfl,rfl,SqL.of eD,rfl,_,_,rfl,Or.inl ⟨_,SqL.of e2,rfl⟩,rfl,_,rfl,?_⟩⟩;rw [Xaa]
   by_cases h1:wi.length=1
   rotate_left
   · have h5:¬((wi.length:Int)=1):=by omega
     refine iteC (by simpa using h5) ⟨Zbc,bad (fun ⟨ss,n,ps,a,w,b,e,_⟩=>h1 ?_) H1 s01⟩;rw [ep] at e
     injection e with _ e
     injection e with e _
     rw [e];rfl
   have h5:((wi.length:Int)=1):=by omega
   refine iteN (by simpa using h5) ?_;obtain ⟨wn,rfl⟩:∃ wn,wi=[wn]:=List.length_eq_one_iff.mp h1
   have parts:∀ {ss n ps},RdT ws ss n ps→F2 RdSt (prt "/" wa) ss∧Num wn n∧Zcl wb=ps.map wG∧∀ p∈ps,lab p.1∧lab p.2:=fun {ss n ps} ⟨a,w,b,e,r⟩=>by
    rw [ep] at e
    injection e with e1 e
    injection e with e2 e
    injection e with e3 _
    injection e2 with e2 _
    rw [e1,e2,e3];exact r
   have pa:=Ziw (sg := "/") (ws:=wa)
   refine ⟨_,rfl,Or.inl ⟨D,_,_,.ref a1,rfl,rfl,SqL.of eD,rfl,a1,wa, "/",rfl,SqL.of e1,by omega,fun D2 us2 H2 hD2 s2 eD2 W2=>?_⟩⟩
   have s02:=s01.trans s2
   refine ⟨D2,rfl,⟨_,SqL.of eD2⟩,ZbI (xs:=us2.map V.ref) (fun St i ys H'=>∃ (ts:List Addr) (ss:List Stt),Same H2 H'∧H' St=some (.lst ys)∧ys=ts.map V.ref∧StRows K (fun _=>True) H' St ts ss∧F2 RdSt ((prt "/" wa).take i) ss)
    (fun St hSt=>⟨[],[],Zaj hSt,Zac,rfl,StRows.nil,F2.nil⟩) (fun St i ys H' ⟨_,_,s3,_⟩=>SqL.of (s3 _ _ eD2)) (fun St i x ys H3 R hSt0 hx hv k=>?_) (fun St ys H3 hSt0 hv=>?_)⟩
   · obtain ⟨ts,ss,s3,eSt,rfl,SR,F⟩:=hv
     obtain ⟨u,hu,rfl⟩:=getm hx
     have hil:i<(prt "/" wa).length:=by rw [←W2.len];exact (Xae.mp hu).1
     have hs:=Xab hil;have hms:=Xah hs;have eu:=s3 _ _ (W2.at_ i u _ hu hs)
     have lts:ts.length≤900:=by
      have:=F.1
      rw [Xaw] at this;rw [SR.len];omega
     have lg:=pa.2 _ hms;have s03:=s02.trans s3;refine ⟨_,rfl,u,_,rfl,SqL.of eu,by omega,fun x hx=>Xbc (hws x (inw wa x (by simp) (Zc8 hms hx))).2 (by decide),fun st hst t g e gt H4 ht hg he nge s4 et eg GTs ee=>?_,fun hn H4 s4=>bad (fun ⟨ss,n,ps,r⟩=>?_) H4 (s03.trans s4)⟩
     · have eSt4:=s4 _ _ eSt
       have ng:g≠St:=fun z=>by rw [z,eSt] at hg;cases hg
       have ne:e≠St:=fun z=>by rw [z,eSt] at he;cases he
       refine k _ _ eSt4 (by rw [Xaa];exact Zak (by omega)) ⟨ts++[t],ss++[st],fun b o e=>?_,Zac,by rw [Xad];rfl,((SR.same s4).snoc et ⟨_,SqL.of eg,GTs.dts⟩ eg ee ng ne True.intro True.intro).updL eSt4,?_⟩
       · rw [Zaf (Zag e hSt0)];exact s4 _ _ (s3 b o e)
       · rw [Xar,hs]
         exact F.snoc hst
     · obtain ⟨y,_,ry⟩:=(parts r).1.left hms
       exact hn ⟨y,ry⟩
   obtain ⟨sts,ss,s3,eSt,rfl,SR,F⟩:=hv;rw [Xaa,W2.len,Xas] at F;have s13:=s2.trans s3;have s03:=s02.trans s3;refine g_in ?_;try dsimp only
   refine ⟨_,rfl,Or.inl ⟨D,_,_,.ref a2,rfl,rfl,SqL.of (s13 _ _ eD),rfl,Or.inl ⟨a2,_,_,.str wn,rfl,rfl,SqL.of (s13 _ _ e2),rfl,wn,rfl,Xbc (hws wn (inw [wn] wn (by simp) (by simp))).2 (by decide),fun n hn H4 s4=>?_,fun hn H4 s4=>bad (fun ⟨ss,n,ps,r⟩=>hn ⟨n,(parts r).2.1⟩) H4 (s03.trans s4)⟩⟩⟩;have s14:=s13.trans s4;have s04:=s03.trans s4;refine g_in ?_;try dsimp only
   refine ⟨_,rfl,Or.inl ⟨D,_,_,.ref a3,rfl,rfl,SqL.of (s14 _ _ eD),rfl,a3,wb,rfl,SqL.of (s14 _ _ e3),by omega,fun ps eps D5 us5 H5 hD5 s5 eD5 W5=>?_,fun hnp H5 s5=>bad (fun ⟨ss,n,ps,r⟩=>hnp ⟨ps,(parts r).2.2.1⟩) H5 (s04.trans s5)⟩⟩;have tb:=ZhI eps;have s05:=s04.trans s5
   have lu5:us5.length=ps.length:=by rw [W5.len,Xaa]
   refine ⟨D5,rfl,⟨_,SqL.of eD5⟩,ZbI (xs:=us5.map V.ref) (fun G i ys H'=>∃ ts:List Addr,Same H5 H'∧H' G=some (.lst ys)∧ys=ts.map V.ref∧Tups H' ts (ps.take i)∧∀ p∈ps.take i,lab p.1∧lab p.2)
    (fun G hG=>⟨[],Zaj hG,Zac,rfl,by rw [Xaz];exact Tups.nil,fun p hp=>by simp at hp⟩) (fun G i ys H' ⟨_,s6,_⟩=>SqL.of (s6 _ _ eD5)) (fun G i x ys H6 R hG0 hx hv k=>?_) (fun G ys H6 hG0 hv=>?_)⟩
   · obtain ⟨ts,s6,eG,rfl,T,hlb⟩:=hv
     obtain ⟨u,hu,rfl⟩:=getm hx
     have hil:i<ps.length:=by rw [←lu5];exact (Xae.mp hu).1
     have hp:=Xab hil;have eu:=s6 _ _ (W5.at_ i u (wG ps[i]) hu (by rw [Xag,hp];rfl));have s06:=s05.trans s6
     have nol:¬(lab ps[i].1∧lab ps[i].2)→¬∃ ss n ps,RdT ws ss n ps:=fun nb ⟨ss,n,ps',r⟩=>by
      have r:=(parts r).2.2;rw [eps] at r;have e:=ZfD r.1;subst e;exact nb (r.2 _ (Xah hp))
     refine ⟨u,_,rfl,SqL.of eu,rfl,_,_,rfl,_,_,rfl,rfl,?_⟩;refine ⟨_,rfl,_,rfl,fun ok1=>⟨_,rfl,_,rfl,fun ok2=>⟨Zbv,fun z hz=>?_⟩,fun z=>bad (nol fun y=>z y.2) H6 s06⟩,fun z=>bad (nol fun y=>z y.1) H6 s06⟩;have s7:=Zaj (o:=.tup [.str ps[i].1,.str ps[i].2]) hz;have T7:=(T.same s7).snoc (p:=ps[i]) (t:=z) Zac;have eG7:=s7 _ _ eG
     have lts:ts.length≤900:=by rw [T.len,Xaw];omega
     refine k _ _ eG7 (by rw [Xaa];exact Zak (by omega)) ⟨ts++[z],fun b o e=>?_,Zac,by rw [Xad];rfl,?_,fun p hpm=>?_⟩
     · rw [Zaf (Zag e hG0)];exact s7 _ _ (s6 b o e)
     · rw [Xar,hp]
       exact T7.upd (T7.ne eG7)
     · rw [Xar,hp] at hpm
       rcases Xaf.mp hpm with y | y
       · exact hlb p y
       · have:p=ps[i]:=by simpa using y
         rw [this];exact ⟨ok1,ok2⟩
   obtain ⟨pts,s6,eG,rfl,T,hlb⟩:=hv;rw [Xaa,lu5,Xas] at T hlb;have s36:=(s4.trans s5).trans s6;have s06:=s05.trans s6;have RT:RdT ws ss n ps:=⟨wa,wn,wb,ep,F,hn,eps,hlb⟩;refine g_in ?_;try dsimp only
   have out:∀ w,Zkw ss n ps w→O w:=fun w h=>hO w (.inl ⟨ss,n,ps,RT,h⟩)
   refine ⟨_,rfl,_,rfl,_,rfl,St,G,ss,ps,n,rfl,(SR.same s36).stE (s36 _ _ eSt),(SR.same s36).stts (s36 _ _ eSt),T.prs eG,fun x hx=>?_,fun c1 c2 c3 c4 c5 v H7 s7=>q (out _ (.inr (.inr (.inr (.inr (.inr ⟨c1,c2,c3,c4,c5,rfl⟩)))))) v H7 (s06.trans s7),
    fun c1=>qe "great" "TooGreat" none H6 (out _ (.inl ⟨c1,rfl⟩)) (by unfold wcL;simp) s06 (fun d e=>nomatch e),fun c1 c2 H7 s7=>qe "name" "NoName" none H7 (out _ (.inr (.inl ⟨c1,c2,rfl⟩))) (by unfold wcL;simp) (s06.trans s7) (fun d e=>nomatch e),
    fun c1 c2 c3 H7 s7=>qe "place" "NoPlace" none H7 (out _ (.inr (.inr (.inl ⟨c1,c2,c3,rfl⟩)))) (by unfold wcL;simp) (s06.trans s7) (fun d e=>nomatch e),fun c1 c2 c3 c4 H7 s7=>qe "twice" "Twice" none H7 (out _ (.inr (.inr (.inr (.inl ⟨c1,c2,c3,c4,rfl⟩))))) (by unfold wcL;simp) (s06.trans s7) (fun d e=>nomatch e),
    fun c1 c2 c3 c4 c5 dx o H7 s7 hO=>qe "ring" "Ring" (some dx) H7 (out _ (.inr (.inr (.inr (.inr (.inl ⟨c1,c2,c3,c4,c5,rfl⟩)))))) (by unfold wcL;simp) (s06.trans s7) (fun d e=>by cases e;exact ⟨o,hO⟩)⟩
   rcases Xaf.mp hx with hx | hx
   · unfold ZaH at hx
     obtain ⟨s,hs,hx⟩:=List.mem_flatMap.mp hx;obtain ⟨wss,hm,a',g,e,e2',f2,_⟩:=F.right hs;have inx:∀ y,y∈wss→y.length≤1000:=fun y hy=>Xbc (hws y (inw wa y (by simp) (Zc8 hm hy))).2 (by decide)
     rcases Xaf.mp hx with hx | hx
     · obtain ⟨z,hz,rfl⟩:=Xai.mp hx
       obtain ⟨y,hy,_,r2,_⟩:=f2.right hz;rw [r2]
       exact inx _ (Zc8 (sg := ":") (by rw [e];simp) ((ZhI e2').2 y hy).1)
     · exact inx _ (Zc8 (sg := ":") (by rw [e];simp) hx)
   · obtain ⟨p,hp,hx⟩:=List.mem_flatMap.mp hx
     have:=tb.2 p hp
     have hx:x=p.1∨x=p.2:=by simpa using hx
     rcases hx with e | e
     · rw [e];exact Xbc (hws _ (inw wb _ (by simp) this.1)).2 (by decide)
     · rw [e];exact Xbc (hws _ (inw wb _ (by simp) this.2)).2 (by decide)
theorem Zfb (B:Blt mg) (ER:Ers K mg) (c_parted:ZcK P w K mg base) (c_read_state:Zar P w K mg base "read_state" 3 ["words"] (ZbY K)) (c_read_number:Zar P w K mg base "read_number" 1 ["word"] (Zbn K)) (c_read_twos:Zar P w K mg base "read_twos" 2 ["words"] (ZbF K)) (c_read_label:Zar P w K mg base "read_label" 1 ["word"] (Zbu K)) (c_table_of:Zar P w K mg base "table_of" 6 ["states", "inner", "pairs"] (ZcD K)) (F:Fun K "read_table" "read_table" Za8 f fd) (hm:mg "read_table" = some (.ref f)):Zar P w K mg base "read_table" 7 ["text"] (ZbZ K) :=
 ⟨f,fd,Zgv B ER c_parted c_read_state c_read_number c_read_twos c_read_label c_table_of F,hm,F.kp,F.binds fun _ _ _ _ _ _ us hl=>(by obtain ⟨x0,rfl⟩:=ZcW hl;rfl)⟩
def AskE (K:XFg) (C c:Addr) (b:Bool):Prop:=AskC K C (.ref c) b∧((Value.ref C == Value.ref c)=true→b=true)
theorem AskE.no {K:XFg}{C c:Addr} (a:AskC K C (.ref c) false) (h:(Value.ref C == Value.ref c)=false):AskE K C c false:=⟨a,fun z=>by rw [h] at z;cases z⟩
theorem AskE.yes {K:XFg}{C c:Addr} (a:AskC K C (.ref c) true):AskE K C c true:=⟨a,fun _=>rfl⟩
structure ErrF (K:XFg) (C:Addr) (j:Nat):Prop where
 xf:ZiX K C
 sp:L2.subIn K C (clsA K "PathError")=true
 d:ExcCl K C
 v:AskC K C (.type "ValueError") true
 a0:AskE K C (clsA K "NoText") (j == 0)
 a1:AskE K C (clsA K "NoName") (j == 1)
 a2:AskE K C (clsA K "NoPlace") (j == 2)
 a3:AskE K C (clsA K "Twice") (j == 3)
 a4:AskE K C (clsA K "Ring") (j == 4)
 a5:AskE K C (clsA K "TooGreat") (j == 5)
 t:AskE K C (clsA K "Tangled") false
 r:AskE K C (clsA K "NoRow") false
 c:AskE K C (clsA K "Caught") false
def wL:List Str:=["text", "name", "place", "twice", "ring", "great"]
theorem dec_bl (b:Bool):dec (Dt.bl b=Dt.bl true)=b:=by
 cases b with
 | false=>exact ZbN fun z=>by cases z
 | true=>exact ZbQ rfl
def bL (j:Nat):List Bool:=[j == 0,j == 1,j == 2,j == 3,j == 4,j == 5]
theorem cnt6 {j:Nat} (h:j<6):((bL j).map Dt.bl).countP (fun x=>dec (x=Dt.bl true))=1:=by
 rw [List.countP_map]
 have:((fun x=>dec (x=Dt.bl true)) ∘ Dt.bl)=id:=funext dec_bl
 rw [this]
 have:∀ j,j<6→(bL j).countP id=1:=by decide
 exact this j h
theorem ix6 {j:Nat} (h:j<6):((bL j).map Dt.bl)[j]?=some (Dt.bl true)∧∀ m,m<j→((bL j).map Dt.bl)[m]?≠some (Dt.bl true):=by
 have h1:∀ j,j<6→(bL j)[j]?=some true:=by decide
 have h2:∀ j,j<6→∀ m,m<j→(bL j)[m]?≠some true:=by decide
 refine ⟨by rw [Xag,h1 j h];rfl,fun m hm z=>?_⟩;rw [Xag] at z;obtain ⟨b,e1,e2⟩:=XaR.mp z;cases e2;exact h2 j h m hm e1
def Zdf (K:XFg):Sp:=fun vs H Q _=>∃ (v:V) (O:Str→Prop),vs=[v]∧TxtO K H v O∧∀ w H',O w→Same H H'→Q (.str w) H'
theorem Zfc (B:Blt mg) (ER:Ers K mg) (c_read_table:Zar P w K mg base "read_table" 7 ["text"] (ZbZ K)) (F:Fun K "_law_outcome" "_law_outcome" Zbm f fd):FnOk P w K mg base CX0 8 f fd ["_law_thing"] (Zdf K):=by
 refine F.ok sc__law_outcome (fun vs H Q E h=>?_) (fun cdv A outer s H vs Q E hr h=>?_)
 · obtain ⟨v,O,rfl,_⟩:=h
   rfl
 · obtain ⟨v,O,rfl,hO,q⟩:=h
   refine ⟨_,(Zad (Zax (i:=1) sc__law_outcome.nd Zjf)
    (Zad (Zi0 (i:=2) c_read_table (hr.mono (by decide)) rfl (Zaa (pv 0) Zab) rfl rfl (Zj2 ER.k_PathError.ok) rfl ER.e_PathError sc__law_outcome.nd rfl rfl (fun _=>(Zah (Zax (i:=1) sc__law_outcome.nd (pv 2)))))
    (Zad (ZaN (pt_cmp (pc_isN (pv 1))) (Zah (ZaB Zal)) Zao)
    (Zad (Zax (i:=3) sc__law_outcome.nd (Zaz (Zaa (Zan ZbO B.b_isinstance (Zaa (pv 1) (Zaa (ZbJ (v:=.ref (clsA K "NoText")) rfl ER.e_NoText rfl) Zab))) (Zaa (Zan ZbO B.b_isinstance (Zaa (pv 1) (Zaa (ZbJ (v:=.ref (clsA K "NoName")) rfl ER.e_NoName rfl) Zab))) (Zaa (Zan ZbO B.b_isinstance (Zaa (pv 1) (Zaa (ZbJ (v:=.ref (clsA K "NoPlace")) rfl ER.e_NoPlace rfl) Zab))) Zab)))))
    (Zad (Zax (i:=3) sc__law_outcome.nd (Zat Zcv (pv 3) (Zaz (Zaa (Zan ZbO B.b_isinstance (Zaa (pv 1) (Zaa (ZbJ (v:=.ref (clsA K "Twice")) rfl ER.e_Twice rfl) Zab))) (Zaa (Zan ZbO B.b_isinstance (Zaa (pv 1) (Zaa (ZbJ (v:=.ref (clsA K "Ring")) rfl ER.e_Ring rfl) Zab))) (Zaa (Zan ZbO B.b_isinstance (Zaa (pv 1) (Zaa (ZbJ (v:=.ref (clsA K "TooGreat")) rfl ER.e_TooGreat rfl) Zab))) Zab))))))
    (Zad (ZaN (PW.pt (Zhp (Zct (Zan ZbO B.b_isinstance (Zaa (pv 1) (Zaa (ZbJ (v:=.ref (clsA K "Tangled")) rfl ER.e_Tangled rfl) Zab)))) (Zfo (Zct (Zan ZbO B.b_isinstance (Zaa (pv 1) (Zaa (ZbJ (v:=.ref (clsA K "NoRow")) rfl ER.e_NoRow rfl) Zab))))))) (Zah (ZaB Zal)) Zao)
    (Zad (ZaN (PW.pt (Zhp (Zct (Zan ZbO B.b_isinstance (Zaa (pv 1) (Zaa (ZbJ (v:=.ref (clsA K "Caught")) rfl ER.e_Caught rfl) Zab)))) (Zhp (Zc3 (Zct (Zan ZbO B.b_isinstance (Zaa (pv 1) (Zaa (Zhw "ValueError" rfl B.b_ValueError (by decide +kernel)) Zab))))) (Zfo (Zas ZfK (Za9 Xa4 PySem.F.slot_list_count PySem.F.type_list_count (Zj4 hr.units) (pv 3) (Zaa Zje Zab)) Zai (ZaC _)))))) (Zah (ZaB Zal)) Zao)
    (Zah (ZaB (ZaZ ZaE (Zaz (Zaa Zal (Zaa Zal (Zaa Zal (Zaa Zal (Zaa Zal (Zaa Zal Zab))))))) (Za9 Xa4 PySem.F.slot_list_index PySem.F.type_list_index (Zga hr.units) (pv 3) (Zaa Zje Zab)))))))))))),?_⟩
   refine ⟨_,rfl,v,O,rfl,hO,fun ho v' H1 s1=>?_,fun w c dd H0 ho hm s0 hdd=>?_⟩
   · refine ⟨_,rfl,_,rfl,ite2 (fun _=>?_) (fun h=>absurd (Xa1 rfl) h)⟩
     exact q "made" H1 ho s1
   obtain ⟨j,hj,ew,F⟩:∃ j,j<6∧wL[j]?=some w∧ErrF K (clsA K c) j:=by
    unfold wcL at hm;simp only [Xam,List.not_mem_nil,or_false,Prod.mk.injEq] at hm
    rcases hm with ⟨rfl,rfl⟩ | ⟨rfl,rfl⟩ | ⟨rfl,rfl⟩ | ⟨rfl,rfl⟩ | ⟨rfl,rfl⟩ | ⟨rfl,rfl⟩
    · exact ⟨0,by decide,by decide +kernel,⟨Zc7 ER.k_NoText.ok,ER.s_NoText_PathError,ER.d_NoText,ER.v_NoText,.yes ER.a_NoText_NoText,.no ER.a_NoText_NoName ER.n_NoText_NoName,.no ER.a_NoText_NoPlace ER.n_NoText_NoPlace,.no ER.a_NoText_Twice ER.n_NoText_Twice,.no ER.a_NoText_Ring ER.n_NoText_Ring,.no ER.a_NoText_TooGreat ER.n_NoText_TooGreat,.no ER.a_NoText_Tangled ER.n_NoText_Tangled,.no ER.a_NoText_NoRow ER.n_NoText_NoRow,.no ER.a_NoText_Caught ER.n_NoText_Caught⟩⟩
    · exact ⟨5,by decide,by decide +kernel,⟨Zc7 ER.k_TooGreat.ok,ER.s_TooGreat_PathError,ER.d_TooGreat,ER.v_TooGreat,.no ER.a_TooGreat_NoText ER.n_TooGreat_NoText,.no ER.a_TooGreat_NoName ER.n_TooGreat_NoName,.no ER.a_TooGreat_NoPlace ER.n_TooGreat_NoPlace,.no ER.a_TooGreat_Twice ER.n_TooGreat_Twice,.no ER.a_TooGreat_Ring ER.n_TooGreat_Ring,.yes ER.a_TooGreat_TooGreat,.no ER.a_TooGreat_Tangled ER.n_TooGreat_Tangled,.no ER.a_TooGreat_NoRow ER.n_TooGreat_NoRow,.no ER.a_TooGreat_Caught ER.n_TooGreat_Caught⟩⟩
    · exact ⟨1,by decide,by decide +kernel,⟨Zc7 ER.k_NoName.ok,ER.s_NoName_PathError,ER.d_NoName,ER.v_NoName,.no ER.a_NoName_NoText ER.n_NoName_NoText,.yes ER.a_NoName_NoName,.no ER.a_NoName_NoPlace ER.n_NoName_NoPlace,.no ER.a_NoName_Twice ER.n_NoName_Twice,.no ER.a_NoName_Ring ER.n_NoName_Ring,.no ER.a_NoName_TooGreat ER.n_NoName_TooGreat,.no ER.a_NoName_Tangled ER.n_NoName_Tangled,.no ER.a_NoName_NoRow ER.n_NoName_NoRow,.no ER.a_NoName_Caught ER.n_NoName_Caught⟩⟩
    · exact ⟨2,by decide,by decide +kernel,⟨Zc7 ER.k_NoPlace.ok,ER.s_NoPlace_PathError,ER.d_NoPlace,ER.v_NoPlace,.no ER.a_NoPlace_NoText ER.n_NoPlace_NoText,.no ER.a_NoPlace_NoName ER.n_NoPlace_NoName,.yes ER.a_NoPlace_NoPlace,.no ER.a_NoPlace_Twice ER.n_NoPlace_Twice,.no ER.a_NoPlace_Ring ER.n_NoPlace_Ring,.no ER.a_NoPlace_TooGreat ER.n_NoPlace_TooGreat,.no ER.a_NoPlace_Tangled ER.n_NoPlace_Tangled,.no ER.a_NoPlace_NoRow ER.n_NoPlace_NoRow,.no ER.a_NoPlace_Caught ER.n_NoPlace_Caught⟩⟩
    · exact ⟨3,by decide,by decide +kernel,⟨Zc7 ER.k_Twice.ok,ER.s_Twice_PathError,ER.d_Twice,ER.v_Twice,.no ER.a_Twice_NoText ER.n_Twice_NoText,.no ER.a_Twice_NoName ER.n_Twice_NoName,.no ER.a_Twice_NoPlace ER.n_Twice_NoPlace,.yes ER.a_Twice_Twice,.no ER.a_Twice_Ring ER.n_Twice_Ring,.no ER.a_Twice_TooGreat ER.n_Twice_TooGreat,.no ER.a_Twice_Tangled ER.n_Twice_Tangled,.no ER.a_Twice_NoRow ER.n_Twice_NoRow,.no ER.a_Twice_Caught ER.n_Twice_Caught⟩⟩
    · exact ⟨4,by decide,by decide +kernel,⟨ER.xf_Ring,ER.s_Ring_PathError,ER.d_Ring,ER.v_Ring,.no ER.a_Ring_NoText ER.n_Ring_NoText,.no ER.a_Ring_NoName ER.n_Ring_NoName,.no ER.a_Ring_NoPlace ER.n_Ring_NoPlace,.no ER.a_Ring_Twice ER.n_Ring_Twice,.yes ER.a_Ring_Ring,.no ER.a_Ring_TooGreat ER.n_Ring_TooGreat,.no ER.a_Ring_Tangled ER.n_Ring_Tangled,.no ER.a_Ring_NoRow ER.n_Ring_NoRow,.no ER.a_Ring_Caught ER.n_Ring_Caught⟩⟩
   generalize clsA K c=C at F ⊢;refine ⟨C,rfl,F.xf,F.sp,fun ea hea=>?_⟩;obtain ⟨H1,qH1,s1,tX⟩:=new_at (o:=ExcO ea C dd) hea;rw [←qH1]
   have hd:∀ d',dd=some d'→∃ o,H1 d'=some o:=fun d' e=>by obtain ⟨o,h⟩:=hdd d' e;exact ⟨o,s1 _ _ h⟩
   refine ⟨_,rfl,?_⟩;refine ⟨_,rfl,_,rfl,ite2 (fun h=>absurd (Xa3 h) (by simp)) (fun _=>?_)⟩;refine ⟨_,rfl,ea,C,dd,_,_,(j == 0),rfl,(fun _ h=>h),tX,hd,F.d,F.a0.1,F.a0.2,_,rfl,ea,C,dd,_,_,(j == 1),rfl,(fun _ h=>h),tX,hd,F.d,F.a1.1,F.a1.2,_,rfl,ea,C,dd,_,_,(j == 2),rfl,(fun _ h=>h),tX,hd,F.d,F.a2.1,F.a2.2,show 3≤sizeLine by decide,fun l1 hl1=>?_⟩;obtain ⟨H2,qH2,tl1,el1⟩:=new_at (o:=.lst [.bl (j == 0),.bl (j == 1),.bl (j == 2)]) hl1;rw [←qH2];have tX:=tl1 _ _ tX
   have hd:∀ d',dd=some d'→∃ o,H2 d'=some o:=fun d' e=>by obtain ⟨o,h⟩:=hd d' e;exact ⟨o,tl1 _ _ h⟩
   refine g_in ?_;try dsimp only
   refine ⟨_,rfl,_,rfl,ea,C,dd,_,_,(j == 3),rfl,(fun _ h=>h),tX,hd,F.d,F.a3.1,F.a3.2,_,rfl,ea,C,dd,_,_,(j == 4),rfl,(fun _ h=>h),tX,hd,F.d,F.a4.1,F.a4.2,_,rfl,ea,C,dd,_,_,(j == 5),rfl,(fun _ h=>h),tX,hd,F.d,F.a5.1,F.a5.2,show 3≤sizeLine by decide,fun l2 hl2=>?_⟩;obtain ⟨H3,qH3,tl2,el2⟩:=new_at (o:=.lst [.bl (j == 3),.bl (j == 4),.bl (j == 5)]) hl2;rw [←qH3];have tX:=tl2 _ _ tX
   have hd:∀ d',dd=some d'→∃ o,H3 d'=some o:=fun d' e=>by obtain ⟨o,h⟩:=hd d' e;exact ⟨o,tl2 _ _ h⟩
   refine ⟨l1,l2,_,_,rfl,rfl,tl2 _ _ el1,el2,show 6≤sizeLine by decide,fun l3 hl3=>?_⟩;obtain ⟨H4,qH4,tl3,el3⟩:=new_at (o:=.lst ([.bl (j == 0),.bl (j == 1),.bl (j == 2)]++[.bl (j == 3),.bl (j == 4),.bl (j == 5)])) hl3;rw [←qH4];have el3:H4 l3=some (.lst ((bL j).map V.bl)):=el3;have tX:=tl3 _ _ tX
   have hd:∀ d',dd=some d'→∃ o,H4 d'=some o:=fun d' e=>by obtain ⟨o,h⟩:=hd d' e;exact ⟨o,tl3 _ _ h⟩
   have hdt:IsDts K H4 ((bL j).map V.bl) ((bL j).map Dt.bl):=.cons (.bl _) (.cons (.bl _) (.cons (.bl _) (.cons (.bl _) (.cons (.bl _) (.cons (.bl _) .nil)))))
   have hcm:∀ e∈(bL j).map Dt.bl,Cmp 0 e (Dt.bl true):=fun e he=>by
    obtain ⟨b,_,rfl⟩:=Xai.mp he;exact .bl _ _
   refine g_in ?_;try dsimp only
   refine ⟨_,rfl,ea,C,dd,_,_,false,rfl,(fun _ h=>h),tX,hd,F.d,F.t.1,F.t.2,_,rfl,iteF ?_⟩;refine ⟨_,rfl,ea,C,dd,_,_,false,rfl,(fun _ h=>h),tX,hd,F.d,F.r.1,F.r.2,_,rfl,iteF ?_⟩;refine ⟨_,rfl,ea,C,dd,_,_,false,rfl,(fun _ h=>h),tX,hd,F.d,F.c.1,F.c.2,_,rfl,iteF ?_⟩;refine ⟨_,rfl,ea,C,dd,_,_,true,rfl,(fun _ h=>h),tX,hd,F.d,F.v,fun _=>rfl,_,rfl,iteF ?_⟩;refine ⟨_,rfl,Or.inl ⟨rfl,_,SqL.of el3⟩,0,.bl true,_,l3,_,_,rfl,rfl,SqL.of el3,hdt,.bl _,hcm,by decide,?_⟩;rw [cnt6 hj];refine ⟨rfl,_,rfl,?_⟩;rw [show (!decide (V.int ((1:Nat):Int)=V.int 1))=false by decide];refine iteF ?_;refine ⟨show 6≤sizeLine by decide,fun l6 hl6=>?_⟩
   obtain ⟨H5,qH5,t6,e6⟩:=new_at (o:=.lst [.str "text",.str "name",.str "place",.str "twice",.str "ring",.str "great"]) hl6
   rw [←qH5];have e6:H5 l6=some (.lst (wL.map V.str)):=e6;refine ⟨_,rfl,Or.inl ⟨rfl,_,SqL.of (t6 _ _ el3)⟩,l3,_,0,.bl true,(bL j).map Dt.bl,_,j,rfl,rfl,hcm,by decide,.bl _,SqL.of (t6 _ _ el3),hdt.same t6,(ix6 hj).1,(ix6 hj).2,?_⟩;exact Or.inl ⟨l6,_,_,.str w,rfl,rfl,SqL.of e6,Zbw (by rw [Xag,ew];rfl),q w H5 ho (((((s0.trans s1).trans tl1).trans tl2).trans tl3).trans t6)⟩
variable (P w K mg base) in
abbrev Zcg:Prop:=Zbb P w K mg base "_law_outcome" 8 ["_law_thing"] (Zdf K)
theorem Zea (B:Blt mg) (ER:Ers K mg) (c_read_table:Zar P w K mg base "read_table" 7 ["text"] (ZbZ K)) (F:Fun K "_law_outcome" "_law_outcome" Zbm f fd) (hm:mg "_law_outcome" = some (.ref f)):Zcg P w K mg base :=
 ⟨f,fd,Zfc B ER c_read_table F,hm,F.kp,F.binds fun _ _ _ _ _ _ us hl=>(by obtain ⟨x0,rfl⟩:=ZcW hl;rfl)⟩
def ZdU (K:XFg):Sp:=fun vs H Q _=>∃ (l:Addr) (ds:List Str),vs=[.ref l]∧SqL K H l (ds.map V.str)∧∀ H',Same H H'→Q (.str (Zcz ds)) H'
theorem Zgw (B:Blt mg) (ER:Ers K mg)  (F:Fun K "_law_first" "_law_first" ZbE f fd):FnOk P w K mg base CX0 1 f fd ["_law_dues"] (ZdU K):=by
 refine F.ok sc__law_first (fun vs H Q E h=>?_) (fun cdv A outer s H vs Q E hr h=>?_)
 · obtain ⟨l,ds,rfl,_⟩:=h
   rfl
 · obtain ⟨l,ds,rfl,hL,q⟩:=h
   refine ⟨_,(Zad (ZbM Xbn rfl (ZaI (Zaz (Zaa Zal (Zaa Zal (Zaa Zal (Zaa Zal (Zaa Zal (Zaa Zal Zab)))))))) (Zam (i:=1) sc__law_first.nd) (Zah (ZaN (Zas ZgF (pv 1) (pv 0) (by with_unfolding_all rfl)) (Zah (ZaB (pv 1))) Zao)))
    (Zah (ZaB Zal))),?_⟩
   refine ⟨by decide,fun D hD=>?_⟩
   obtain ⟨H1,qH1,s1,eD⟩:=new_at (o:=.lst [.str "text",.str "great",.str "name",.str "place",.str "twice",.str "ring"]) hD
   rw [←qH1];have eD:H1 D=some (.lst (dueL.map V.str)):=eD;refine ⟨D,rfl,⟨_,SqL.of eD⟩,Za2 (xs:=dueL.map V.str) (fun i σ H'=>∃ u1,σ=[some (.ref l),u1]∧H'=H1∧∀ d∈dueL.take i,d ∉ ds) ⟨none,rfl,rfl,fun d hd=>by simp at hd⟩ (fun i σ H' _ ⟨_,_,e,_⟩=>by rw [e];exact SqL.of eD) ?_ ?_⟩
   · rintro i x σ H2 hx ⟨u1,rfl,rfl,hn⟩
     obtain ⟨d,hd,rfl⟩:=getm hx;refine ⟨_,rfl,_,rfl,_,_,rfl,Or.inl (s1.seq hL),rfl,by simp [List.all_map,ZfO],_,rfl,?_⟩;rw [Xa9 Xa7];refine ite2 (fun h1=>?_) (fun h1=>?_)
     · have hm:d∈ds:=inV_strs.mp h1
       refine ⟨_,rfl,?_⟩
       have e:Zcz ds=d:=by unfold Zcz;rw [Zg6 hn hd hm];rfl
       rw [←e];exact q _ s1
     · refine ⟨_,rfl,rfl,fun y hy=>?_⟩
       rw [Xar,hd] at hy
       rcases Xaf.mp hy with z | z
       · exact hn y z
       · have:y=d:=by simpa using z
         rw [this];exact fun hm=>h1 (inV_strs.mpr hm)
   · rintro σ H2 ⟨u1,rfl,rfl,hn⟩
     rw [Xaa,Xas] at hn
     have e:Zcz ds = "made" := by
      unfold Zcz;rw [List.find?_eq_none.mpr fun d hd=>by simpa using hn d hd];rfl
     rw [←e];exact q _ s1
variable (P w K mg base) in
abbrev ZcM:Prop:=Zbb P w K mg base "_law_first" 1 ["_law_dues"] (ZdU K)
theorem Zfd (B:Blt mg) (ER:Ers K mg)  (F:Fun K "_law_first" "_law_first" ZbE f fd) (hm:mg "_law_first" = some (.ref f)):ZcM P w K mg base :=
 ⟨f,fd,Zgw B ER  F,hm,F.kp,F.binds fun _ _ _ _ _ _ us hl=>(by obtain ⟨x0,rfl⟩:=ZcW hl;rfl)⟩
def LabW (ss:List WSt) (ps:List (Str×Str)) (x:Str):Prop:=(∃ s∈ss,(∃ g∈s.1,x=g.1)∨x∈s.2)∨∃ p∈ps,x=p.1∨x=p.2
def NmT (ss:List WSt) (ps:List (Str×Str)):Prop:=∀ x,LabW ss ps x→ZbU x=true
def PlW (ss:List WSt) (n:Str):Prop:=(0≤valW n∧valW n<ss.length)∧∀ s∈ss,∀ g∈s.1,0≤valW g.2∧valW g.2<ss.length
def TwW (ss:List WSt):Prop:=∀ s∈ss,(s.1.map (·.1)).Nodup∧s.2.Nodup
theorem c2_iff {ss : List WSt} {ps : List (Str × Str)} : C2 (ss.map conv) ps ↔ NmT ss ps := by
 unfold C2 NmT;refine forall_congr' fun x=>?_
 have e : x ∈ ZaH (ss.map conv) ++ ZbL ps ↔ LabW ss ps x := by
  unfold LabW;rw [Xaf];refine or_congr ?_ ?_
  · unfold ZaH
    rw [List.mem_flatMap]
    constructor
    · rintro ⟨s,hs,hx⟩
      obtain ⟨s0,h0,rfl⟩:=Xai.mp hs;refine ⟨s0,h0,?_⟩
      rcases Xaf.mp hx with z | z
      · left
        obtain ⟨g,hg,rfl⟩:=Xai.mp z;obtain ⟨g0,hg0,rfl⟩:=Xai.mp hg;exact ⟨g0,hg0,rfl⟩
      · exact .inr z
    · rintro ⟨s,hs,hx⟩
      refine ⟨conv s,List.mem_map_of_mem hs,Xaf.mpr ?_⟩
      rcases hx with ⟨g,hg,rfl⟩ | z
      · exact .inl (Xai.mpr ⟨(g.1,valW g.2),Xai.mpr ⟨g,hg,rfl⟩,rfl⟩)
      · exact .inr z
  · unfold ZbL
    rw [List.mem_flatMap]
    constructor
    · rintro ⟨p,hp,hx⟩
      exact ⟨p,hp,by simpa using hx⟩
    · rintro ⟨p,hp,hx⟩
      exact ⟨p,hp,by simpa using hx⟩
 rw [e]
theorem pl_iff {ss:List WSt}{n:Str} (h:ss≠[]):Zck (ss.map conv) (valW n)↔PlW ss n:=by
 unfold Zck PlW;rw [Xaa]
 constructor
 · rintro ⟨_,h1,h2⟩
   exact ⟨h1,fun s hs g hg=>h2 (conv s) (List.mem_map_of_mem hs) (g.1,valW g.2) (Xai.mpr ⟨g,hg,rfl⟩)⟩
 · rintro ⟨h1,h2⟩
   refine ⟨by simpa using h,h1,fun s hs g hg=>?_⟩;obtain ⟨s0,h0,rfl⟩:=Xai.mp hs;obtain ⟨g0,hg0,rfl⟩:=Xai.mp hg;exact h2 s0 h0 g0 hg0
theorem c4_iff {ss:List WSt}:C4 (ss.map conv)↔TwW ss:=by
 have e:∀ s:WSt,(conv s).1.map (·.1)=s.1.map (·.1):=fun s=>by unfold conv;rw [Xax];rfl
 constructor
 · intro h s hs
   have:=h (conv s) (List.mem_map_of_mem hs)
   rw [e] at this;exact this
 · intro h s hs
   obtain ⟨s0,h0,rfl⟩:=Xai.mp hs;rw [e];exact h s0 h0
theorem c1_of {ss:List WSt}{ps:List (Str×Str)} (h1:ss.length≤8) (h2:∀ s∈ss,s.1.length≤8∧s.2.length≤8) (h3:ps.length≤40):C1 (ss.map conv) ps :=
 ⟨⟨by rw [Xaa];exact h1,fun s hs=>by obtain ⟨s0,h0,rfl⟩:=Xai.mp hs;unfold conv;rw [Xaa];exact (h2 s0 h0).1,fun s hs=>by obtain ⟨s0,h0,rfl⟩:=Xai.mp hs;exact (h2 s0 h0).2⟩,h3⟩
theorem Zfe (ds:List Str):Zcz ds=if ("text" : Str)∈ds then "text" else if ("great" : Str)∈ds then "great" else if ("name" : Str)∈ds then "name" else if ("place" : Str)∈ds then "place" else if ("twice" : Str)∈ds then "twice" else if ("ring" : Str)∈ds then "ring" else "made" := by
 unfold Zcz dueL;simp only [XaP,List.find?_nil]
 repeat' split
 all_goals first | rfl | simp_all
structure Gr (a b c:Nat) (A:Str×Str→Prop) (B:Str→Prop) (C:Str×Str→Prop) (ss ss':List WSt) (ps ps':List (Str×Str)):Prop where
 len:ss'.length=ss.length
 up:∀ s∈ss,∃ s'∈ss',(∀ g∈s.1,g∈s'.1)∧∀ x∈s.2,x∈s'.2
 dn:∀ s'∈ss',∃ s∈ss,(∀ g∈s'.1,g∈s.1∨A g)∧(∀ x∈s'.2,x∈s.2∨B x)∧s'.1.length≤s.1.length+a∧s'.2.length≤s.2.length+b
 pu:∀ p∈ps,p∈ps'
 pd:∀ p∈ps',p∈ps∨C p
 pl:ps'.length≤ps.length+c
section
variable {a b c:Nat} {A:Str×Str→Prop} {B:Str→Prop} {C:Str×Str→Prop} {ss ss':List WSt} {ps ps':List (Str×Str)} {n:Str}
theorem Gr.set {i:Nat}{s s':WSt} (hi:ss[i]?=some s) (u1:∀ g∈s.1,g∈s'.1) (u2:∀ x∈s.2,x∈s'.2) (d1:∀ g∈s'.1,g∈s.1∨A g) (d2:∀ x∈s'.2,x∈s.2∨B x) (l1:s'.1.length≤s.1.length+a) (l2:s'.2.length≤s.2.length+b):Gr a b c A B C ss (ss.set i s') ps ps:=by
 have hl:=(Xae.mp hi).1;refine ⟨XaD,fun y hy=>?_,fun y hy=>?_,fun _ h=>h,fun _ h=>.inl h,Nat.le_add_right ..⟩
 · obtain ⟨j,hj⟩:=List.getElem?_of_mem hy
   by_cases e:i=j
   · subst e
     rw [hi] at hj;cases hj;exact ⟨s',Xah (List.getElem?_set_self hl),u1,u2⟩
   · exact ⟨y,Xah (by rw [List.getElem?_set_ne e];exact hj),fun _ h=>h,fun _ h=>h⟩
 · obtain ⟨j,hj⟩:=List.getElem?_of_mem hy
   rcases Zd1 hl hj with ⟨_,e⟩ | ⟨_,e⟩
   · rw [e];exact ⟨s,Xah hi,d1,d2,l1,l2⟩
   · exact ⟨y,Xah e,fun _ h=>.inl h,fun _ h=>.inl h,Nat.le_add_right ..,Nat.le_add_right ..⟩
theorem Gr.pairs (pu:∀ p∈ps,p∈ps') (pd:∀ p∈ps',p∈ps∨C p) (pl:ps'.length≤ps.length+c):Gr a b c A B C ss ss ps ps' :=
 ⟨rfl,fun s hs=>⟨s,hs,fun _ h=>h,fun _ h=>h⟩,fun s hs=>⟨s,hs,fun _ h=>.inl h,fun _ h=>.inl h,Nat.le_add_right ..,Nat.le_add_right ..⟩,pu,pd,pl⟩
theorem Gr.good (h:Gr a b c A B C ss ss' ps ps') (g:GoodT ss n ps) (ka:∀ x,A x→OkN x.1∧OkN x.2) (kb:∀ x,B x→OkN x) (kc:∀ x,C x→OkN x.1∧OkN x.2):GoodT ss' n ps':=by
 refine ⟨fun z=>?_,fun s' hs'=>?_,g.n,fun p hp=>?_⟩
 · have:=h.len
   rw [z] at this;exact g.ne (List.length_eq_zero_iff.mp this.symm)
 · obtain ⟨s,hs,d1,d2,_⟩:=h.dn s' hs'
   refine ⟨fun x hx=>?_,fun x hx=>?_⟩
   · rcases d1 x hx with z | z
     · exact (g.s s hs).g x z
     · exact ka x z
   · rcases d2 x hx with z | z
     · exact (g.s s hs).e x z
     · exact kb x z
 · rcases h.pd p hp with z | z
   · exact g.p p z
   · exact kc p z
theorem Gr.num (h:Gr a b c A B C ss ss' ps ps') (ka:∀ x,A x→NumW x.2):NumT ss' n↔NumT ss n:=by
 constructor
 · rintro ⟨h1,h2⟩
   refine ⟨fun s hs g hg=>?_,h2⟩;obtain ⟨s',hs',u1,_⟩:=h.up s hs;exact h1 s' hs' g (u1 g hg)
 · rintro ⟨h1,h2⟩
   refine ⟨fun s' hs' g hg=>?_,h2⟩;obtain ⟨s,hs,d1,_⟩:=h.dn s' hs'
   rcases d1 g hg with z | z
   · exact h1 s hs g z
   · exact ka g z
theorem Gr.lab (h:Gr a b c A B C ss ss' ps ps') {x:Str} (hx:LabW ss ps x):LabW ss' ps' x:=by
 rcases hx with ⟨s,hs,hx⟩ | ⟨p,hp,hx⟩
 · obtain ⟨s',hs',u1,u2⟩:=h.up s hs
   rcases hx with ⟨g,hg,e⟩ | hx
   · exact .inl ⟨s',hs',.inl ⟨g,u1 g hg,e⟩⟩
   · exact .inl ⟨s',hs',.inr (u2 x hx)⟩
 · exact .inr ⟨p,h.pu p hp,hx⟩
theorem Gr.nm_no (h:Gr a b c A B C ss ss' ps ps') (k:¬NmT ss ps):¬NmT ss' ps':=fun z=>k fun x hx=>z x (h.lab hx)
theorem Gr.nm_yes (h:Gr a b c A B C ss ss' ps ps') (ka:∀ x,A x→ZbU x.1=true) (kb:∀ x,B x→ZbU x=true) (kc:∀ x,C x→ZbU x.1=true∧ZbU x.2=true) (k:NmT ss ps):NmT ss' ps':=fun x hx=>by
 rcases hx with ⟨s',hs',hx⟩ | ⟨p,hp,hx⟩
 · obtain ⟨s,hs,d1,d2,_⟩:=h.dn s' hs'
   rcases hx with ⟨g,hg,e⟩ | hx
   · rcases d1 g hg with z | z
     · exact k x (.inl ⟨s,hs,.inl ⟨g,z,e⟩⟩)
     · rw [e];exact ka g z
   · rcases d2 x hx with z | z
     · exact k x (.inl ⟨s,hs,.inr z⟩)
     · exact kb x z
 · rcases h.pd p hp with z | z
   · exact k x (.inr ⟨p,z,hx⟩)
   · rcases hx with e | e
     · rw [e];exact (kc p z).1
     · rw [e];exact (kc p z).2
theorem Gr.plc (h:Gr a b c A B C ss ss' ps ps') (hn:ss≠[]) (ka:∀ x,A x→valW x.2=0):PlW ss' n↔PlW ss n:=by
 have hl:=List.length_pos_iff.mpr hn;unfold PlW;rw [h.len];refine and_congr_right fun _=>?_
 constructor
 · intro h1 s hs g hg
   obtain ⟨s',hs',u1,_⟩:=h.up s hs;exact h1 s' hs' g (u1 g hg)
 · intro h1 s' hs' g hg
   obtain ⟨s,hs,d1,_⟩:=h.dn s' hs'
   rcases d1 g hg with z | z
   · exact h1 s hs g z
   · rw [ka g z];omega
end
structure Sta (x y z:Nat) (ss:List WSt) (n:Str) (ps:List (Str×Str)) (ds:List Str):Prop where
 gd:GoodT ss n ps
 l4:ss.length≤4
 sz:∀ s∈ss,s.1.length≤x∧s.2.length≤y
 pz:ps.length≤z
 tx:("text" : Str)∈ds↔¬NumT ss n
 nm:("name" : Str)∈ds↔¬NmT ss ps
 pl:("place" : Str)∈ds→¬PlW ss n
 pl':("place" : Str) ∉ ds→NumT ss n→PlW ss n
 tw:("twice" : Str)∈ds→¬TwW ss
 tw':("twice" : Str) ∉ ds→("name" : Str) ∉ ds→TwW ss
 rg:("ring" : Str)∈ds→¬C5 ps
 rg':("ring" : Str) ∉ ds→("name" : Str) ∉ ds→C5 ps
 gr:("great" : Str) ∉ ds
theorem Sta.out {x y z:Nat}{ss:List WSt}{n:Str}{ps:List (Str×Str)} {ds:List Str} (h:Sta x y z ss n ps ds) (hx:x≤8) (hy:y≤8) (hz:z≤40):OutT (wT ss n ps) (Zcz ds):=by
 rw [Zfe]
 by_cases t:("text" : Str)∈ds
 · rw [Xba t];exact .inr ⟨rd_no h.gd (h.tx.mp t),rfl⟩
 have N:NumT ss n:=Classical.not_not.mp fun z=>t (h.tx.mpr z);have c1:C1 (ss.map conv) ps:=c1_of (Xbc h.l4 (by decide)) (fun s hs=>⟨Xbc (h.sz s hs).1 hx,Xbc (h.sz s hs).2 hy⟩) (Xbc h.pz hz);rw [Xa9 t,Xa9 h.gr];refine .inl ⟨_,_,_,rd_yes h.gd N,?_⟩
 by_cases nm:("name" : Str)∈ds
 · rw [Xba nm];exact .inr (.inl ⟨c1,fun k=>h.nm.mp nm (c2_iff.mp k),rfl⟩)
 have c2:C2 (ss.map conv) ps:=c2_iff.mpr (Classical.not_not.mp fun z=>nm (h.nm.mpr z));rw [Xa9 nm]
 by_cases p:("place" : Str)∈ds
 · rw [Xba p];exact .inr (.inr (.inl ⟨c1,c2,fun k=>h.pl p ((pl_iff h.gd.ne).mp k),rfl⟩))
 have c3:=(pl_iff h.gd.ne).mpr (h.pl' p N);rw [Xa9 p]
 by_cases w:("twice" : Str)∈ds
 · rw [Xba w];exact .inr (.inr (.inr (.inl ⟨c1,c2,c3,fun k=>h.tw w (c4_iff.mp k),rfl⟩)))
 have c4:=c4_iff.mpr (h.tw' w nm);rw [Xa9 w]
 by_cases r:("ring" : Str)∈ds
 · rw [Xba r];exact .inr (.inr (.inr (.inr (.inl ⟨c1,c2,c3,c4,h.rg r,rfl⟩))))
 · rw [Xa9 r];exact .inr (.inr (.inr (.inr (.inr ⟨c1,c2,c3,c4,h.rg' r nm,rfl⟩))))
theorem ZdV {ss:List WSt}{n:Str}{ps:List (Str×Str)} {ds:List Str} (gd:GoodT ss n ps) (tx:("text" : Str)∈ds↔¬NumT ss n) (hg:("great" : Str)∈ds) (n1:¬C1 (ss.map conv) ps):OutT (wT ss n ps) (Zcz ds):=by
 rw [Zfe]
 by_cases t:("text" : Str)∈ds
 · rw [Xba t];exact .inr ⟨rd_no gd (tx.mp t),rfl⟩
 rw [Xa9 t,Xba hg];exact .inl ⟨_,_,_,rd_yes gd (Classical.not_not.mp fun z=>t (tx.mpr z)),.inl ⟨n1,rfl⟩⟩
theorem ZaS {ds:List Str}{d e:Str} (h:d≠e):d∈ds++[e]↔d∈ds:=by
 rw [Xaf,Xaj];exact ⟨fun z=>z.resolve_right h,.inl⟩
theorem Zch {ds:List Str}{d:Str}:d∈ds++[d]:=by simp
theorem Zgx {n:Int} (h0:0≤n) (h1:n<10000):OkN (nS n):=by
 have N:=(Zei h0 h1).1
 have sg:∀ x∈sgL,∃ c∈x.cps.toList,¬(48≤c∧c≤57):=by decide +kernel
 refine ⟨fun z=>?_,fun z=>?_,Xbc N.l4 (by decide)⟩
 · obtain ⟨c,hc,k⟩:=sg _ z
   exact k (N.d c hc)
 · have:=N.d _ z;omega
theorem Zdo {x:Str} (h:ZbU x=true):OkN x:=by
 unfold ZbU at h;simp only [Bool.and_eq_true,decide_eq_true_eq,List.all_eq_true] at h
 have hc:∀ c∈x.cps.toList,97≤c∧c≤122:=fun c hc=>by
  have:=h.2.2 c hc
  unfold Zgp at this
  simpa using this
 have sg:∀ x∈sgL,∃ c∈x.cps.toList,¬(97≤c∧c≤122):=by decide +kernel
 refine ⟨fun z=>?_,fun z=>?_,by omega⟩
 · obtain ⟨c,hm,k⟩:=sg _ z
   exact k (hc c hm)
 · have:=hc _ z;omega
theorem Zk8 {x:Str} (h:LowS x):ZbU x=true:=by
 unfold ZbU;simp only [Bool.and_eq_true,decide_eq_true_eq,List.all_eq_true];refine ⟨h.1,h.2.1,fun c hc=>?_⟩
 have:=h.2.2 c hc
 unfold Zgp
 simpa using this
theorem Zkx {m:Int}{w d:Str} (F:FigD m w d):OkN w:=by
 rcases F with ⟨hw,_⟩ | ⟨n,h0,h1,rfl,_⟩
 · obtain ⟨_,a,b,c⟩:=Zkt w hw
   exact ⟨a,b,c⟩
 · exact Zgx h0 h1
theorem Sta.num {x y z:Nat}{ss ss':List WSt}{n n':Str}{ps:List (Str×Str)} {w d:Str} (h:Sta x y z ss n ps []) (F:FigD ss.length w d) (gd:GoodT ss' n' ps) (hl:ss'.length=ss.length) (sz:∀ s∈ss',s.1.length≤x∧s.2.length≤y) (hN:NumT ss' n'↔NumW w) (hP:PlW ss' n'↔0≤valW w∧valW w<ss.length) (hL:∀ v,LabW ss' ps v↔LabW ss ps v) (hT:TwW ss'↔TwW ss):Sta x y z ss' n' ps [d]:=by
 have no:∀ v:Str,v ∉ ([]:List Str):=fun v hv=>by cases hv
 have nm:NmT ss' ps↔NmT ss ps:=forall_congr' fun v=>by rw [hL v]
 have N0:NmT ss ps:=Classical.not_not.mp fun q=>no _ (h.nm.mpr q);have T0:TwW ss:=h.tw' (no _) (no _);have R0:C5 ps:=h.rg' (no _) (no _)
 have base:∀ e:Str,e ≠ "name" → e ≠ "twice" → e ≠ "ring" → e ≠ "great" → (("text" : Str)∈[e]↔¬NumT ss' n')→(("place" : Str)∈[e]→¬PlW ss' n')→(("place" : Str) ∉ [e]→NumT ss' n'→PlW ss' n')→Sta x y z ss' n' ps [e]:=fun e e1 e2 e3 e4 k1 k2 k3 =>
  ⟨gd,by rw [hl];exact h.l4,sz,h.pz,k1,⟨fun q=>absurd (Xaj.mp q).symm e1,fun q=>absurd (nm.mpr N0) q⟩,k2,k3,fun q=>absurd (Xaj.mp q).symm e2,fun _ _=>hT.mpr T0,fun q=>absurd (Xaj.mp q).symm e3,fun _ _=>R0,fun q=>e4 (Xaj.mp q).symm⟩
 rcases F with ⟨hw,rfl⟩ | ⟨k,k0,k1,rfl,⟨k2,rfl⟩ | ⟨k2,rfl⟩⟩
 · have nN:¬NumT ss' n':=fun q=>numB_of (Zkt w hw).1 (hN.mp q)
   exact base "text" (by decide +kernel) (by decide +kernel) (by decide +kernel) (by decide +kernel) ⟨fun _=>nN,fun _=>by simp⟩ (fun q=>absurd (Xaj.mp q) (by decide +kernel)) fun _ q=>absurd q nN
 · have N:=Zei k0 k1
   have v:=Zd3 N;have P:PlW ss' n':=hP.mpr (by rw [v];exact ⟨k0,k2⟩)
   exact base "made" (by decide +kernel) (by decide +kernel) (by decide +kernel) (by decide +kernel) ⟨fun q=>absurd (Xaj.mp q) (by decide +kernel),fun q=>absurd (hN.mpr N.1) q⟩ (fun q=>absurd (Xaj.mp q) (by decide +kernel)) fun _ _=>P
 · have N:=Zei k0 k1
   have v:=Zd3 N
   have P:¬PlW ss' n':=fun q=>by have:=(hP.mp q).2;rw [v] at this;omega
   exact base "place" (by decide +kernel) (by decide +kernel) (by decide +kernel) (by decide +kernel) ⟨fun q=>absurd (Xaj.mp q) (by decide +kernel),fun q=>absurd (hN.mpr N.1) q⟩ (fun _=>P) fun q=>absurd (Xaj.mpr rfl) q
theorem Sta.numA {x y z:Nat}{ss:List WSt}{n:Str}{ps:List (Str×Str)} {w d:Str} (h:Sta x y z ss n ps []) (F:FigD ss.length w d):Sta x y z ss w ps [d]:=by
 have no:∀ v:Str,v ∉ ([]:List Str):=fun v hv=>by cases hv
 have N:NumT ss n:=Classical.not_not.mp fun q=>no _ (h.tx.mpr q);have P:=h.pl' (no _) N;exact h.num F ⟨h.gd.ne,h.gd.s,Zkx F,h.gd.p⟩ rfl h.sz ⟨fun q=>q.2,fun q=>⟨N.1,q⟩⟩ ⟨fun q=>q.1,fun q=>⟨q,P.2⟩⟩ (fun _=>Iff.rfl) Iff.rfl
theorem Sta.numB {x y z:Nat}{ss:List WSt}{n:Str}{ps:List (Str×Str)} {w d:Str} {i j:Nat} {s:WSt} {p:Str×Str} (h:Sta x y z ss n ps []) (F:FigD ss.length w d) (hi:ss[i]?=some s) (hj:s.1[j]?=some p):Sta x y z (ss.set i (s.1.set j (p.1,w),s.2)) n ps [d]:=by
 have no:∀ v:Str,v ∉ ([]:List Str):=fun v hv=>by cases hv
 have N:NumT ss n:=Classical.not_not.mp fun q=>no _ (h.tx.mpr q);have P:=h.pl' (no _) N;have hl:=(Xae.mp hi).1;have hlj:=(Xae.mp hj).1;have hm:=Xah hi;have hmp:=Xah hj;have new:(s.1.set j (p.1,w),s.2)∈ss.set i (s.1.set j (p.1,w),s.2):=Xah (List.getElem?_set_self hl);have newg:(p.1,w)∈s.1.set j (p.1,w):=Xah (List.getElem?_set_self hlj)
 have mem:∀ s',s'∈ss.set i (s.1.set j (p.1,w),s.2)→s'=(s.1.set j (p.1,w),s.2)∨s'∈ss:=fun s' hs=>by
  obtain ⟨k,hk⟩:=List.getElem?_of_mem hs
  rcases Zd1 hl hk with ⟨_,e⟩ | ⟨_,e⟩
  · exact .inl e
  · exact .inr (Xah e)
 have memg:∀ g,g∈s.1.set j (p.1,w)→g=(p.1,w)∨g∈s.1:=fun g hg=>by
  obtain ⟨k,hk⟩:=List.getElem?_of_mem hg
  rcases Zd1 hlj hk with ⟨_,e⟩ | ⟨_,e⟩
  · exact .inl e
  · exact .inr (Xah e)
 have fst:(s.1.set j (p.1,w)).map (·.1)=s.1.map (·.1):=Zix hj rfl
 have back:∀ s'∈ss,s'=s∨s'∈ss.set i (s.1.set j (p.1,w),s.2):=fun s' hs=>by
  obtain ⟨k,hk⟩:=List.getElem?_of_mem hs
  by_cases e:i=k
  · subst e;rw [hi] at hk;cases hk;exact .inl rfl
  · exact .inr (Xah (by rw [List.getElem?_set_ne e];exact hk))
 refine h.num F ⟨fun z=>?_,fun s' hs=>?_,h.gd.n,h.gd.p⟩ XaD (fun s' hs=>?_) ⟨fun q=>q.1 _ new _ newg,fun q=>⟨fun s' hs g hg=>?_,N.2⟩⟩ ?_ (fun v=>?_) ⟨fun q s' hs=>?_,fun q s' hs=>?_⟩
 · have:=Xbf List.length z
   rw [XaD] at this;exact h.gd.ne (List.length_eq_zero_iff.mp this)
 · rcases mem s' hs with e | e
   · rw [e]
     refine ⟨fun g hg=>?_,(h.gd.s s hm).e⟩
     rcases memg g hg with z | z
     · rw [z];exact ⟨((h.gd.s s hm).g p hmp).1,Zkx F⟩
     · exact (h.gd.s s hm).g g z
   · exact h.gd.s s' e
 · rcases mem s' hs with e | e
   · rw [e];show (s.1.set j (p.1,w)).length≤x∧_;rw [XaD];exact h.sz s hm
   · exact h.sz s' e
 · rcases mem s' hs with e | e
   · rw [e] at hg
     rcases memg g hg with z | z
     · rw [z];exact q
     · exact N.1 s hm g z
   · exact N.1 s' e g hg
 · unfold PlW
   rw [XaD];refine ⟨fun q=>q.2 _ new _ newg,fun q=>⟨P.1,fun s' hs g hg=>?_⟩⟩
   rcases mem s' hs with e | e
   · rw [e] at hg
     rcases memg g hg with z | z
     · rw [z];exact q
     · exact P.2 s hm g z
   · exact P.2 s' e g hg
 · have fm:∀ v,(∃ g∈s.1.set j (p.1,w),v=g.1)↔∃ g∈s.1,v=g.1:=fun v=>by
    have e:v∈(s.1.set j (p.1,w)).map (·.1)↔v∈s.1.map (·.1):=by rw [fst]
    rw [Xai,Xai] at e
    constructor
    · rintro ⟨g,hg,q⟩
      obtain ⟨g',h1,h2⟩:=e.mp ⟨g,hg,q.symm⟩;exact ⟨g',h1,h2.symm⟩
    · rintro ⟨g,hg,q⟩
      obtain ⟨g',h1,h2⟩:=e.mpr ⟨g,hg,q.symm⟩;exact ⟨g',h1,h2.symm⟩
   unfold LabW;refine or_congr_left ⟨?_,?_⟩
   · rintro ⟨s',hs,hx⟩
     rcases mem s' hs with e | e
     · rw [e] at hx
       exact ⟨s,hm,hx.imp_left (fm v).mp⟩
     · exact ⟨s',e,hx⟩
   · rintro ⟨s',hs,hx⟩
     rcases back s' hs with e | e
     · rw [e] at hx
       exact ⟨_,new,hx.imp_left (fm v).mpr⟩
     · exact ⟨s',e,hx⟩
 · rcases back s' hs with e | e
   · rw [e]
     have:=q _ new
     simp only [fst] at this;exact this
   · exact q s' e
 · rcases mem s' hs with e | e
   · rw [e]
     show ((s.1.set j (p.1,w)).map (·.1)).Nodup∧_;rw [fst];exact q s hm
   · exact q s' e
theorem num_0:NumW "0" ∧ valW "0" = 0∧OkN "0" := by
 have e:nS 0 = "0" := by decide +kernel
 have N:=Zei (n:=0) (by decide) (by decide);rw [e] at N;exact ⟨N.1,Zd3 N,by rw [←e];exact Zgx (by decide) (by decide)⟩
theorem okn_z:OkN "z" ∧ ZbU "twice" = true∧OkN "twice" := by
 have h:ZbU "z" = true∧ZbU "twice" = true:=by decide +kernel
 exact ⟨Zdo h.1,h.2,Zdo h.2⟩
theorem badW_no:∀ w∈badW,ZbU w=false:=by decide +kernel
theorem Sta.named {x y z:Nat}{ss ss':List WSt}{n:Str}{ps ps':List (Str×Str)} {ds:List Str} (h:Sta x y z ss n ps ds) (D:NamedD ss ps ss' ps') (hr:("ring" : Str) ∉ ds) (ht:("twice" : Str) ∉ ds):Sta (x+1) (y+1) (z+1) ss' n ps' (ds++[("name" : Str)]):=by
 obtain ⟨w,hw,D⟩:=D;obtain ⟨o1,o2,o3⟩:=badW_ok w hw;have ow:OkN w:=⟨o1,o2,o3⟩
 have G:Gr 1 1 1 (fun g=>g=(w,("0" : Str))) (fun e=>e=w) (fun p=>p=(("z" : Str),w)∨p=(w,("z" : Str))) ss ss' ps ps'∧LabW ss' ps' w:=by
  rcases D with ⟨i,s,hi,rfl,rfl | rfl⟩ | ⟨rfl,rfl | rfl⟩
  · have hl:=(Xae.mp hi).1
    refine ⟨Gr.set hi (fun g hg=>XaA _ hg) (fun _ h=>h) (fun g hg=>?_) (fun _ h=>.inl h) (by rw [Xac];exact XaS _) (Nat.le_add_right ..),.inl ⟨_,Xah (List.getElem?_set_self hl),.inl ⟨(w, "0"),by simp,rfl⟩⟩⟩
    rcases Xaf.mp hg with q | q
    · exact .inl q
    · exact .inr (Xaj.mp q)
  · have hl:=(Xae.mp hi).1
    refine ⟨Gr.set hi (fun _ h=>h) (fun x hx=>Xap _ hx) (fun _ h=>.inl h) (fun x hx=>?_) (Nat.le_add_right ..) (by rw [XaB];exact XaS _),.inl ⟨_,Xah (List.getElem?_set_self hl),.inr (by simp)⟩⟩
    rcases Xam.mp hx with q | q
    · exact .inr q
    · exact .inl q
  · exact ⟨Gr.pairs (fun p hp=>XaA _ hp) (fun p hp=>(Xaf.mp hp).imp id fun q=>.inl (Xaj.mp q)) (by rw [Xac];exact XaS _),.inr ⟨(("z" : Str),w),by simp,.inr rfl⟩⟩
  · exact ⟨Gr.pairs (fun p hp=>XaA _ hp) (fun p hp=>(Xaf.mp hp).imp id fun q=>.inr (Xaj.mp q)) (by rw [Xac];exact XaS _),.inr ⟨(w,("z" : Str)),by simp,.inl rfl⟩⟩
 obtain ⟨G,L⟩:=G
 have gd:=G.good h.gd (fun v hv=>by rw [hv];exact ⟨ow,num_0.2.2⟩) (fun v hv=>by rw [hv];exact ow) (fun v hv=>by rcases hv with hv | hv <;> rw [hv];exact ⟨okn_z.1,ow⟩;exact ⟨ow,okn_z.1⟩)
 have hN:NumT ss' n↔NumT ss n:=G.num fun v hv=>by rw [hv];exact num_0.1
 have hP:PlW ss' n↔PlW ss n:=G.plc h.gd.ne fun v hv=>by rw [hv];exact num_0.2.1
 refine ⟨gd,by rw [G.len];exact h.l4,fun s' hs=>?_,Xbc G.pl (Nat.add_le_add_right h.pz 1),?_,⟨fun _ q=>?_,fun _=>Zch⟩,fun q=>?_,fun q k=>?_,fun q=>absurd ((ZaS (by decide +kernel)).mp q) ht,fun _ q=>absurd Zch q,fun q=>absurd ((ZaS (by decide +kernel)).mp q) hr,fun _ q=>absurd Zch q,fun q=>h.gr ((ZaS (by decide +kernel)).mp q)⟩
 · obtain ⟨s,hs,_,_,l1,l2⟩:=G.dn s' hs
   have:=h.sz s hs
   omega
 · rw [ZaS (by decide +kernel),hN];exact h.tx
 · have:=q w L
   rw [badW_no w hw] at this;cases this
 · rw [hP];exact h.pl ((ZaS (by decide +kernel)).mp q)
 · exact hP.mpr (h.pl' (fun z=>q ((ZaS (by decide +kernel)).mpr z)) (hN.mp k))
theorem Sta.twice {x y z:Nat}{ss:List WSt}{n:Str}{ps:List (Str×Str)} {ds:List Str} {i:Nat} {s:WSt} (h:Sta x y z ss n ps ds) (hi:ss[i]?=some s):Sta x (y+2) z (ss.set i (s.1,("twice" : Str) :: (s.2++[("twice" : Str)]))) n ps (ds++[("twice" : Str)]):=by
 have hl:=(Xae.mp hi).1
 have new:=Xah (List.getElem?_set_self (a:=(s.1,("twice" : Str) :: (s.2++[("twice" : Str)]))) hl)
 have G:Gr 0 2 0 (fun _=>False) (fun e=>e = "twice") (fun _=>False) ss (ss.set i (s.1,("twice" : Str) :: (s.2++[("twice" : Str)]))) ps ps:=by
  refine Gr.set hi (fun _ h=>h) (fun x hx=>Xap _ (XaA _ hx)) (fun _ h=>.inl h) (fun x hx=>?_) (XaS _) (by show (s.2++[("twice" : Str)]).length+1≤_;rw [Xac];exact XaS _)
  rcases Xam.mp hx with q | q
  · exact .inr q
  · rcases Xaf.mp q with q | q
    · exact .inl q
    · exact .inr (Xaj.mp q)
 have gd:=G.good h.gd (fun v hv=>hv.elim) (fun v hv=>by rw [hv];exact okn_z.2.2) (fun v hv=>hv.elim);have hN:NumT _ n↔NumT ss n:=G.num fun v hv=>hv.elim;have hP:PlW _ n↔PlW ss n:=G.plc h.gd.ne fun v hv=>hv.elim
 have nd:¬TwW (ss.set i (s.1,("twice" : Str) :: (s.2++[("twice" : Str)]))):=fun q=>by
  have:=(XaC.mp (q _ new).2).1
  exact this (by simp)
 have nn:("name" : Str)∈ds++[("twice" : Str)]↔("name" : Str)∈ds:=ZaS (by decide +kernel)
 have hnm:NmT (ss.set i (s.1,("twice" : Str) :: (s.2++[("twice" : Str)]))) ps↔NmT ss ps:=⟨fun q=>Classical.byContradiction fun k=>G.nm_no k q,fun q=>G.nm_yes (fun v hv=>hv.elim) (fun v hv=>by rw [hv];exact okn_z.2.1) (fun v hv=>hv.elim) q⟩
 refine ⟨gd,by rw [G.len];exact h.l4,fun s' hs=>?_,h.pz,?_,?_,fun q=>?_,fun q k=>?_,fun _=>nd,fun q=>absurd Zch q,fun q=>h.rg ((ZaS (by decide +kernel)).mp q),fun q k=>h.rg' (fun z=>q ((ZaS (by decide +kernel)).mpr z)) (fun z=>k (nn.mpr z)),fun q=>h.gr ((ZaS (by decide +kernel)).mp q)⟩
 · obtain ⟨s0,hs0,_,_,l1,l2⟩:=G.dn s' hs
   have:=h.sz s0 hs0
   omega
 · rw [ZaS (by decide +kernel),hN];exact h.tx
 · rw [nn,hnm];exact h.nm
 · rw [hP];exact h.pl ((ZaS (by decide +kernel)).mp q)
 · exact hP.mpr (h.pl' (fun z=>q ((ZaS (by decide +kernel)).mpr z)) (hN.mp k))
theorem Sta.ring {x y z:Nat}{ss:List WSt}{n l:Str}{ps:List (Str×Str)} {ds:List Str} (h:Sta x y z ss n ps ds) (hl:ZbU l=true):Sta x y (z+1) ss n ((l,l) :: ps) (ds++[("ring" : Str)]):=by
 have G:Gr 0 0 1 (fun _=>False) (fun _=>False) (fun p=>p=(l,l)) ss ss ps ((l,l) :: ps):=Gr.pairs (fun p hp=>Xap _ hp) (fun p hp=>(Xam.mp hp).symm) (by rw [XaB];exact XaS _);have gd:=G.good h.gd (fun v hv=>hv.elim) (fun v hv=>hv.elim) (fun v hv=>by rw [hv];exact ⟨Zdo hl,Zdo hl⟩)
 have nn:("name" : Str)∈ds++[("ring" : Str)]↔("name" : Str)∈ds:=ZaS (by decide +kernel)
 have hnm:NmT ss ((l,l) :: ps)↔NmT ss ps:=⟨fun q=>Classical.byContradiction fun k=>G.nm_no k q,fun q=>G.nm_yes (fun v hv=>hv.elim) (fun v hv=>hv.elim) (fun v hv=>by rw [hv];exact ⟨hl,hl⟩) q⟩;refine ⟨gd,h.l4,h.sz,Nat.add_le_add_right h.pz 1,?_,?_,fun q=>h.pl ((ZaS (by decide +kernel)).mp q),fun q=>h.pl' fun z=>q ((ZaS (by decide +kernel)).mpr z),fun q=>h.tw ((ZaS (by decide +kernel)).mp q),fun q k=>h.tw' (fun z=>q ((ZaS (by decide +kernel)).mpr z)) (fun z=>k (nn.mpr z)),fun _ q=>q l (.one Xal),fun q=>absurd Zch q,fun q=>h.gr ((ZaS (by decide +kernel)).mp q)⟩
 · rw [ZaS (by decide +kernel)];exact h.tx
 · rw [nn,hnm];exact h.nm
theorem Zex:∀ l∈moreL,OkN l:=by
 have:∀ l∈moreL,ZbU l=true:=by decide +kernel
 exact fun l hl=>Zdo (this l hl)
theorem Sta.more {x y z:Nat}{ss ss':List WSt}{n:Str}{ps ps':List (Str×Str)} {ds:List Str} (h:Sta x y z ss n ps ds) (D:MoreD ss ps ss' ps'):GoodT ss' n ps'∧OutT (wT ss' n ps') (Zcz (ds++[("great" : Str)]))∧ss'.length≤9∧(∀ s∈ss',s.1.length≤x+9∧s.2.length≤y+9)∧ps'.length≤z+41:=by
 have tx:∀ {ss':List WSt},(NumT ss' n↔NumT ss n)→(("text" : Str)∈ds++[("great" : Str)]↔¬NumT ss' n):=fun {ss'} hN=>by rw [ZaS (by decide +kernel),hN];exact h.tx
 rcases D with ⟨rfl,rfl⟩ | ⟨i,s,hi,rfl,rfl | rfl⟩ | ⟨rfl,rfl⟩
 · have hl4:=h.l4
   have mem:∀ s∈ss++List.replicate (9 - ss.length) (([],[]):WSt),s∈ss∨s=([],[]):=fun s hs=>(Xaf.mp hs).imp id fun q=>(List.mem_replicate.mp q).2
   have gd:GoodT (ss++List.replicate (9 - ss.length) (([],[]):WSt)) n ps':=⟨fun q=>h.gd.ne (List.append_eq_nil_iff.mp q).1,fun s hs=>by
    rcases mem s hs with q | q
    · exact h.gd.s s q
    · rw [q];exact ⟨fun g hg=>by simp at hg,fun g hg=>by simp at hg⟩,h.gd.n,h.gd.p⟩
   refine ⟨gd,ZdV gd (tx ⟨fun q=>⟨fun s hs=>q.1 s (XaA _ hs),q.2⟩,fun q=>⟨fun s hs g hg=>?_,q.2⟩⟩) Zch (fun q=>?_),?_,fun s hs=>?_,Xbc h.pz (Nat.le_add_right ..)⟩
   · rcases mem s hs with k | k
     · exact q.1 s k g hg
     · rw [k] at hg;simp at hg
   · have:=q.1.n
     rw [Xaa,Xac,List.length_replicate] at this;omega
   · rw [Xac,List.length_replicate];omega
   · rcases mem s hs with k | k
     · have:=h.sz s k;omega
     · rw [k];exact ⟨XaW _,XaW _⟩
 · have hl:=(Xae.mp hi).1
   have new:=Xah (List.getElem?_set_self (a:=(s.1++moreL.map fun l=>(l,("0" : Str)),s.2)) hl)
   have G:Gr 9 0 0 (fun g=>g.1∈moreL∧g.2 = "0") (fun _=>False) (fun _=>False) ss (ss.set i (s.1++moreL.map fun l=>(l,("0" : Str)),s.2)) ps' ps':=by
    refine Gr.set hi (fun g hg=>XaA _ hg) (fun _ h=>h) (fun g hg=>?_) (fun _ h=>.inl h) (by rw [Xac,Xaa];exact XaS _) (XaS _)
    rcases Xaf.mp hg with q | q
    · exact .inl q
    · obtain ⟨l,hl,rfl⟩:=Xai.mp q
      exact .inr ⟨hl,rfl⟩
   have gd:=G.good h.gd (fun v hv=>⟨Zex _ hv.1,by rw [hv.2];exact num_0.2.2⟩) (fun v hv=>hv.elim) (fun v hv=>hv.elim);refine ⟨gd,ZdV gd (tx (G.num fun v hv=>by rw [hv.2];exact num_0.1)) Zch (fun q=>?_),by rw [G.len];exact Xbc h.l4 (by decide),fun s' hs=>?_,Xbc h.pz (Nat.le_add_right ..)⟩
   · have:=q.1.gs (conv _) (List.mem_map_of_mem new)
     unfold conv at this;rw [Xaa,Xac,Xaa] at this;have e:moreL.length=9:=rfl;omega
   · obtain ⟨s0,hs0,_,_,l1,l2⟩:=G.dn s' hs
     have:=h.sz s0 hs0
     omega
 · have hl:=(Xae.mp hi).1
   have new:=Xah (List.getElem?_set_self (a:=(s.1,s.2++moreL)) hl)
   have G:Gr 0 9 0 (fun _=>False) (fun x=>x∈moreL) (fun _=>False) ss (ss.set i (s.1,s.2++moreL)) ps' ps' :=
    Gr.set hi (fun _ h=>h) (fun g hg=>XaA _ hg) (fun _ h=>.inl h) (fun x hx=>Xaf.mp hx) (XaS _) (by rw [Xac];exact XaS _)
   have gd:=G.good h.gd (fun v hv=>hv.elim) (fun v hv=>Zex v hv) (fun v hv=>hv.elim);refine ⟨gd,ZdV gd (tx (G.num fun v hv=>hv.elim)) Zch (fun q=>?_),by rw [G.len];exact Xbc h.l4 (by decide),fun s' hs=>?_,Xbc h.pz (Nat.le_add_right ..)⟩
   · have:=q.1.es (conv _) (List.mem_map_of_mem new)
     have this:(s.2++moreL).length≤8:=this;rw [Xac] at this;have e:moreL.length=9:=rfl;omega
   · obtain ⟨s0,hs0,_,_,l1,l2⟩:=G.dn s' hs
     have:=h.sz s0 hs0
     omega
 · have zz:OkN "za" ∧ OkN "zb" := ⟨Zex _ (by decide +kernel),Zex _ (by decide +kernel)⟩
   have gd:GoodT ss' n (ps++List.replicate 41 (("za" : Str),("zb" : Str))):=⟨h.gd.ne,h.gd.s,h.gd.n,fun p hp=>by
    rcases Xaf.mp hp with q | q
    · exact h.gd.p p q
    · rw [(List.mem_replicate.mp q).2];exact zz⟩
   refine ⟨gd,ZdV gd (tx Iff.rfl) Zch (fun q=>?_),Xbc h.l4 (by decide),fun s' hs=>?_,by rw [Xac,List.length_replicate];exact Nat.add_le_add_right h.pz 41⟩
   · have:=q.2
     rw [Xac,List.length_replicate] at this;omega
   · have:=h.sz s' hs
     omega
def SqA (K:XFg) (H:Hp) (κ:Tag) (a:Addr) (xs:List V):Prop:=((∃ o,H a=some o)∧SqL K H a xs∧κ a=(9,9))∨∀ H',SqL K H' a xs
theorem SqA.of {K:XFg}{H:Hp}{κ:Tag}{a:Addr}{xs:List V} (h:SqL K H a xs) (k:∀ o,H a=some o→κ a=(9,9)):SqA K H κ a xs:=by
 rcases h with (e | ⟨u,e⟩) | e
 · exact .inl ⟨⟨_,e⟩,.inl (.inl e),k _ e⟩
 · exact .inl ⟨⟨_,e⟩,.inl (.inr ⟨u,e⟩),k _ e⟩
 · exact .inr fun _=>.inr e
theorem SqA.sq {K:XFg}{H:Hp}{κ:Tag}{a:Addr}{xs:List V} (h:SqA K H κ a xs):SqL K H a xs:=by
 rcases h with ⟨_,h,_⟩ | h
 · exact h
 · exact h H
theorem SqA.go {K:XFg}{H H':Hp}{κ κ':Tag}{a:Addr}{xs:List V} (h:SqA K H κ a xs) (m:∀ o,H a=some o→κ a=(9,9)→H' a=some o) (x:ExtK H κ κ'):SqA K H' κ' a xs:=by
 rcases h with ⟨⟨o,e⟩,h,k⟩ | h
 · exact .inl ⟨⟨o,m o e k⟩,h.keep fun o e=>m o e k,(x _ _ e).trans k⟩
 · exact .inr h
structure At (K:XFg) (H:Hp) (κ:Tag) (a L S P Du:Addr) (ns:List Int) (ls:List Str) (rs:List RwS) (pt:List Addr) (ps:List (Str×Str)) (ds:List Str):Prop where
 st:StW H κ S rs
 pr:PrW H κ P pt ps
 du:H Du=some (.lst (ds.map V.str))
 el:H L=some (.lst (ls.map V.str))
 sa:SqA K H κ a (ns.map V.int)
 kd:κ Du=(9,9)
 kl:κ L=(9,9)
 nl:L≠Du
 na:a≠Du∨∀ H',SqL K H' a (ns.map V.int)
section
variable {K:XFg} {H H':Hp} {κ κ':Tag} {a L S P Du:Addr} {ns:List Int} {ls:List Str} {rs rs':List RwS} {pt pt':List Addr} {ps ps':List (Str×Str)} {ds:List Str}
theorem At.same (h:At K H κ a L S P Du ns ls rs pt ps ds) (s:Same H H'):At K H' κ a L S P Du ns ls rs pt ps ds :=
 ⟨h.st.same s,h.pr.same s,s _ _ h.du,s _ _ h.el,h.sa.go (fun o e _=>s _ _ e) ExtK.refl,h.kd,h.kl,h.nl,h.na⟩
theorem At.go (h:At K H κ a L S P Du ns ls rs pt ps ds) (st:StW H' κ' S rs') (pr:PrW H' κ' P pt' ps') (x:ExtK H κ κ') (m:ModK κ H H'):At K H' κ' a L S P Du ns ls rs' pt' ps' ds :=
 ⟨st,pr,m _ _ h.du h.kd,m _ _ h.el h.kl,h.sa.go (fun o e k=>m _ _ e k) x,(x _ _ h.du).trans h.kd,(x _ _ h.el).trans h.kl,h.nl,h.na⟩
theorem At.push (h:At K H κ a L S P Du ns ls rs pt ps ds) (d:Str):At K (upd H Du (.lst (ds.map V.str++[V.str d]))) κ a L S P Du ns ls rs pt ps (ds++[d]):=by
 refine ⟨h.st.upd h.du ?_ (fun i=>?_) (fun i=>?_) (fun i=>?_),h.pr.upd ?_ ?_,by rw [Zac,Xad];rfl,by rw [Zaf h.nl];exact h.el,h.na.elim (fun na=>h.sa.go (fun o e _=>by rw [Zaf na];exact e) ExtK.refl) .inr,h.kd,h.kl,h.nl,h.na⟩
 all_goals
  rw [h.kd];intro z;cases z
end
theorem Sta.weak {x y z x' y' z':Nat}{ss:List WSt}{n:Str}{ps:List (Str×Str)} {ds:List Str} (h:Sta x y z ss n ps ds) (hx:x≤x') (hy:y≤y') (hz:z≤z'):Sta x' y' z' ss n ps ds :=
 ⟨h.gd,h.l4,fun s hs=>⟨Xbc (h.sz s hs).1 hx,Xbc (h.sz s hs).2 hy⟩,Xbc h.pz hz,h.tx,h.nm,h.pl,h.pl',h.tw,h.tw',h.rg,h.rg',h.gr⟩
theorem F2.uniq {α β:Type}{R:α→β→Prop}{l:List α}{m m':List β} (u:∀ x y y',R x y→R x y'→y=y') (h:F2 R l m) (h':F2 R l m'):m=m':=by
 refine List.ext_getElem (h.1.symm.trans h'.1) fun i h1 h2=>?_
 have hl:i<l.length:=by rw [h.1];exact h1
 exact u l[i] _ _ (h.2 i _ _ (Xab hl) (Xab h1)) (h'.2 i _ _ (Xab hl) (Xab h2))
theorem RdSt.uniq {ws:List Str}{s s':Stt} (h:RdSt ws s) (h':RdSt ws s'):s=s':=by
 obtain ⟨a,g,e1,e2,f,_⟩:=h;obtain ⟨a',g',e1',e2',f',_⟩:=h';rw [e1] at e1'
 injection e1' with q1 q2
 injection q2 with q2 _
 subst q1;rw [e2] at e2'
 have:=ZfD e2'
 subst this;exact Prod.ext (F2.uniq (fun x y y' r r'=>Prod.ext (r.2.1.trans r'.2.1.symm) (Zis r.2.2 r'.2.2)) f f') q2
theorem Zky {ss:List Stt}{n:Int}{ps:List (Str×Str)} {w w':Str} (h:Zkw ss n ps w) (h':Zkw ss n ps w'):w=w':=by
 unfold Zkw at h h'
 grind
theorem ZiG {ws:List Str}{w w':Str} (h:OutT ws w) (h':OutT ws w'):w=w':=by
 rcases h with ⟨ss,n,ps,⟨a,v,b,e,f,hn,ep,_⟩,hw⟩ | ⟨hn,rfl⟩
 · rcases h' with ⟨ss',n',ps',⟨a',v',b',e',f',hn',ep',_⟩,hw'⟩ | ⟨hno,_⟩
   · rw [e] at e'
     injection e' with q1 q
     injection q with q2 q
     injection q with q3 _
     injection q2 with q2 _
     subst q1 q2 q3;have e1:=F2.uniq (R:=RdSt) (fun _ _ _ r r'=>RdSt.uniq r r') f f';have e2:=Zis hn hn';rw [ep] at ep';have e3:=ZfD ep';subst e1 e2 e3;exact Zky hw hw'
   · exact absurd ⟨ss,n,ps,a,v,b,e,f,hn,ep,by assumption⟩ hno
 · rcases h' with ⟨ss',n',ps',r,_⟩ | ⟨_,rfl⟩
   · exact absurd ⟨ss',n',ps',r⟩ hn
   · rfl
theorem Zkz {m:Int}{w d:Str} (F:FigD m w d):("twice" : Str) ∉ [d]∧("ring" : Str) ∉ [d]:=by
 have e:d = "text" ∨ d = "made" ∨ d = "place" := by
  rcases F with ⟨_,e⟩ | ⟨_,_,_,_,⟨_,e⟩ | ⟨_,e⟩⟩
  · exact .inl e
  · exact .inr (.inl e)
  · exact .inr (.inr e)
 rcases e with e | e | e <;> rw [e] <;> decide +kernel
def Zhl (K:XFg):Sp:=fun vs H Q _=>∃ (a:Addr) (ns:List Int),vs=[.ref a]∧SqL K H a (ns.map V.int)∧ns.length≤63∧∀ H',Q (.bl true) H'
theorem ok_law (B:Blt mg) (ER:Ers K mg) (c__law_names:ZcG P w K mg base) (c__law_cell_at:Zcc P w K mg base) (c__law_state:ZcH P w K mg base) (c__law_text:ZcX P w K mg base) (c__law_numbered:ZbX P w K mg base) (c__law_named:ZcJ P w K mg base) (c__law_more:ZcY P w K mg base) (c__law_broken:Zcn P w K mg base) (c__law_outcome:Zcg P w K mg base) (c__law_first:ZcM P w K mg base) (F:Fun K "law" "law" Zem f fd):FnOk P w K mg base CX0 9 f fd ["_law_script"] (Zhl K):=by
 refine F.ok sc_law (fun vs H Q E h=>?_) (fun cdv A outer s H vs Q E hr h=>?_)
 · obtain ⟨a,ns,rfl,_⟩:=h
   rfl
 · obtain ⟨a,ns,rfl,hA,hns,k⟩:=h
   refine ⟨_,(Zad (Zax (i:=1) sc_law.nd (ZaU c__law_names (Zaa (ZaU c__law_cell_at (Zaa (pv 0) (Zaa Zai Zab))) (Zaa (Zat ZdE Zai (Zat ZaF (ZaU c__law_cell_at (Zaa (pv 0) (Zaa Zai Zab))) Zai)) Zab))))
    (Zad (Zax (i:=2) sc_law.nd (Zan ZaR B.b_len (Zaa (pv 1) Zab)))
    (Zad (Zax (i:=3) sc_law.nd (Zat ZdE Zai (Zat ZaF (Zat ZaO (ZaU c__law_cell_at (Zaa (pv 0) (Zaa Zai Zab))) Zai) Zai)))
    (Zad (Zax (i:=4) sc_law.nd (Zaz Zab))
    (Zad (ZbM Xbn rfl (Zcj rfl B.b_range (Zaa (pv 3) Zab)) (Zam (i:=5) sc_law.nd) (Zad (ZjK (i:=6) sc_law.nd rfl (Or.inl rfl) (te:=ZkE (ZcA K) [] E0 (Zhq (tVar 1) (Zhq (tOp (rI0 fun i j=>.int (i+j)) (tOp (rI0 fun i j=>.int (i+j)) (tC (.int 7)) (tOp (rI CMul fun i j=>.int (i * j)) (tVar 2) (tVar 3))) (tVar 0)) tNil))) rfl law_cs1 (Zcj rfl B.b_range (Zaa (pv 2) Zab)) (fun _ _ _ _ _=>(Zam (i:=0) law_cs1.nd)) (fun _ _ _ _ _=>Zb1) (fun _ _ _ _ _=>(ZaU c__law_cell_at (Zaa (pv 1) (Zaa (Zat ZdE (Zat ZdE Zai (Zat op_mul (pv 2) (pv 3))) (pv 0)) Zab)))))
     (Zah (Zay (Za9 Xa4 Xa5 Xa6 ZaD (pv 4) (Zaa (ZaU c__law_state (Zaa (pv 6) (Zaa (pv 1) (Zaa (pv 3) Zab)))) Zab))))))
    (Zad (Zax (i:=7) sc_law.nd (Zcu ZeN B.b_str (Zaa (Zat ZaF (Zat ZaO (ZaU c__law_cell_at (Zaa (pv 0) (Zaa Zai Zab))) Zai) (pv 3)) Zab)))
    (Zad (ZjK (i:=8) sc_law.nd rfl (Or.inl rfl) (te:=tLst (Zhq (tOp (rIx K) (tVar 1) (tC (.int 0))) (Zhq (tOp (rIx K) (tVar 1) (tUn (rU fun i=>.int (-i)) (tC (.int 1)))) tNil))) rfl law_cs2 (ZaI (ZcF Zc4 (pv 0) (ZcT Zai) (ZcT Zai))) (fun _ _ _ _ _=>(Zam (i:=0) law_cs2.nd)) (fun _ _ _ _ _=>(pf_one (PW.pt (pw_and (Zas Zjs (pv 2) Zai (ZaC _)) (Zjg (Zas Zb0 (Zat ZaF (pv 0) Zai) Zai (ZaC _))))))) (fun _ _ _ _ _=>(Zaz (Zaa (ZaZ ZaE (pv 1) Zai) (Zaa (ZaZ ZaE (pv 1) (pe_un Zjm Zai)) Zab)))))
    (Zad (Zax (i:=9) sc_law.nd (Za9 PySem.F.plainAttrs_str PySem.F.slot_str_join PySem.F.type_str_join ZfS Zal (Zaa (ZaU c__law_text (Zaa (pv 4) (Zaa (pv 7) (Zaa (pv 8) Zab)))) Zab)))
    (Zad (Zax (i:=10) sc_law.nd (Zat ZaF (ZaU c__law_cell_at (Zaa (pv 0) (Zaa Zai Zab))) Zai))
    (Zad (Zax (i:=11) sc_law.nd (Zaz Zab))
    (Zad (ZaN (Zas Zb0 (Zat ZaF (pv 10) Zai) Zai (ZaC _)) (Zad (Zgy (ZaU c__law_numbered (Zaa (pv 4) (Zaa (pv 7) (Zaa (ZaU c__law_cell_at (Zaa (pv 0) (Zaa Zai Zab))) (Zaa (pv 3) Zab))))) (ZcE (n:=2) rfl (ZaA (Zam (i:=7) sc_law.nd) (ZaA (Zam (i:=12) sc_law.nd) ZbK))))
     (Zah (Zay (Za9 Xa4 Xa5 Xa6 ZaD (pv 11) (Zaa (pv 12) Zab))))) Zao)
    (Zad (ZaN (Zas Zb0 (Zat ZaF (Zat ZaO (pv 10) Zai) Zai) Zai (ZaC _)) (Zad (Zay (ZaU c__law_named (Zaa (pv 4) (Zaa (pv 8) (Zaa (ZaU c__law_cell_at (Zaa (pv 0) (Zaa Zai Zab))) Zab)))))
     (Zah (Zay (Za9 Xa4 Xa5 Xa6 ZaD (pv 11) (Zaa Zal Zab))))) Zao)
    (Zad (ZaN (Zas Zb0 (Zat ZaF (Zat ZaO (pv 10) Zai) Zai) Zai (ZaC _)) (Zad (Zax (i:=13) sc_law.nd (Zat ZaF (ZaU c__law_cell_at (Zaa (pv 0) (Zaa Zai Zab))) (pv 3)))
     (Zad (Zay (Za9 Xa4 Xa5 Xa6 ZaD (ZaZ ZaE (ZaZ ZaE (pv 4) (pv 13)) Zai) (Zaa Zal Zab)))
     (Zad (Zay (Za9 Xa4 PySem.F.slot_list_insert PySem.F.type_list_insert ZeM (ZaZ ZaE (ZaZ ZaE (pv 4) (pv 13)) Zai) (Zaa Zai (Zaa Zal Zab))))
     (Zah (Zay (Za9 Xa4 Xa5 Xa6 ZaD (pv 11) (Zaa Zal Zab))))))) Zao)
    (Zad (ZaN (Zas Zb0 (Zat ZaF (Zat ZaO (pv 10) Zai) Zai) Zai (ZaC _)) (Zad (Zay (Za9 Xa4 PySem.F.slot_list_insert PySem.F.type_list_insert ZeM (pv 8) (Zaa Zai (Zaa (Zaz (Zaa (ZaZ ZaE (pv 1) Zai) (Zaa (ZaZ ZaE (pv 1) Zai) Zab))) Zab))))
     (Zah (Zay (Za9 Xa4 Xa5 Xa6 ZaD (pv 11) (Zaa Zal Zab))))) Zao)
    (Zad (ZaN (Zas Zb0 (Zat ZaF (Zat ZaO (pv 10) Zai) Zai) Zai (ZaC _)) (Zad (Zay (ZaU c__law_more (Zaa (pv 4) (Zaa (pv 8) (Zaa (Zat ZaO (ZaU c__law_cell_at (Zaa (pv 0) (Zaa Zai Zab))) Zai) Zab)))))
     (Zah (Zay (Za9 Xa4 Xa5 Xa6 ZaD (pv 11) (Zaa Zal Zab))))) Zao)
    (Zad (Zax (i:=14) sc_law.nd (ZaU c__law_text (Zaa (pv 4) (Zaa (pv 7) (Zaa (pv 8) Zab)))))
    (Zad (ZaN (Zas Zb0 (Zat ZaF (Zat ZaO (pv 10) Zai) Zai) Zai (ZaC _)) (Zad (Zax (i:=14) sc_law.nd (ZaU c__law_broken (Zaa (pv 14) (Zaa (ZaU c__law_cell_at (Zaa (pv 0) (Zaa Zai Zab))) Zab))))
     (Zah (Zay (Za9 Xa4 Xa5 Xa6 ZaD (pv 11) (Zaa Zal Zab))))) Zao)
    (Zad (ZbM Xbn rfl (ZaI (Zaz (Zaa Zjf (Zaa Zai (Zaa (Zaz (Zaa (pv 9) Zab)) (Zaa Zje Zab)))))) (Zam (i:=15) sc_law.nd) (Zah (ZaN (Zas ZfK (ZaU c__law_outcome (Zaa (pv 15) Zab)) Zal (ZaC _)) (Zah (ZaB Zje)) Zao)))
    (Zah (ZaB (Zji (ZfL Zb0 (ZaU c__law_outcome (Zaa (Za9 PySem.F.plainAttrs_str PySem.F.slot_str_join PySem.F.type_str_join ZfS Zal (Zaa (pv 14) Zab)) Zab)) (ZaU c__law_first (Zaa (pv 11) Zab)) (ZaC _)) (Zjh (ZfL Zb0 (ZaU c__law_outcome (Zaa (pv 9) Zab)) Zal (ZaC _)))))))))))))))))))))))),?_⟩
   refine ⟨_,rfl,a,ns,0,rfl,by decide,hA,_,rfl,a,ns,1,rfl,by decide,hA,_,_,rfl,rfl,(by show (0:Int)<4;decide),_,_,rfl,rfl,_,_,rfl,by omega,by omega,fun ls L H1 hll hnd hlow hL s1 eL=>?_⟩;obtain ⟨sz,esz,hsz⟩:∃ sz:Nat,1+ZbT ns 1 % 4=(sz:Int)∧1≤sz∧sz≤4:=⟨(1+ZbT ns 1 % 4).toNat,by omega,by omega,by omega⟩;rw [esz,Xa0] at hll;have S1:=s1.seq hA;refine g_in ?_;try dsimp only
   refine ⟨_,rfl,_,_,rfl,Or.inl ⟨_,SqL.of eL,rfl⟩,?_⟩;rw [Xaa,hll];refine g_in ?_;try dsimp only
   refine ⟨_,rfl,a,ns,1,rfl,by decide,S1,_,_,rfl,rfl,⟨by decide,by decide⟩,_,_,rfl,rfl,(by show (0:Int)<4;decide),_,_,rfl,rfl,?_⟩;obtain ⟨mn,emn,hmn⟩:∃ mn:Nat,1+ZbT ns 1 / 4 % 4=(mn:Int)∧1≤mn∧mn≤4:=⟨(1+ZbT ns 1 / 4 % 4).toNat,by omega,by omega,by omega⟩;refine g_in ?_;try dsimp only
   rw [emn];refine ⟨by decide,fun S hSn=>?_⟩;obtain ⟨H2,qH2,s2,eS2⟩:=new_at (o:=.lst []) hSn;rw [←qH2];refine g_in ?_;try dsimp only
   refine Zcw (fun σ' H'=>∃ (u5 u6:Option V) (κ:Tag) (rs:List RwS),σ'=[some (.ref a),some (.ref L),some (.int sz),some (.int mn),some (.ref S),u5,u6,none,none,none,none,none,none,none,none,none]∧Same H1 H'∧StW H' κ S rs∧(∀ x o,H1 x=some o→κ x=(9,9))∧(∀ r∈rs,DrawnW ls mn r.s)∧rs.length=mn) ?_ (fun N hN=>?_)
   case refine_2 =>
    refine ⟨_,rfl,_,rfl,by omega,by omega,ZeA (lo:=0) (n:=((mn:Nat):Int).toNat) (fun k σ' H'=>∃ (u5 u6:Option V) (κ:Tag) (rs:List RwS),σ'=[some (.ref a),some (.ref L),some (.int sz),some (.int mn),some (.ref S),u5,u6,none,none,none,none,none,none,none,none,none]∧Same H1 H'∧StW H' κ S rs∧(∀ x o,H1 x=some o→κ x=(9,9))∧(∀ r∈rs,DrawnW ls mn r.s)∧rs.length=k) ⟨none,none,setK (fun _=>(9,9)) S (0,0),[],rfl,s2,⟨eS2,fun r hr=>(by cases hr),ZbW,fun i r h=>(by simp at h)⟩,fun x o e=>ZaV (Zag e hSn),fun r hr=>(by cases hr),rfl⟩ ?_ ?_⟩
    · rintro k1 σ H3 hk ⟨u5,u6,κ,rs,rfl,s3,SW,k9,hD,hrl⟩
      rw [Xa0] at hk;refine g_in ?_;try dsimp only
      have S3:=s3.seq S1;refine ⟨_,rfl,_,rfl,by omega,by omega,ZdY (fun j=>V.int (ZbT ns (7+(0+(k1:Int)) * (sz:Int)+(0+(j:Int))))) (Xbc (show ((sz:Nat):Int).toNat≤8 by omega) (by decide)) (fun i H4 D R hi s4 hD0 kk=>?_) (fun H4 D s4 hD0 e4=>?_)⟩
      · have hi':i<sz:=by omega
        have hmul:(0:Int)≤(0+(k1:Int)) * (sz:Int):=Int.mul_nonneg (by omega) (by omega);refine ⟨_,rfl,_,rfl,_,rfl,_,_,rfl,rfl,Or.inl ⟨by omega,by omega⟩,_,_,rfl,rfl,_,rfl,_,_,rfl,rfl,a,ns,_,rfl,?_,s4.seq S3,kk H4 (Same.refl _)⟩;generalize (0+(k1:Int)) * (sz:Int)=y at hmul ⊢;show 0≤7+y+(0+(i:Int));omega
      rw [Xa0] at e4
      have e4:H4 D=some (.lst (((List.range sz).map fun j:Nat=>ZbT ns (7+(0+(k1:Int)) * (sz:Int)+(0+(j:Int)))).map V.int)):=by rw [e4,Xax];rfl
      generalize hcs:((List.range sz).map fun j:Nat=>ZbT ns (7+(0+(k1:Int)) * (sz:Int)+(0+(j:Int))))=cs at e4
      have lcs:cs.length=sz:=by rw [←hcs,Xaa,List.length_range]
      clear hcs;refine g_in ?_;try dsimp only
      have s14:=s3.trans s4;have SW4:=SW.same s4;refine ⟨_,rfl,Or.inl ⟨rfl,_,SqL.of SW4.top⟩,_,rfl,_,rfl,_,rfl,D,L,cs,ls,mn,rfl,SqL.of e4,by omega,SqL.of (s14 _ _ eL),by omega,hnd,by omega,by omega,fun r H6 hd hu hG hE hT hne ht s6 R=>?_⟩;obtain ⟨T7,x7⟩:=SW4.newRow hG hE hT hne ht s6 R;have eS6:=s6 _ _ SW4.top;refine ⟨S,_,_,rfl,rfl,eS6,by rw [Xaa];exact Zak (by omega),?_⟩;refine ⟨_,_,_,rs++[r],rfl,fun b o e=>?_,T7,fun x o e=>?_,fun y hy=>?_,by rw [Xac,hrl];rfl⟩
      · rw [Zaf (Zag e hSn)];exact s6 _ _ (s14 b o e)
      · rw [x7 x o (s14 _ _ e)];exact k9 x o e
      · rcases Xaf.mp hy with z | z
        · exact hD y z
        · rw [Xaj.mp z];exact hd
    · rintro σ H3 ⟨u5,u6,κ,rs,rfl,s3,SW,k9,hD,hrl⟩
      rw [Xa0] at hrl;exact hN _ _ ⟨u5,u6,κ,rs,rfl,s3,SW,k9,hD,hrl⟩
   rintro σ' H3 ⟨u5,u6,κ,rs,rfl,s3,SW,k9,hD,hrl⟩;have S3:=s3.seq S1;have eL3:=s3 _ _ eL;refine ⟨_,rfl,a,ns,1,rfl,by decide,S3,_,_,rfl,rfl,⟨by decide,by decide⟩,_,rfl,_,_,rfl,rfl,(by omega),?_⟩;have i0:=XaY (ZbT ns 1 / 16) (show (mn:Int)≠0 by omega);have i1:=XaX (ZbT ns 1 / 16) (show (0:Int)<mn by omega);refine ⟨_,rfl,ZeP i0 (by omega),?_⟩;refine g_in ?_;try dsimp only
   generalize ZbT ns 1 / 16 % (mn:Int)=inn at i0 i1 ⊢;obtain ⟨l0,hl0⟩:∃ l0,ls[0]?=some l0:=⟨_,Xab (by omega)⟩;obtain ⟨lz,hlz⟩:∃ lz,ls[sz - 1]?=some lz:=⟨_,Xab (by omega)⟩;have at0':atI (ls.map V.str) 0=some (.str l0):=Zbw (j:=0) (by rw [Xag,hl0];rfl)
   have atz:atI (ls.map V.str) (-1)=some (.str lz):=by
    have e:ls=ls.dropLast++[lz]:=by
     have hne:ls≠[]:=fun z=>by rw [z] at hll;simp at hll;omega
     have:=List.dropLast_concat_getLast hne
     have e2:ls.getLast hne=lz:=by
      rw [List.getLast_eq_getElem]
      have:=Xae.mp hlz
      obtain ⟨h1,h2⟩:=this;rw [←h2];congr 1;omega
     rw [e2] at this;exact this.symm
    rw [e,Xad];exact ZhX _ _
   have m0:=Xah hl0;have mz:=Xah hlz
   have nlz:1<sz→l0≠lz:=fun h1 z=>by
    rw [←z] at hlz
    have:=(List.getElem?_inj (by omega) hnd).mp (hl0.trans hlz.symm)
    omega
   refine ⟨_,rfl,_,rfl,_,rfl,a,_,rfl,S3,fun z hz=>?_⟩;have ecut:cutV (ns.map V.int) (some 7) (some 16)=((ns.map V.int).drop 7).take 9:=ZkK _ 7 16 (by decide);rw [ecut]
   have lcut:(((ns.map V.int).drop 7).take 9).length≤9:=by rw [Xaw];omega
   have icut:∀ (i:Nat) (x:V),(((ns.map V.int).drop 7).take 9)[i]?=some x→∃ c:Int,x=.int c:=fun i x hx=>by
    have:=List.mem_of_mem_drop (List.mem_of_mem_take (Xah hx))
    obtain ⟨c,_,e⟩:=Xai.mp this;exact ⟨c,e.symm⟩
   generalize ((ns.map V.int).drop 7).take 9=xs at lcut icut ⊢;obtain ⟨H4,qH4,s4,ez⟩:=new_at (o:=.lst xs) hz;rw [←qH4];have SW4:=SW.same s4;refine ⟨z,rfl,⟨_,SqL.of ez⟩,ZiZ (xs:=xs) (fun D i ys H'=>∃ (κ':Tag) (ts:List Addr) (c:Nat),ys=ts.map V.ref∧NewL H4 H' D κ κ' (5,0) ts ((List.replicate c (l0,lz)).map wG)∧c≤i∧(1≤c→1<sz)) (fun D hD=>⟨κ,[],0,rfl,NewL.nil hD,XaS _,fun h=>absurd h (by decide)⟩) (fun D i ys H' ⟨_,_,_,_,N,_⟩=>SqL.of (N.sm _ _ ez)) (fun D i x ys H5 R R0 hD0 hx hv k k0=>?_) (fun P ys H5 hP0 hv=>?_)⟩
   · obtain ⟨κ',ts,c,rfl,N,hc,h1⟩:=hv
     obtain ⟨cc,rfl⟩:=icut i x hx;have hil:=(Xae.mp hx).1;have e4:=N.sm _ _ (s4 _ _ eL3);refine ⟨_,rfl,_,_,rfl,rfl,_,rfl,ite2 (fun hs=>?_) (fun hs=>k0 _ ⟨κ',ts,c,rfl,N,by omega,h1⟩)⟩;refine ⟨_,rfl,_,_,rfl,rfl,(by show (0:Int)<2;decide),rfl,_,rfl,ite2 (fun ho=>?_) (fun ho=>k0 _ ⟨κ',ts,c,rfl,N,by omega,h1⟩)⟩;refine ⟨_,rfl,Or.inl ⟨L,_,_,.str l0,rfl,rfl,SqL.of e4,at0',_,rfl,_,rfl,Or.inl ⟨L,_,_,.str lz,rfl,rfl,SqL.of e4,atz,Zbv,fun t ht=>?_⟩⟩⟩;have N2:=N.step (w:=wG (l0,lz)) hD0 ht
     have lts:ts.length≤9:=by
      have:=N.wd.len
      rw [Xaa,List.length_replicate] at this;omega
     have eD:=Zaj (o:=.lst ((wG (l0,lz)).map V.str)) ht _ _ N.eD;refine k _ _ eD (by rw [Xaa];exact Zak (by omega)) ⟨setK κ' t (5,0),ts++[t],c+1,by rw [Xad];rfl,?_,by omega,fun _=>by have:=Xa3 hs;omega⟩;rw [List.replicate_succ',Xad];exact N2
   obtain ⟨κ',pt,c0,rfl,N,hc0,hc1⟩:=hv;obtain ⟨ps,eps⟩:∃ ps,ps=List.replicate c0 (l0,lz):=⟨_,rfl⟩;rw [←eps] at N
   have lps:ps.length≤9:=by rw [eps,List.length_replicate];omega
   have mps:∀ p∈ps,p=(l0,lz)∧1<sz:=fun p hp=>by
    rw [eps] at hp;obtain ⟨h1,h2⟩:=List.mem_replicate.mp hp;exact ⟨h2,hc1 (by omega)⟩
   clear eps hc0 hc1
   have ex5:ExtK H4 κ (setK κ' P (1,0)):=fun b o e=>by rw [ZaV (Zbp hP0 ⟨o,e⟩)];exact N.ex b o e
   have SW5:=(SW4.ext ex5).same N.sm;have PW5:PrW H5 (setK κ' P (1,0)) P pt ps:=⟨N.eD,N.wd,ZbW,fun t ht=>by rw [ZaV (N.fr t ht).2.1];exact (N.fr t ht).2.2⟩;have s15:=(s3.trans s4).trans N.sm;have k9':∀ x o,H1 x=some o→setK κ' P (1,0) x=(9,9):=fun x o e=>(ex5 x o (s4 _ _ (s3 _ _ e))).trans (k9 x o e);clear k9 ex5 SW4;generalize setK κ' P (1,0)=κ at SW5 PW5 k9' ⊢;clear N κ';have S5:=s15.seq S1;have eL5:=s15 _ _ eL;have hnm:∀ x∈ls,ZbU x=true:=fun x hx=>Zk8 (hlow x hx);have hok:∀ x∈ls,OkN x:=fun x hx=>Zdo (hnm x hx)
   have St0 : Sta 4 4 9 (wsOf rs) (nS inn) ps [] := by
    have no:∀ v:Str,v ∉ ([]:List Str):=fun v hv=>by cases hv
    have hDs:∀ s∈wsOf rs,DrawnW ls mn s:=fun s hs=>by obtain ⟨r,hr,rfl⟩:=Xai.mp hs;exact hD r hr
    have ln:(wsOf rs).length=mn:=by rw [Xaa];exact hrl
    have NT:NumT (wsOf rs) (nS inn):=⟨fun s hs g hg=>by
     obtain ⟨_,n,n0,n1,e⟩:=(hDs s hs).gm g hg
     rw [e];exact (Zei n0 (by omega)).1,(Zei i0 (by omega)).1⟩
    have NM:NmT (wsOf rs) ps:=fun x hx=>by
     rcases hx with ⟨s,hs,⟨g,hg,rfl⟩ | hx⟩ | ⟨p,hp,hx⟩
     · exact hnm _ ((hDs s hs).gm g hg).1
     · exact hnm _ ((hDs s hs).em x hx)
     · rw [(mps p hp).1] at hx
       rcases hx with e | e
       · rw [e];exact hnm _ m0
       · rw [e];exact hnm _ mz
    have C:C5 ps:=fun x hx=>by
     have key:∀ {x y:Str},Ord.Path ps x y→x=l0∧y=lz∧1<sz:=fun {x y} h=>by
      induction h with
      | one h =>
        obtain ⟨e,h1⟩:=mps _ h;exact ⟨Xbf Prod.fst e,Xbf Prod.snd e,h1⟩
      | snoc _ h ih =>
        obtain ⟨e,h1⟩:=mps _ h;exact ⟨ih.1,Xbf Prod.snd e,h1⟩
     obtain ⟨e1,e2,h1⟩:=key hx;exact nlz h1 (e1.symm.trans e2)
    refine ⟨⟨fun z=>by rw [z] at ln;simp at ln;omega,fun s hs=>⟨fun g hg=>?_,fun x hx=>hok x ((hDs s hs).em x hx)⟩,Zgx i0 (by omega),fun p hp=>by rw [(mps p hp).1];exact ⟨hok _ m0,hok _ mz⟩⟩,by omega,fun s hs=>⟨Xbc (hDs s hs).gl (by omega),Xbc (hDs s hs).el (by omega)⟩,lps,⟨fun q=>absurd q (no _),fun q=>absurd NT q⟩,⟨fun q=>absurd q (no _),fun q=>absurd NM q⟩,fun q=>absurd q (no _),fun _ _=>?_,fun q=>absurd q (no _),fun _ _ s hs=>⟨(hDs s hs).gn,(hDs s hs).en⟩,fun q=>absurd q (no _),fun _ _=>C,no _⟩
    · obtain ⟨h1,n,n0,n1,e⟩:=(hDs s hs).gm g hg
      exact ⟨hok _ h1,by rw [e];exact Zgx n0 (by omega)⟩
    · refine ⟨?_,fun s hs g hg=>?_⟩
      · rw [Zd3 (Zei i0 (by omega)),ln];exact ⟨i0,i1⟩
      · obtain ⟨_,n,n0,n1,e⟩:=(hDs s hs).gm g hg
        rw [e,Zd3 (Zei n0 (by omega)),ln];exact ⟨n0,n1⟩
   refine g_in ?_;try dsimp only
   have szr:∀ r∈rs,r.s.1.length≤14∧r.s.2.length≤18:=fun r hr=>by have:=St0.sz r.s (List.mem_map_of_mem hr);omega
   have W0:∀ x∈wT (wsOf rs) (nS inn) ps,32 ∉ x.cps.toList∧x.length≤9:=fun x hx=>Zkf St0.gd hx;have ll0:(wT (wsOf rs) (nS inn) ps).length≤741:=wT_len (fun s hs=>by obtain ⟨r,hr,rfl⟩:=Xai.mp hs;exact szr r hr) (by rw [Xaa];omega) (by omega)
   have O0:OutT (wT (wsOf rs) (nS inn) ps) "made" := by
    have:=St0.out (by decide) (by decide) (by decide)
    exact this
   have n0:wT (wsOf rs) (nS inn) ps≠[]:=by unfold wT;simp
   refine ⟨rfl,_,rfl,_,rfl,_,rfl,S,P,κ,rs,nS inn,pt,ps,rfl,SW5,PW5,by omega,szr,by omega,fun D6 H6 hD6 s6 eD6=>?_⟩
   refine ⟨(" " : Str),D6,_,rfl,rfl,SqL.of eD6,Ziu (fun x hx=>(W0 x hx).2) (Xbc ll0 (by decide)),?_⟩
   refine g_in ?_;try dsimp only
   generalize ew0:wT (wsOf rs) (nS inn) ps=w0 at W0 ll0 O0 n0 ⊢;have S6:=s6.seq S5;refine ⟨_,rfl,a,ns,2,rfl,by decide,S6,_,_,rfl,rfl,(by show (0:Int)<64;decide),?_⟩;refine g_in ?_;try dsimp only
   generalize ZbT ns 2 % 64=bits;refine ⟨by decide,fun Du hDu=>?_⟩;obtain ⟨H7,qH7,s7,eDu⟩:=new_at (o:=.lst []) hDu;rw [←qH7];refine g_in ?_;try dsimp only
   have s17:=(s15.trans s6).trans s7
   have At0:At K H7 (setK κ Du (9,9)) a L S P Du ns ls rs pt ps []:=by
    have f6:∀ b o,H5 b=some o→b≠Du:=fun b o e=>Zag (s6 _ _ e) hDu;refine ⟨((SW5.same s6).tag hDu).same s7,((PW5.same s6).tag hDu).same s7,eDu,s17 _ _ eL,?_,ZbW,by rw [ZaV (f6 _ _ eL5)];exact k9' _ _ eL,f6 _ _ eL5,?_⟩
    · rcases S1 with (e | ⟨u,e⟩) | e
      · exact .inl ⟨⟨_,s17 _ _ e⟩,.inl (.inl (s17 _ _ e)),by rw [ZaV (f6 _ _ (s15 _ _ e))];exact k9' _ _ e⟩
      · exact .inl ⟨⟨_,s17 _ _ e⟩,.inl (.inr ⟨u,s17 _ _ e⟩),by rw [ZaV (f6 _ _ (s15 _ _ e))];exact k9' _ _ e⟩
      · exact .inr fun _=>.inr e
    · rcases S1 with (e | ⟨u,e⟩) | e
      · exact .inl (f6 _ _ (s15 _ _ e))
      · exact .inl (f6 _ _ (s15 _ _ e))
      · exact .inr fun _=>.inr e
   generalize setK κ Du (9,9)=κ7 at At0
   have hne:rs≠[]:=fun z=>by rw [z] at hrl;simp at hrl;omega
   refine Zcw (fun σ' H'=>∃ (u12:Option V) (κ:Tag) (rs:List RwS) (n:Str) (ds:List Str),σ'=[some (.ref a),some (.ref L),some (.int sz),some (.int mn),some (.ref S),u5,u6,some (.str n),some (.ref P),some (.str (Txt.join (" " : Str) w0)),some (.int bits),some (.ref Du),u12,none,none,none]∧At K H' κ a L S P Du ns ls rs pt ps ds∧Sta 4 4 9 (wsOf rs) n ps ds∧rs.length=mn∧ds.length≤1∧("twice" : Str) ∉ ds∧("ring" : Str) ∉ ds) ?_ (fun N hN=>?_)
   case refine_2 =>
    refine ⟨_,rfl,_,_,rfl,rfl,(by show (0:Int)<2;decide),rfl,_,rfl,ite2 (fun _=>?_) (fun _=>?_)⟩;rotate_left
    · exact hN _ _ ⟨none,_,rs,nS inn,[],rfl,At0,St0,hrl,by decide,fun h=>(by cases h),fun h=>(by cases h)⟩
    refine ⟨_,rfl,_,rfl,_,rfl,a,ns,3,rfl,by decide,At0.sa.sq,_,rfl,S,_,rs,nS inn,ZbT ns 3,mn,rfl,At0.st,hne,by omega,fun r hr=>Xbc (St0.sz r.s (List.mem_map_of_mem hr)).1 (by decide),fun t rs' w' d H8 hD ht SW8 m8 f8 et=>?_⟩;refine ⟨t,_,rfl,SqT.of et,rfl,_,_,rfl,_,_,rfl,rfl,?_⟩
    have At8:At K H8 κ7 a L S P Du ns ls rs' pt ps []:=At0.go SW8 (At0.pr.keep m8) ExtK.refl fun b o e kb=>m8 b o e fun i z=>by rw [kb] at z;cases z
    have St8:Sta 4 4 9 (wsOf rs') w' ps [d]∧rs'.length=mn∧("twice" : Str) ∉ [d]∧("ring" : Str) ∉ [d]:=by
     obtain ⟨w,F,D⟩:=hD
     have F':FigD ((wsOf rs).length:Int) w d:=by rw [Xaa,hrl];exact F
     rcases D with ⟨rfl,rfl⟩ | ⟨rfl,i,j,r,p,hi,hj,rfl⟩
     · exact ⟨St0.numA F',hrl,Zkz F⟩
     · refine ⟨?_,by rw [XaD];exact hrl,Zkz F⟩
       rw [Zdl];exact St0.numB F' (by rw [Xag,hi];rfl) hj
    refine ⟨_,rfl,Or.inl ⟨rfl,_,SqL.of At8.du⟩,_,rfl,Du,_,_,rfl,rfl,At8.du,by decide,?_⟩;exact hN _ _ ⟨_,_,rs',w',[d],rfl,At8.push d,St8.1,St8.2.1,XaS _,St8.2.2⟩
   clear At0 hne;rintro σ' H8 ⟨u12,κ8,rs,n,ds,rfl,At8,St8,hrl,lds,nt,nr⟩
   have hne:rs≠[]:=fun z=>by rw [z] at hrl;simp at hrl;omega
   refine Zcw (fun σ' H'=>∃ (κ:Tag) (rs:List RwS) (pt:List Addr) (ps:List (Str×Str)) (ds:List Str),σ'=[some (.ref a),some (.ref L),some (.int sz),some (.int mn),some (.ref S),u5,u6,some (.str n),some (.ref P),some (.str (Txt.join (" " : Str) w0)),some (.int bits),some (.ref Du),u12,none,none,none]∧At K H' κ a L S P Du ns ls rs pt ps ds∧Sta 5 5 10 (wsOf rs) n ps ds∧rs.length=mn∧ds.length≤2) ?_ (fun N hN=>?_)
   case refine_2 =>
    refine ⟨_,rfl,_,_,rfl,rfl,⟨by decide,by decide⟩,_,_,rfl,rfl,(by show (0:Int)<2;decide),rfl,_,rfl,ite2 (fun _=>?_) (fun _=>?_)⟩;rotate_left
    · exact hN _ _ ⟨κ8,rs,pt,ps,ds,rfl,At8,St8.weak (by decide) (by decide) (by decide),hrl,by omega⟩
    refine ⟨_,rfl,_,rfl,_,rfl,a,ns,4,rfl,by decide,At8.sa.sq,S,P,ZbT ns 4,κ8,rs,pt,ps,rfl,At8.st,At8.pr,hne,by omega,fun r hr=>by have:=St8.sz r.s (List.mem_map_of_mem hr);omega,by have:=St8.pz;omega,fun κ' rs' pt' ps' H9 D T=>?_⟩;have At9:=At8.go T.st T.pr T.ex T.md;refine ⟨_,rfl,Or.inl ⟨rfl,_,SqL.of At9.du⟩,Du,_,_,rfl,rfl,At9.du,by rw [Xaa];exact Zak (by omega),?_⟩;have St9:=St8.named D nr nt;refine hN _ _ ⟨κ',rs',pt',ps',_,rfl,At9.push _,St9,?_,by rw [Xac];show _+1≤2;omega⟩;obtain ⟨w,_,D⟩:=D
    have:(wsOf rs').length=(wsOf rs).length:=by
     rcases D with ⟨i,s,_,_,e | e⟩ | ⟨e,_⟩ <;> rw [e]
     · rw [XaD]
     · rw [XaD]
    rw [Xaa,Xaa] at this;omega
   clear At8 St8 hrl lds nt nr hne;clear mps PW5;rintro σ' H9 ⟨κ9,rs,pt,ps,ds,rfl,At9,St9,hrl,lds⟩
   have hne:rs≠[]:=fun z=>by rw [z] at hrl;simp at hrl;omega
   refine Zcw (fun σ' H'=>∃ (u13:Option V) (κ:Tag) (rs:List RwS) (ds:List Str),σ'=[some (.ref a),some (.ref L),some (.int sz),some (.int mn),some (.ref S),u5,u6,some (.str n),some (.ref P),some (.str (Txt.join (" " : Str) w0)),some (.int bits),some (.ref Du),u12,u13,none,none]∧At K H' κ a L S P Du ns ls rs pt ps ds∧Sta 5 7 10 (wsOf rs) n ps ds∧rs.length=mn∧ds.length≤3) ?_ (fun N hN=>?_)
   case refine_2 =>
    refine ⟨_,rfl,_,_,rfl,rfl,⟨by decide,by decide⟩,_,_,rfl,rfl,(by show (0:Int)<2;decide),rfl,_,rfl,ite2 (fun _=>?_) (fun _=>?_)⟩;rotate_left
    · exact hN _ _ ⟨none,κ9,rs,ds,rfl,At9,St9.weak (by decide) (by decide) (by decide),hrl,by omega⟩
    refine ⟨_,rfl,a,ns,5,rfl,by decide,At9.sa.sq,_,rfl,_,_,rfl,rfl,(by omega),?_⟩;refine g_in ?_;try dsimp only
    obtain ⟨i,r,ei,hi⟩:=Zew hne (ZbT ns 5);rw [hrl] at ei;rw [ei];have hm:=Xah hi;have R:=At9.st.row r hm;have szi:=St9.sz r.s (List.mem_map_of_mem hm);obtain ⟨k1,k2,k3,k4⟩:=At9.st.kR i r hi;refine ⟨_,rfl,_,rfl,Or.inl ⟨S,_,_,_,rfl,rfl,SqL.of At9.st.top,ZcU hi,Or.inr (Or.inl ⟨_,_,_,.ref r.E,rfl,rfl,SqT.of R.tu,rfl,Or.inl ⟨rfl,_,SqL.of R.te⟩,r.E,_,_,rfl,rfl,R.te,by rw [Xaa];exact Zak (by omega),?_⟩)⟩⟩
    have e1:r.s.2.map V.str++[V.str "twice"]=(r.s.2++[("twice" : Str)]).map V.str:=by rw [Xad];rfl
    rw [e1]
    have T1:=At9.st.putE (es':=r.s.2++[("twice" : Str)]) hi
    have P1:=At9.pr.upd (x:=r.E) (o:=.lst ((r.s.2++[("twice" : Str)]).map V.str)) (by rw [k2];intro z;cases z) (by rw [k2];intro z;cases z)
    have M1:ModK κ9 H9 (upd H9 r.E (.lst ((r.s.2++[("twice" : Str)]).map V.str))):=ModK.upd (by rw [k2];intro z;cases z)
    generalize upd H9 r.E (.lst ((r.s.2++[("twice" : Str)]).map V.str))=H10 at T1 P1 M1 ⊢
    have hi1:(rs.set i ⟨r.u,r.G,r.E,r.T,(r.s.1,r.s.2++[("twice" : Str)])⟩)[i]?=some ⟨r.u,r.G,r.E,r.T,(r.s.1,r.s.2++[("twice" : Str)])⟩:=List.getElem?_set_self (Xae.mp hi).1
    have R1:=T1.row _ (Xah hi1);have k21:=(T1.kR i _ hi1).2.1;refine ⟨_,rfl,_,rfl,Or.inl ⟨S,_,_,_,rfl,rfl,SqL.of T1.top,ZcU hi1,Or.inr (Or.inl ⟨_,_,_,.ref r.E,rfl,rfl,SqT.of R1.tu,rfl,Or.inl ⟨rfl,_,SqL.of R1.te⟩,r.E,_,_,0,rfl,rfl,R1.te,by decide,Int.natCast_nonneg _,by rw [Xaa,Xac];show _+1≤1000;omega,?_⟩)⟩⟩
    have e2:((r.s.2++[("twice" : Str)]).map V.str).take (0:Int).toNat++V.str "twice" :: ((r.s.2++[("twice" : Str)]).map V.str).drop (0:Int).toNat=(("twice" : Str) :: (r.s.2++[("twice" : Str)])).map V.str:=rfl
    rw [e2]
    have T2:=T1.putE (es':=("twice" : Str) :: (r.s.2++[("twice" : Str)])) hi1
    rw [List.set_set] at T2
    have P2:=P1.upd (x:=r.E) (o:=.lst ((("twice" : Str) :: (r.s.2++[("twice" : Str)])).map V.str)) (by rw [k2];intro z;cases z) (by rw [k2];intro z;cases z)
    have M2:ModK κ9 H9 (upd H10 r.E (.lst ((("twice" : Str) :: (r.s.2++[("twice" : Str)])).map V.str))):=fun b o e kb=>by
     rw [Zaf (fun z=>by rw [z,k2] at kb;cases kb)];exact M1 b o e kb
    generalize upd H10 r.E (.lst ((("twice" : Str) :: (r.s.2++[("twice" : Str)])).map V.str))=H11 at T2 P2 M2 ⊢
    have At11:=At9.go T2 P2 ExtK.refl M2;refine ⟨_,rfl,Or.inl ⟨rfl,_,SqL.of At11.du⟩,Du,_,_,rfl,rfl,At11.du,by rw [Xaa];exact Zak (by omega),?_⟩;refine hN _ _ ⟨_,κ9,_,_,rfl,At11.push _,?_,by rw [XaD];exact hrl,by rw [Xac];show _+1≤3;omega⟩;rw [Zdl];exact St9.twice (by rw [Xag,hi];rfl)
   clear At9 St9 hrl lds hne;rintro σ' H10 ⟨u13,κ10,rs,ds,rfl,At10,St10,hrl,lds⟩
   refine Zcw (fun σ' H'=>∃ (κ:Tag) (pt:List Addr) (ps:List (Str×Str)) (ds:List Str),σ'=[some (.ref a),some (.ref L),some (.int sz),some (.int mn),some (.ref S),u5,u6,some (.str n),some (.ref P),some (.str (Txt.join (" " : Str) w0)),some (.int bits),some (.ref Du),u12,u13,none,none]∧At K H' κ a L S P Du ns ls rs pt ps ds∧Sta 5 7 11 (wsOf rs) n ps ds∧ds.length≤4) ?_ (fun N hN=>?_)
   case refine_2 =>
    refine ⟨_,rfl,_,_,rfl,rfl,⟨by decide,by decide⟩,_,_,rfl,rfl,(by show (0:Int)<2;decide),rfl,_,rfl,ite2 (fun _=>?_) (fun _=>?_)⟩;rotate_left
    · exact hN _ _ ⟨κ10,pt,ps,ds,rfl,At10,St10.weak (by decide) (by decide) (by decide),by omega⟩
    refine ⟨_,rfl,Or.inl ⟨rfl,_,SqL.of At10.pr.pr⟩,_,rfl,Or.inl ⟨L,_,_,.str l0,rfl,rfl,SqL.of At10.el,at0',_,rfl,Or.inl ⟨L,_,_,.str l0,rfl,rfl,SqL.of At10.el,at0',Zbv,fun t ht=>?_⟩⟩⟩;have s1':=Zaj (o:=.lst [.str l0,.str l0]) ht;have et:(upd H10 t (.lst [.str l0,.str l0])) t=some (.lst ((wG (l0,l0)).map V.str)):=Zac;generalize upd H10 t (.lst [.str l0,.str l0])=H11 at s1' et ⊢
    have lpt:pt.length=ps.length:=by rw [At10.pr.pp.len,Xaa]
    have lpz:=St10.pz;have T1:=(At10.st.tag (g:=(5,0)) ht).same s1';have P1:=(At10.pr.tag (g:=(5,0)) ht).same s1';refine ⟨P,_,_,0,rfl,rfl,P1.pr,by decide,Int.natCast_nonneg _,by rw [Xaa];omega,?_⟩;have e2:(pt.map V.ref).take (0:Int).toNat++V.ref t :: (pt.map V.ref).drop (0:Int).toNat=(t :: pt).map V.ref:=rfl;rw [e2]
    have P2:=P1.put (pt':=t :: pt) (ps':=(l0,l0) :: ps) (by
     have:=(Wds.nil (H:=H11)).snoc et
     exact this.app P1.pp) (fun x hx=>by
     rcases Xam.mp hx with z | z
     · rw [z];exact ZbW
     · exact P1.kQ x z)
    have T2:=T1.upd (zs:=(t :: pt).map V.ref) P1.pr (by rw [P1.kP];intro z;cases z) (fun i=>by rw [P1.kP];intro z;cases z) (fun i=>by rw [P1.kP];intro z;cases z) (fun i=>by rw [P1.kP];intro z;cases z)
    have M2:ModK κ10 H10 (upd H11 P (.lst ((t :: pt).map V.ref))):=fun b o e kb=>by
     rw [Zaf (fun z=>by rw [z,At10.pr.kP] at kb;cases kb)];exact s1' b o e
    have X2:ExtK H10 κ10 (setK κ10 t (5,0)):=ExtK.set ht;generalize upd H11 P (.lst ((t :: pt).map V.ref))=H12 at T2 P2 M2 ⊢;have At12:=At10.go T2 P2 X2 M2;refine ⟨_,rfl,Or.inl ⟨rfl,_,SqL.of At12.du⟩,Du,_,_,rfl,rfl,At12.du,by rw [Xaa];exact Zak (by omega),?_⟩;exact hN _ _ ⟨_,_,_,_,rfl,At12.push _,St10.ring (hnm _ m0),by rw [Xac];show _+1≤4;omega⟩
   clear At10 St10 lds;rintro σ' H11 ⟨κ11,pt,ps,ds,rfl,At11,St11,lds⟩
   have hne:rs≠[]:=fun z=>by rw [z] at hrl;simp at hrl;omega
   refine Zcw (fun σ' H'=>∃ (κ:Tag) (rs:List RwS) (pt:List Addr) (ps:List (Str×Str)) (ds:List Str),σ'=[some (.ref a),some (.ref L),some (.int sz),some (.int mn),some (.ref S),u5,u6,some (.str n),some (.ref P),some (.str (Txt.join (" " : Str) w0)),some (.int bits),some (.ref Du),u12,u13,none,none]∧At K H' κ a L S P Du ns ls rs pt ps ds∧GoodT (wsOf rs) n ps∧OutT (wT (wsOf rs) n ps) (Zcz ds)∧rs.length≤9∧(∀ r∈rs,r.s.1.length≤14∧r.s.2.length≤18)∧ps.length≤60∧ds.length≤5) ?_ (fun N hN=>?_)
   case refine_2 =>
    refine ⟨_,rfl,_,_,rfl,rfl,⟨by decide,by decide⟩,_,_,rfl,rfl,(by show (0:Int)<2;decide),rfl,_,rfl,ite2 (fun _=>?_) (fun _=>?_)⟩;rotate_left
    · exact hN _ _ ⟨κ11,rs,pt,ps,ds,rfl,At11,St11.gd,St11.out (by decide) (by decide) (by decide),by omega,fun r hr=>by have:=St11.sz r.s (List.mem_map_of_mem hr);omega,by have:=St11.pz;omega,by omega⟩
    refine ⟨_,rfl,_,rfl,_,rfl,a,ns,6,rfl,by decide,At11.sa.sq,_,_,rfl,rfl,⟨by decide,by decide⟩,S,P,ZbT ns 6 / 49,κ11,rs,pt,ps,rfl,At11.st,At11.pr,hne,by omega,fun r hr=>by have:=St11.sz r.s (List.mem_map_of_mem hr);omega,by have:=St11.pz;omega,fun κ' rs' pt' ps' H12 D T=>?_⟩;have At12:=At11.go T.st T.pr T.ex T.md;refine ⟨_,rfl,Or.inl ⟨rfl,_,SqL.of At12.du⟩,Du,_,_,rfl,rfl,At12.du,by rw [Xaa];exact Zak (by omega),?_⟩;obtain ⟨g1,g2,g3,g4,g5⟩:=St11.more D;rw [Xaa] at g3;exact hN _ _ ⟨κ',rs',pt',ps',_,rfl,At12.push _,g1,g2,g3,fun r hr=>by have:=g4 r.s (List.mem_map_of_mem hr);omega,by omega,by rw [Xac];show _+1≤5;omega⟩
   clear At11 St11 lds hne hrl;rintro σ' H12 ⟨κ12,rs,pt,ps,ds,rfl,At12,gd,hout,l9,sz12,lp,lds⟩;refine ⟨_,rfl,_,rfl,_,rfl,S,P,κ12,rs,n,pt,ps,rfl,At12.st,At12.pr,l9,sz12,lp,fun Wd H13 hWd s13 eWd=>?_⟩;refine g_in ?_;try dsimp only
   have At13:=At12.same s13;have lw:(wT (wsOf rs) n ps).length≤741:=wT_len (fun s hs=>by obtain ⟨r,hr,rfl⟩:=Xai.mp hs;exact sz12 r hr) (by rw [Xaa];omega) (by omega)
   refine Zcw (fun σ' H'=>∃ (Wd:Addr) (ws ds:List Str),σ'=[some (.ref a),some (.ref L),some (.int sz),some (.int mn),some (.ref S),u5,u6,some (.str n),some (.ref P),some (.str (Txt.join (" " : Str) w0)),some (.int bits),some (.ref Du),u12,u13,some (.ref Wd),none]∧H' Wd=some (.lst (ws.map V.str))∧H' Du=some (.lst (ds.map V.str))∧OutT ws (Zcz ds)∧ws≠[]∧ws.length≤890∧∀ x∈ws,32 ∉ x.cps.toList∧x.length≤9) ?_ (fun N hN=>?_)
   case refine_2 =>
    refine ⟨_,rfl,_,_,rfl,rfl,⟨by decide,by decide⟩,_,_,rfl,rfl,(by show (0:Int)<2;decide),rfl,_,rfl,ite2 (fun _=>?_) (fun _=>?_)⟩;rotate_left
    · exact hN _ _ ⟨Wd,_,ds,rfl,eWd,At13.du,hout,by unfold wT;simp,by omega,fun x hx=>Zkf gd hx⟩
    have eWd':H13 Wd=some (.lst ((btw "/" ((wsOf rs).map wS)++("|" : Str) :: ([n]++("|" : Str) :: btw "," (ps.map wG))).map V.str)):=by rw [←Zd2];exact eWd
    refine ⟨_,rfl,_,rfl,a,ns,6,rfl,by decide,At13.sa.sq,Wd,btw "/" ((wsOf rs).map wS),[n]++("|" : Str) :: btw "," (ps.map wG),ZbT ns 6,rfl,eWd',Zi5 gd.s,by rw [←Zd2];omega,fun D ws' H14 hb hD s14 eD=>?_⟩
    refine g_in ?_;try dsimp only
    have At14:=At13.same s14;obtain ⟨b1,b2,b3⟩:=Zkn gd hb
    have nDd:D≠Du:=fun z=>by rw [z,At13.du] at hD;cases hD
    refine ⟨_,rfl,Or.inl ⟨rfl,_,SqL.of At14.du⟩,Du,_,_,rfl,rfl,At14.du,by rw [Xaa];exact Zak (by omega),?_⟩
    refine hN _ _ ⟨D,ws',ds++[("text" : Str)],rfl,by rw [Zaf nDd];exact eD,by rw [Zac,Xad];rfl,?_,b2,by omega,b1⟩
    rw [Zfe,Xba Zch];exact .inr ⟨brk_no gd hb,rfl⟩
   clear At12 At13 hout lds;rintro σ' H14 ⟨Wd,ws,ds,rfl,eWd,eDu,hout,wne,wlen,wok⟩;refine ⟨_,rfl,Zbc,fun D1 hD1=>?_⟩
   obtain ⟨H15,qH15,t1,eD1⟩:=new_at (o:=.lst [.str (Txt.join (" " : Str) w0)]) hD1
   rw [←qH15];refine ⟨show 4≤sizeLine by decide,fun D2 hD2=>?_⟩;obtain ⟨H16,qH16,t2,eD2⟩:=new_at (o:=.lst [.non,.int 7,.ref D1,.bl true]) hD2;rw [←qH16];have eD1:=t2 _ _ eD1;have t12:=t1.trans t2
   refine ⟨D2,rfl,⟨_,SqL.of eD2⟩,Za2 (xs:=[.non,.int 7,.ref D1,.bl true]) (fun i σ H'=>∃ u15,σ=[some (.ref a),some (.ref L),some (.int sz),some (.int mn),some (.ref S),u5,u6,some (.str n),some (.ref P),some (.str (Txt.join (" " : Str) w0)),some (.int bits),some (.ref Du),u12,u13,some (.ref Wd),u15]∧Same H16 H') ⟨none,rfl,Same.refl _⟩ (fun i σ H' _ ⟨_,_,e⟩=>SqL.of (e _ _ eD2)) ?_ ?_⟩
   · rintro i x σ H17 hx ⟨u15,rfl,t3⟩
     have ty:∃ T',TyN K H17 x T'∧isiB T' .str=false:=by
      have:=Xah hx
      simp only [Xam,List.not_mem_nil,or_false] at this
      rcases this with e | e | e | e <;> rw [e]
      · exact ⟨_,.non,rfl⟩
      · exact ⟨_,.int _,rfl⟩
      · exact ⟨_,.lst (SqL.of (t3 _ _ eD1)),rfl⟩
      · exact ⟨_,.bl _,rfl⟩
     obtain ⟨T',ty,ht⟩:=ty
     refine ⟨_,rfl,x,fun w=>w = "text",rfl,.inl ⟨T',ty,ht,rfl⟩,fun w H18 hw t4=>?_⟩
     subst hw;refine ⟨rfl,_,rfl,?_⟩
     rw [show (!decide (V.str "text" = V.str "text"))=false by simp]
     exact iteF ⟨_,rfl,t3.trans t4⟩
   rintro σ H17 ⟨u15,rfl,t3⟩;have t17:=t12.trans t3
   refine ⟨rfl,_,rfl,(" " : Str),Wd,ws,rfl,rfl,SqL.of (t17 _ _ eWd),Ziu (fun x hx=>(wok x hx).2) (by omega),?_⟩
   refine ⟨_,fun w=>w=Zcz ds,rfl,.inr ⟨ws,rfl,wne,wlen,wok,fun w hw=>ZiG hw hout⟩,fun w H18 hw t4=>?_⟩;subst hw;refine ⟨_,rfl,Du,ds,rfl,SqL.of ((t17.trans t4) _ _ eDu),fun H19 t5=>?_⟩;refine ⟨rfl,_,rfl,?_⟩;rw [show decide (V.str (Zcz ds)=V.str (Zcz ds))=true by simp];refine iteT ?_
   refine ⟨_,rfl,_,fun w=>w = "made",rfl,.inr ⟨w0,rfl,n0,by omega,W0,fun w hw=>ZiG hw O0⟩,fun w H20 hw t6=>?_⟩
   subst hw;refine ⟨rfl,?_⟩
   have:=k H20
   rw [show V.bl true=V.bl (decide (V.str "made" = V.str "made")) by simp] at this
   exact this
variable (P w K mg base) in
abbrev C_law:Prop:=Zbb P w K mg base "law" 9 ["_law_script"] (Zhl K)
theorem call_law (B:Blt mg) (ER:Ers K mg) (c__law_names:ZcG P w K mg base) (c__law_cell_at:Zcc P w K mg base) (c__law_state:ZcH P w K mg base) (c__law_text:ZcX P w K mg base) (c__law_numbered:ZbX P w K mg base) (c__law_named:ZcJ P w K mg base) (c__law_more:ZcY P w K mg base) (c__law_broken:Zcn P w K mg base) (c__law_outcome:Zcg P w K mg base) (c__law_first:ZcM P w K mg base) (F:Fun K "law" "law" Zem f fd) (hm:mg "law" = some (.ref f)):C_law P w K mg base :=
 ⟨f,fd,ok_law B ER c__law_names c__law_cell_at c__law_state c__law_text c__law_numbered c__law_named c__law_more c__law_broken c__law_outcome c__law_first F,hm,F.kp,F.binds fun _ _ _ _ _ _ us hl=>(by obtain ⟨x0,rfl⟩:=ZcW hl;rfl)⟩
end
theorem all_mk {l:PySem.W.OpenLaw}{w:World}{K:XFg}{h:Heap}{mg:Str→Option Value}{fa:Addr} (X:K.In h) (G:h.Ns mainGlobals mg) (hfa:mg "law" = some (.ref fa)) (q:Facts K)
 : ∃ fd:FuncData,(∀ (s:Shared) (v:Value),BindsTo s fd ⟨[v],[]⟩ [("_law_script",v)])∧∀ base:Heap,K.In base→base.Ns mainGlobals mg→FnOk l.prog w K mg base CX0 9 fa fd ["_law_script"] (Zhl K):=by
 obtain @⟨f0,od0,an0,sl0,oc0,kV0,dc0,pm0,cd0,ct0,f1,od1,an1,sl1,oc1,kV1,dc1,pm1,cd1,ct1,f2,od2,an2,sl2,oc2,kV2,dc2,pm2,cd2,ct2,f3,od3,an3,sl3,oc3,kV3,dc3,pm3,cd3,ct3,f4,od4,an4,sl4,oc4,kV4,dc4,pm4,cd4,ct4,f5,od5,an5,sl5,oc5,kV5,dc5,pm5,cd5,ct5,f6,od6,an6,sl6,oc6,kV6,dc6,pm6,cd6,ct6,f7,od7,an7,sl7,oc7,kV7,dc7,pm7,cd7,ct7,f8,od8,an8,sl8,oc8,kV8,dc8,pm8,cd8,ct8,f9,od9,an9,sl9,oc9,kV9,dc9,pm9,cd9,ct9,f10,od10,an10,sl10,oc10,kV10,dc10,pm10,cd10,ct10,f11,od11,an11,sl11,oc11,kV11,dc11,pm11,cd11,ct11,f12,od12,an12,sl12,oc12,kV12,dc12,pm12,cd12,ct12,f13,od13,an13,sl13,oc13,kV13,dc13,pm13,cd13,ct13,f14,od14,an14,sl14,oc14,kV14,dc14,pm14,cd14,ct14,f15,od15,an15,sl15,oc15,kV15,dc15,pm15,cd15,ct15,f16,od16,an16,sl16,oc16,kV16,dc16,pm16,cd16,ct16,f17,od17,an17,sl17,oc17,kV17,dc17,pm17,cd17,ct17,f18,od18,an18,sl18,oc18,kV18,dc18,pm18,cd18,ct18,f19,od19,an19,sl19,oc19,kV19,dc19,pm19,cd19,ct19,f20,od20,an20,sl20,oc20,kV20,dc20,pm20,cd20,ct20,f21,od21,an21,sl21,oc21,kV21,dc21,pm21,cd21,ct21,f22,od22,an22,sl22,oc22,kV22,dc22,pm22,cd22,ct22,f23,od23,an23,sl23,oc23,kV23,dc23,pm23,cd23,ct23,f24,od24,an24,sl24,oc24,kV24,dc24,pm24,cd24,ct24,f25,od25,an25,sl25,oc25,kV25,dc25,pm25,cd25,ct25,f26,od26,an26,sl26,oc26,kV26,dc26,pm26,cd26,ct26,f27,od27,an27,sl27,oc27,kV27,dc27,pm27,cd27,ct27,f28,od28,an28,sl28,oc28,kV28,dc28,pm28,cd28,ct28,f29,od29,an29,sl29,oc29,kV29,dc29,pm29,cd29,ct29,f30,od30,an30,sl30,oc30,kV30,dc30,pm30,cd30,ct30,f31,od31,an31,sl31,oc31,kV31,dc31,pm31,cd31,ct31,f32,od32,an32,sl32,oc32,kV32,dc32,pm32,cd32,ct32,f33,od33,an33,sl33,oc33,kV33,dc33,pm33,cd33,ct33,f34,od34,an34,sl34,oc34,kV34,dc34,pm34,cd34,ct34,f35,od35,an35,sl35,oc35,kV35,dc35,pm35,cd35,ct35,f36,od36,an36,sl36,oc36,kV36,dc36,pm36,cd36,ct36,f37,od37,an37,sl37,oc37,kV37,dc37,pm37,cd37,ct37,tc_LONGEST_NAME,tc_MOST_ENDS,tc_MOST_FIGURES,tc_MOST_GOES,tc_MOST_PAIRS,tc_MOST_STATES,C_Caught,C_NoName,C_NoPlace,C_NoRow,C_NoText,C_PathError,C_Ring,C_Tangled,C_TooGreat,C_Twice,a0,l0,c0,k0,a1,l1,c1,k1,a2,l2,c2,k2,a3,l3,c3,k3,a4,l4,c4,k4,a5,l5,c5,k5,a6,l6,c6,k6,a7,l7,c7,k7,a8,l8,c8,k8,a9,l9,c9,k9,a10,l10,c10,k10,a11,l11,c11,k11,a12,l12,c12,k12,a13,l13,c13,k13,a14,l14,c14,k14,a15,l15,c15,k15,a16,l16,c16,k16,a17,l17,c17,k17,a18,l18,c18,k18,a19,l19,c19,k19,a20,l20,c20,k20,a21,l21,c21,k21,a22,l22,c22,k22,a23,l23,c23,k23,a24,l24,c24,k24,a25,l25,c25,k25,a26,l26,c26,k26,a27,l27,c27,k27,a28,l28,c28,k28,a29,l29,c29,k29,xi29,fi29,a30,l30,c30,k30,a31,l31,c31,k31,a32,l32,c32,k32,a33,l33,c33,k33,a34,l34,c34,k34,a35,l35,c35,k35,a36,l36,c36,k36,a37,l37,c37,k37,z_ValueError,z_all,z_any,z_bool,z_int,z_isinstance,z_len,z_list,z_range,z_set,z_sorted,z_str,z_tuple,y_LONGEST_NAME,y_MOST_ENDS,y_MOST_FIGURES,y_MOST_GOES,y_MOST_PAIRS,y_MOST_STATES,T_SIGNS,od_SIGNS,tn_SIGNS,sl_SIGNS,tk0_SIGNS,tk1_SIGNS,tk2_SIGNS,tk3_SIGNS,g_SIGNS,tl_SIGNS,g_Caught,g_NoName,g_NoPlace,g_NoRow,g_NoText,g_PathError,g_Ring,g_Tangled,g_TooGreat,g_Twice,x_NoName,x_NoPlace,x_NoText,x_PathError,x_TooGreat,x_Twice,hn0,ht0,op0,ty_PathError,fc_PathError,kp_Ring,hd_Ring,sa_Ring,na_Ring_ring,p_NoName,pa_NoName,pb_NoName,q_NoName,m_NoName,w_NoName,u_NoName_PathError,r_NoName_Caught,r_NoName_NoName,r_NoName_NoPlace,r_NoName_NoRow,r_NoName_NoText,r_NoName_Ring,r_NoName_Tangled,r_NoName_TooGreat,r_NoName_Twice,n_NoName_Caught,n_NoName_NoPlace,n_NoName_NoRow,n_NoName_NoText,n_NoName_Ring,n_NoName_Tangled,n_NoName_TooGreat,n_NoName_Twice,p_NoPlace,pa_NoPlace,pb_NoPlace,q_NoPlace,m_NoPlace,w_NoPlace,u_NoPlace_PathError,r_NoPlace_Caught,r_NoPlace_NoName,r_NoPlace_NoPlace,r_NoPlace_NoRow,r_NoPlace_NoText,r_NoPlace_Ring,r_NoPlace_Tangled,r_NoPlace_TooGreat,r_NoPlace_Twice,n_NoPlace_Caught,n_NoPlace_NoName,n_NoPlace_NoRow,n_NoPlace_NoText,n_NoPlace_Ring,n_NoPlace_Tangled,n_NoPlace_TooGreat,n_NoPlace_Twice,p_NoText,pa_NoText,pb_NoText,q_NoText,m_NoText,w_NoText,u_NoText_PathError,r_NoText_Caught,r_NoText_NoName,r_NoText_NoPlace,r_NoText_NoRow,r_NoText_NoText,r_NoText_Ring,r_NoText_Tangled,r_NoText_TooGreat,r_NoText_Twice,n_NoText_Caught,n_NoText_NoName,n_NoText_NoPlace,n_NoText_NoRow,n_NoText_Ring,n_NoText_Tangled,n_NoText_TooGreat,n_NoText_Twice,p_Ring,pa_Ring,pb_Ring,q_Ring,m_Ring,w_Ring,u_Ring_PathError,r_Ring_Caught,r_Ring_NoName,r_Ring_NoPlace,r_Ring_NoRow,r_Ring_NoText,r_Ring_Ring,r_Ring_Tangled,r_Ring_TooGreat,r_Ring_Twice,n_Ring_Caught,n_Ring_NoName,n_Ring_NoPlace,n_Ring_NoRow,n_Ring_NoText,n_Ring_Tangled,n_Ring_TooGreat,n_Ring_Twice,p_TooGreat,pa_TooGreat,pb_TooGreat,q_TooGreat,m_TooGreat,w_TooGreat,u_TooGreat_PathError,r_TooGreat_Caught,r_TooGreat_NoName,r_TooGreat_NoPlace,r_TooGreat_NoRow,r_TooGreat_NoText,r_TooGreat_Ring,r_TooGreat_Tangled,r_TooGreat_TooGreat,r_TooGreat_Twice,n_TooGreat_Caught,n_TooGreat_NoName,n_TooGreat_NoPlace,n_TooGreat_NoRow,n_TooGreat_NoText,n_TooGreat_Ring,n_TooGreat_Tangled,n_TooGreat_Twice,p_Twice,pa_Twice,pb_Twice,q_Twice,m_Twice,w_Twice,u_Twice_PathError,r_Twice_Caught,r_Twice_NoName,r_Twice_NoPlace,r_Twice_NoRow,r_Twice_NoText,r_Twice_Ring,r_Twice_Tangled,r_Twice_TooGreat,r_Twice_Twice,n_Twice_Caught,n_Twice_NoName,n_Twice_NoPlace,n_Twice_NoRow,n_Twice_NoText,n_Twice_Ring,n_Twice_Tangled,n_Twice_TooGreat,o_Caught,t_Caught,o_NoName,t_NoName,o_NoPlace,t_NoPlace,o_NoRow,t_NoRow,o_NoText,t_NoText,o_Ring,t_Ring,o_Tangled,t_Tangled,o_TooGreat,t_TooGreat,o_Twice,t_Twice⟩:=q
 have e:=hfa.symm.trans (PySem.W.mg_of X G a37);cases e;have B:Blt mg:=⟨Xbo X G z_ValueError,Xbo X G z_all,Xbo X G z_any,Xbo X G z_bool,Xbo X G z_int,Xbo X G z_isinstance,Xbo X G z_len,Xbo X G z_list,Xbo X G z_range,Xbo X G z_set,Xbo X G z_sorted,Xbo X G z_str,Xbo X G z_tuple,⟨_,PySem.W.mg_of X G y_LONGEST_NAME⟩,⟨_,PySem.W.mg_of X G y_MOST_ENDS⟩,⟨_,PySem.W.mg_of X G y_MOST_FIGURES⟩,⟨_,PySem.W.mg_of X G y_MOST_GOES⟩,⟨_,PySem.W.mg_of X G y_MOST_PAIRS⟩,⟨_,PySem.W.mg_of X G y_MOST_STATES⟩⟩
 have e_SIGNS:clsA K "SIGNS" = T_SIGNS:=Zcy g_SIGNS
 have e_Caught:clsA K "Caught" = C_Caught:=Zcy g_Caught
 have e_NoName:clsA K "NoName" = C_NoName:=Zcy g_NoName
 have e_NoPlace:clsA K "NoPlace" = C_NoPlace:=Zcy g_NoPlace
 have e_NoRow:clsA K "NoRow" = C_NoRow:=Zcy g_NoRow
 have e_NoText:clsA K "NoText" = C_NoText:=Zcy g_NoText
 have e_PathError:clsA K "PathError" = C_PathError:=Zcy g_PathError
 have e_Ring:clsA K "Ring" = C_Ring:=Zcy g_Ring
 have e_Tangled:clsA K "Tangled" = C_Tangled:=Zcy g_Tangled
 have e_TooGreat:clsA K "TooGreat" = C_TooGreat:=Zcy g_TooGreat
 have e_Twice:clsA K "Twice" = C_Twice:=Zcy g_Twice
 have ER:Ers K mg:=⟨by rw [e_SIGNS];exact PySem.W.mg_of X G g_SIGNS,fun H=>by rw [e_SIGNS];exact .inr ⟨_,_,_,tl_SIGNS,rfl,rfl,(show 4≤sizeLine by decide),(.cons ⟨_,rfl⟩ (.cons ⟨_,rfl⟩ (.cons ⟨_,rfl⟩ (.cons ⟨_,rfl⟩ .nil))))⟩,by rw [e_Caught];exact PySem.W.mg_of X G g_Caught,by rw [e_NoName];exact PySem.W.mg_of X G g_NoName,by rw [e_NoPlace];exact PySem.W.mg_of X G g_NoPlace,by rw [e_NoRow];exact PySem.W.mg_of X G g_NoRow,by rw [e_NoText];exact PySem.W.mg_of X G g_NoText,by rw [e_PathError];exact PySem.W.mg_of X G g_PathError,by rw [e_Ring];exact PySem.W.mg_of X G g_Ring,by rw [e_Tangled];exact PySem.W.mg_of X G g_Tangled,by rw [e_TooGreat];exact PySem.W.mg_of X G g_TooGreat,by rw [e_Twice];exact PySem.W.mg_of X G g_Twice,by rw [e_NoName];exact ⟨PySem.W.mg_of X G g_NoName,x_NoName⟩,by rw [e_NoPlace];exact ⟨PySem.W.mg_of X G g_NoPlace,x_NoPlace⟩,by rw [e_NoText];exact ⟨PySem.W.mg_of X G g_NoText,x_NoText⟩,by rw [e_PathError];exact ⟨PySem.W.mg_of X G g_PathError,x_PathError⟩,by rw [e_TooGreat];exact ⟨PySem.W.mg_of X G g_TooGreat,x_TooGreat⟩,by rw [e_Twice];exact ⟨PySem.W.mg_of X G g_Twice,x_Twice⟩,by rw [e_PathError];exact ⟨op0,ty_PathError,fc_PathError⟩,by rw [e_Ring];exact kp_Ring,by rw [e_Ring];exact xform_x xi29,by rw [e_Ring];exact ⟨_,xi29⟩,by rw [e_Ring];exact hd_Ring,by rw [e_Ring];exact sa_Ring,by rw [e_Ring];exact na_Ring_ring,by rw [e_NoName];exact Zdk p_NoName pa_NoName pb_NoName q_NoName hn0 ht0 m_NoName,by rw [e_NoName];exact ZfA w_NoName,by rw [e_NoName,e_PathError];exact Zcr u_NoName_PathError,by rw [e_NoName,e_Caught];exact Zap (Zaq o_Caught t_Caught r_NoName_Caught),by rw [e_NoName];exact Zap (Zaq o_NoName t_NoName r_NoName_NoName),by rw [e_NoName,e_NoPlace];exact Zap (Zaq o_NoPlace t_NoPlace r_NoName_NoPlace),by rw [e_NoName,e_NoRow];exact Zap (Zaq o_NoRow t_NoRow r_NoName_NoRow),by rw [e_NoName,e_NoText];exact Zap (Zaq o_NoText t_NoText r_NoName_NoText),by rw [e_NoName,e_Ring];exact Zap (Zaq o_Ring t_Ring r_NoName_Ring),by rw [e_NoName,e_Tangled];exact Zap (Zaq o_Tangled t_Tangled r_NoName_Tangled),by rw [e_NoName,e_TooGreat];exact Zap (Zaq o_TooGreat t_TooGreat r_NoName_TooGreat),by rw [e_NoName,e_Twice];exact Zap (Zaq o_Twice t_Twice r_NoName_Twice),by rw [e_NoName,e_Caught];exact n_NoName_Caught,by rw [e_NoName,e_NoPlace];exact n_NoName_NoPlace,by rw [e_NoName,e_NoRow];exact n_NoName_NoRow,by rw [e_NoName,e_NoText];exact n_NoName_NoText,by rw [e_NoName,e_Ring];exact n_NoName_Ring,by rw [e_NoName,e_Tangled];exact n_NoName_Tangled,by rw [e_NoName,e_TooGreat];exact n_NoName_TooGreat,by rw [e_NoName,e_Twice];exact n_NoName_Twice,by rw [e_NoPlace];exact Zdk p_NoPlace pa_NoPlace pb_NoPlace q_NoPlace hn0 ht0 m_NoPlace,by rw [e_NoPlace];exact ZfA w_NoPlace,by rw [e_NoPlace,e_PathError];exact Zcr u_NoPlace_PathError,by rw [e_NoPlace,e_Caught];exact Zap (Zaq o_Caught t_Caught r_NoPlace_Caught),by rw [e_NoPlace,e_NoName];exact Zap (Zaq o_NoName t_NoName r_NoPlace_NoName),by rw [e_NoPlace];exact Zap (Zaq o_NoPlace t_NoPlace r_NoPlace_NoPlace),by rw [e_NoPlace,e_NoRow];exact Zap (Zaq o_NoRow t_NoRow r_NoPlace_NoRow),by rw [e_NoPlace,e_NoText];exact Zap (Zaq o_NoText t_NoText r_NoPlace_NoText),by rw [e_NoPlace,e_Ring];exact Zap (Zaq o_Ring t_Ring r_NoPlace_Ring),by rw [e_NoPlace,e_Tangled];exact Zap (Zaq o_Tangled t_Tangled r_NoPlace_Tangled),by rw [e_NoPlace,e_TooGreat];exact Zap (Zaq o_TooGreat t_TooGreat r_NoPlace_TooGreat),by rw [e_NoPlace,e_Twice];exact Zap (Zaq o_Twice t_Twice r_NoPlace_Twice),by rw [e_NoPlace,e_Caught];exact n_NoPlace_Caught,by rw [e_NoPlace,e_NoName];exact n_NoPlace_NoName,by rw [e_NoPlace,e_NoRow];exact n_NoPlace_NoRow,by rw [e_NoPlace,e_NoText];exact n_NoPlace_NoText,by rw [e_NoPlace,e_Ring];exact n_NoPlace_Ring,by rw [e_NoPlace,e_Tangled];exact n_NoPlace_Tangled,by rw [e_NoPlace,e_TooGreat];exact n_NoPlace_TooGreat,by rw [e_NoPlace,e_Twice];exact n_NoPlace_Twice,by rw [e_NoText];exact Zdk p_NoText pa_NoText pb_NoText q_NoText hn0 ht0 m_NoText,by rw [e_NoText];exact ZfA w_NoText,by rw [e_NoText,e_PathError];exact Zcr u_NoText_PathError,by rw [e_NoText,e_Caught];exact Zap (Zaq o_Caught t_Caught r_NoText_Caught),by rw [e_NoText,e_NoName];exact Zap (Zaq o_NoName t_NoName r_NoText_NoName),by rw [e_NoText,e_NoPlace];exact Zap (Zaq o_NoPlace t_NoPlace r_NoText_NoPlace),by rw [e_NoText,e_NoRow];exact Zap (Zaq o_NoRow t_NoRow r_NoText_NoRow),by rw [e_NoText];exact Zap (Zaq o_NoText t_NoText r_NoText_NoText),by rw [e_NoText,e_Ring];exact Zap (Zaq o_Ring t_Ring r_NoText_Ring),by rw [e_NoText,e_Tangled];exact Zap (Zaq o_Tangled t_Tangled r_NoText_Tangled),by rw [e_NoText,e_TooGreat];exact Zap (Zaq o_TooGreat t_TooGreat r_NoText_TooGreat),by rw [e_NoText,e_Twice];exact Zap (Zaq o_Twice t_Twice r_NoText_Twice),by rw [e_NoText,e_Caught];exact n_NoText_Caught,by rw [e_NoText,e_NoName];exact n_NoText_NoName,by rw [e_NoText,e_NoPlace];exact n_NoText_NoPlace,by rw [e_NoText,e_NoRow];exact n_NoText_NoRow,by rw [e_NoText,e_Ring];exact n_NoText_Ring,by rw [e_NoText,e_Tangled];exact n_NoText_Tangled,by rw [e_NoText,e_TooGreat];exact n_NoText_TooGreat,by rw [e_NoText,e_Twice];exact n_NoText_Twice,by rw [e_Ring];exact Zdk p_Ring pa_Ring pb_Ring q_Ring hn0 ht0 m_Ring,by rw [e_Ring];exact ZfA w_Ring,by rw [e_Ring,e_PathError];exact Zcr u_Ring_PathError,by rw [e_Ring,e_Caught];exact Zap (Zaq o_Caught t_Caught r_Ring_Caught),by rw [e_Ring,e_NoName];exact Zap (Zaq o_NoName t_NoName r_Ring_NoName),by rw [e_Ring,e_NoPlace];exact Zap (Zaq o_NoPlace t_NoPlace r_Ring_NoPlace),by rw [e_Ring,e_NoRow];exact Zap (Zaq o_NoRow t_NoRow r_Ring_NoRow),by rw [e_Ring,e_NoText];exact Zap (Zaq o_NoText t_NoText r_Ring_NoText),by rw [e_Ring];exact Zap (Zaq o_Ring t_Ring r_Ring_Ring),by rw [e_Ring,e_Tangled];exact Zap (Zaq o_Tangled t_Tangled r_Ring_Tangled),by rw [e_Ring,e_TooGreat];exact Zap (Zaq o_TooGreat t_TooGreat r_Ring_TooGreat),by rw [e_Ring,e_Twice];exact Zap (Zaq o_Twice t_Twice r_Ring_Twice),by rw [e_Ring,e_Caught];exact n_Ring_Caught,by rw [e_Ring,e_NoName];exact n_Ring_NoName,by rw [e_Ring,e_NoPlace];exact n_Ring_NoPlace,by rw [e_Ring,e_NoRow];exact n_Ring_NoRow,by rw [e_Ring,e_NoText];exact n_Ring_NoText,by rw [e_Ring,e_Tangled];exact n_Ring_Tangled,by rw [e_Ring,e_TooGreat];exact n_Ring_TooGreat,by rw [e_Ring,e_Twice];exact n_Ring_Twice,by rw [e_TooGreat];exact Zdk p_TooGreat pa_TooGreat pb_TooGreat q_TooGreat hn0 ht0 m_TooGreat,by rw [e_TooGreat];exact ZfA w_TooGreat,by rw [e_TooGreat,e_PathError];exact Zcr u_TooGreat_PathError,by rw [e_TooGreat,e_Caught];exact Zap (Zaq o_Caught t_Caught r_TooGreat_Caught),by rw [e_TooGreat,e_NoName];exact Zap (Zaq o_NoName t_NoName r_TooGreat_NoName),by rw [e_TooGreat,e_NoPlace];exact Zap (Zaq o_NoPlace t_NoPlace r_TooGreat_NoPlace),by rw [e_TooGreat,e_NoRow];exact Zap (Zaq o_NoRow t_NoRow r_TooGreat_NoRow),by rw [e_TooGreat,e_NoText];exact Zap (Zaq o_NoText t_NoText r_TooGreat_NoText),by rw [e_TooGreat,e_Ring];exact Zap (Zaq o_Ring t_Ring r_TooGreat_Ring),by rw [e_TooGreat,e_Tangled];exact Zap (Zaq o_Tangled t_Tangled r_TooGreat_Tangled),by rw [e_TooGreat];exact Zap (Zaq o_TooGreat t_TooGreat r_TooGreat_TooGreat),by rw [e_TooGreat,e_Twice];exact Zap (Zaq o_Twice t_Twice r_TooGreat_Twice),by rw [e_TooGreat,e_Caught];exact n_TooGreat_Caught,by rw [e_TooGreat,e_NoName];exact n_TooGreat_NoName,by rw [e_TooGreat,e_NoPlace];exact n_TooGreat_NoPlace,by rw [e_TooGreat,e_NoRow];exact n_TooGreat_NoRow,by rw [e_TooGreat,e_NoText];exact n_TooGreat_NoText,by rw [e_TooGreat,e_Ring];exact n_TooGreat_Ring,by rw [e_TooGreat,e_Tangled];exact n_TooGreat_Tangled,by rw [e_TooGreat,e_Twice];exact n_TooGreat_Twice,by rw [e_Twice];exact Zdk p_Twice pa_Twice pb_Twice q_Twice hn0 ht0 m_Twice,by rw [e_Twice];exact ZfA w_Twice,by rw [e_Twice,e_PathError];exact Zcr u_Twice_PathError,by rw [e_Twice,e_Caught];exact Zap (Zaq o_Caught t_Caught r_Twice_Caught),by rw [e_Twice,e_NoName];exact Zap (Zaq o_NoName t_NoName r_Twice_NoName),by rw [e_Twice,e_NoPlace];exact Zap (Zaq o_NoPlace t_NoPlace r_Twice_NoPlace),by rw [e_Twice,e_NoRow];exact Zap (Zaq o_NoRow t_NoRow r_Twice_NoRow),by rw [e_Twice,e_NoText];exact Zap (Zaq o_NoText t_NoText r_Twice_NoText),by rw [e_Twice,e_Ring];exact Zap (Zaq o_Ring t_Ring r_Twice_Ring),by rw [e_Twice,e_Tangled];exact Zap (Zaq o_Tangled t_Tangled r_Twice_Tangled),by rw [e_Twice,e_TooGreat];exact Zap (Zaq o_TooGreat t_TooGreat r_Twice_TooGreat),by rw [e_Twice];exact Zap (Zaq o_Twice t_Twice r_Twice_Twice),by rw [e_Twice,e_Caught];exact n_Twice_Caught,by rw [e_Twice,e_NoName];exact n_Twice_NoName,by rw [e_Twice,e_NoPlace];exact n_Twice_NoPlace,by rw [e_Twice,e_NoRow];exact n_Twice_NoRow,by rw [e_Twice,e_NoText];exact n_Twice_NoText,by rw [e_Twice,e_Ring];exact n_Twice_Ring,by rw [e_Twice,e_Tangled];exact n_Twice_Tangled,by rw [e_Twice,e_TooGreat];exact n_Twice_TooGreat⟩
 have F0:=ZaM (st:=Za5) l0 c0 k0;have F1:=ZaM (st:=Zbf) l1 c1 k1;have F2:=ZaM (st:=Zby) l2 c2 k2;have F3:=ZaM (st:=Zbz) l3 c3 k3;have F4:=ZaM (st:=ZbR) l4 c4 k4;have F5:=ZaM (st:=Zbg) l5 c5 k5;have F6:=ZaM (st:=ZaY) l6 c6 k6;have F7:=ZaM (st:=ZbA) l7 c7 k7;have F8:=ZaM (st:=Zbh) l8 c8 k8;have F9:=ZaM (st:=Zbq) l9 c9 k9;have F10:=ZaM (st:=ZcS) l10 c10 k10;have F11:=ZaM (st:=ZbB) l11 c11 k11;have F12:=ZaM (st:=ZbC) l12 c12 k12;have F13:=ZaM (st:=Za6) l13 c13 k13;have F14:=ZaM (st:=Za7) l14 c14 k14;have F15:=ZaM (st:=ZaJ) l15 c15 k15;have F16:=ZaM (st:=ZbD) l16 c16 k16;have F17:=ZaM (st:=Zbr) l17 c17 k17;have F18:=ZaM (st:=Zci) l18 c18 k18;have F19:=ZaM (st:=ZaP) l19 c19 k19;have F20:=ZaM (st:=Zb2) l20 c20 k20;have F21:=ZaM (st:=Zb3) l21 c21 k21;have F22:=ZaM (st:=ZaK) l22 c22 k22;have F23:=ZaM (st:=Zbi) l23 c23 k23;have F24:=ZaM (st:=Zbj) l24 c24 k24;have F25:=ZaM (st:=ZaQ) l25 c25 k25;have F26:=ZaM (st:=Zcs) l26 c26 k26;have F27:=ZaM (st:=ZaL) l27 c27 k27;have F28:=ZaM (st:=Zbk) l28 c28 k28;have F29:=ZaM (st:=Zbl) l29 c29 k29
 have X29:PySem.W.xIn K (clsA K "Ring") f29=true:=by rw [e_Ring];exact xi29
 have F30:=ZaM (st:=Zdv) l30 c30 k30;have F31:=ZaM (st:=Zb4) l31 c31 k31;have F32:=ZaM (st:=ZaW) l32 c32 k32;have F33:=ZaM (st:=ZbS) l33 c33 k33;have F34:=ZaM (st:=Za8) l34 c34 k34;have F35:=ZaM (st:=Zbm) l35 c35 k35;have F36:=ZaM (st:=ZbE) l36 c36 k36;have F37:=ZaM (st:=Zem) l37 c37 k37
 refine ⟨PySem.W.fnOf "law" "law" (Zaw Zem) (Zav Zem) (Zae Zem) .none kV37 dc37 pm37 an37 cd37 ct37,fun s v=>.of_eq rfl,fun base _ _=>?_⟩
 have K__law_names:ZcG l.prog w K mg base:=ZeW B ER  F0 (PySem.W.mg_of X G a0);have K__law_cell_at:Zcc l.prog w K mg base:=Zd4 B ER  F1 (PySem.W.mg_of X G a1);have K__law_state:ZcH l.prog w K mg base:=ZeY B ER  F2 (PySem.W.mg_of X G a2);have K__law_comma:ZcI l.prog w K mg base:=ZeZ B ER  F3 (PySem.W.mg_of X G a3);have K__law_text:ZcX l.prog w K mg base:=Zfg B ER K__law_comma F4 (PySem.W.mg_of X G a4);have K__law_figures:Zcd l.prog w K mg base:=Zd5 B ER  F5 (PySem.W.mg_of X G a5);have K__law_numbered:ZbX l.prog w K mg base:=ZdP B ER K__law_figures F6 (PySem.W.mg_of X G a6);have K__law_named:ZcJ l.prog w K mg base:=Ze1 B ER  F7 (PySem.W.mg_of X G a7);have K__law_more:ZcY l.prog w K mg base:=Zfh B ER  F8 (PySem.W.mg_of X G a8);have K__law_broken:Zcn l.prog w K mg base:=Zep B ER  F9 (PySem.W.mg_of X G a9);have K_parted:ZcK l.prog w K mg base:=ZhN B ER  F10 (PySem.W.mg_of X G a10)
 have K_read_twos:Zar l.prog w K mg base "read_twos" 2 ["words"] (ZbF K):=Zfj B ER K_parted F11 (PySem.W.mg_of X G a11)
 have K_read_label:Zar l.prog w K mg base "read_label" 1 ["word"] (Zbu K):=Ze2 B ER  F12 (PySem.W.mg_of X G a12)
 have K_read_number:Zar l.prog w K mg base "read_number" 1 ["word"] (Zbn K):=Zeq B ER  F13 (PySem.W.mg_of X G a13)
 have K_read_state:Zar l.prog w K mg base "read_state" 3 ["words"] (ZbY K):=Ze3 B ER K_parted K_read_twos K_read_label K_read_number F14 (PySem.W.mg_of X G a14)
 have K_refuse_too_great:Zar l.prog w K mg base "refuse_too_great" 1 ["states", "pairs"] (Za0 K):=Zda B ER  F15 (PySem.W.mg_of X G a15)
 have K_labels_of:Zca l.prog w K mg base:=Zfl B ER  F16 (PySem.W.mg_of X G a16);have K_labels_told:Zco l.prog w K mg base:=Zer B ER K_labels_of F17 (PySem.W.mg_of X G a17);have K_is_name:ZdR l.prog w K mg base:=Zhh B ER  F18 (PySem.W.mg_of X G a18)
 have K_refuse_no_names:Zar l.prog w K mg base "refuse_no_names" 3 ["states", "pairs"] (Zbe K):=Zdp B ER K_labels_told K_is_name F19 (PySem.W.mg_of X G a19)
 have K_is_whole:Zdm l.prog w K mg base:=Zgq B ER  F20 (PySem.W.mg_of X G a20);have K_is_place:Zdn l.prog w K mg base:=Zgr B ER K_is_whole F21 (PySem.W.mg_of X G a21)
 have K_refuse_no_places:Zar l.prog w K mg base "refuse_no_places" 3 ["states", "inner"] (Za1 K):=Zdb B ER K_is_place F22 (PySem.W.mg_of X G a22)
 have K_is_one_twice:Zce l.prog w K mg base:=Zd6 B ER  F23 (PySem.W.mg_of X G a23)
 have K_refuse_twice:Zar l.prog w K mg base "refuse_twice" 2 ["states"] (ZbG K):=Zd7 B ER K_is_one_twice K_labels_of F24 (PySem.W.mg_of X G a24)
 have K_worse_by_better:ZaX l.prog w K mg base:=Zdq B ER  F25 (PySem.W.mg_of X G a25);have K_reached:ZcR l.prog w K mg base:=Zhi B ER  F26 (PySem.W.mg_of X G a26);have K_all_that_follows:Zbx l.prog w K mg base:=Zdd B ER K_worse_by_better K_reached F27 (PySem.W.mg_of X G a27);have K_own_lists:ZcZ l.prog w K mg base:=Zfn B ER  F28 (PySem.W.mg_of X G a28)
 have K_Ring__init__:ZeL l.prog w K mg base (clsA K "Ring") 3 ["self", "ring"] (ZbH K):=Zd8 B ER K_own_lists F29 X29 fi29
 have K_chain:Zgs l.prog w K mg base:=Zi9 B ER K_reached K_worse_by_better F30 (PySem.W.mg_of X G a30)
 have K_order_of:Zar l.prog w K mg base "order_of" 5 ["pairs"] (ZcC K):=Zgt B ER K_all_that_follows K_Ring__init__ K_chain F31 (PySem.W.mg_of X G a31)
 have K_sorted_state:Zcf l.prog w K mg base:=Zd9 B ER  F32 (PySem.W.mg_of X G a32)
 have K_table_of:Zar l.prog w K mg base "table_of" 6 ["states", "inner", "pairs"] (ZcD K):=Zgu B ER K_refuse_too_great K_refuse_no_names K_refuse_no_places K_refuse_twice K_order_of K_sorted_state F33 (PySem.W.mg_of X G a33)
 have K_read_table:Zar l.prog w K mg base "read_table" 7 ["text"] (ZbZ K):=Zfb B ER K_parted K_read_state K_read_number K_read_twos K_read_label K_table_of F34 (PySem.W.mg_of X G a34)
 have K__law_outcome:Zcg l.prog w K mg base:=Zea B ER K_read_table F35 (PySem.W.mg_of X G a35);have K__law_first:ZcM l.prog w K mg base:=Zfd B ER  F36 (PySem.W.mg_of X G a36);exact ok_law B ER K__law_names K__law_cell_at K__law_state K__law_text K__law_numbered K__law_named K__law_more K__law_broken K__law_outcome K__law_first F37
theorem walk {l:PySem.W.OpenLaw}{q:Program}{loose:List Str}{XP:(Str→Option Value)→Heap→Prop} {YP:World→Heap→Prop} {d:DefRec} {K:Params→XFg} (hn:l.most=some 63) (hdf:d.params.defaults=[])
 (hY:∀ (w:World) (h:Heap),YP w h→(K w.params).In h)
 (F:∀ (w:World) (mg:Str→Option Value) (fa:Addr) (h:Heap),(K w.params).In h→h.Ns mainGlobals mg→mg d.name=some (.ref fa) →
  ∃ fd:FuncData,(∀ (s:Shared) (u:Value),BindsTo s fd ⟨[u],[]⟩ [("_law_script",u)])∧∀ base:Heap,(K w.params).In base→base.Ns mainGlobals mg→FnOk l.prog w (K w.params) mg base CX0 9 fa fd ["_law_script"] (Zhl (K w.params))) :
 PySem.W.WalkO q loose XP YP l.row.toRowW d [] (fun f vs=>PySem.call f vs) :=
 L2.walk_of (n:=63) (k:=9) (x := "_law_script") (CX:=fun _=>CX0) (sp:=fun w=>Zhl (K w.params)) hn (by decide) hdf ⟨rfl,by decide,by decide,rfl⟩ hY F (fun _ _ a ns hl _ hS=>⟨a,ns,rfl,hS,hl,fun _=>rfl⟩) fun _ _ _ _ _ z=>z
end K76
open PySem PySem.W PyProof.Rows in
theorem PySem.Challenge.cw_namepaths_k76_table_texts_refused_holds : PySem.Challenge.rw_namepaths_k76_table_texts_refused.Holds :=
 K76.hd fun K q YP d h1 h2 hY=>K76.walk (l:=PySem.Challenge.rw_namepaths_k76_table_texts_refused) rfl h1 hY fun w mg fa h X G hm=>K76.all_mk X G (h2 ▸ hm) (q w)
