import PyProof.Rows.All
import Wide.All
import OpenK.AllK
import Wide.FinOn
import Lean
import PyProof.EqAt
import PyProof.EqKinds
import PyProof.TupleCall
import PySem.Challenge.RW_namepaths_k73_texts_told_apart
import Open.Tops
set_option Elab.async false
set_option linter.all false
set_option maxRecDepth 100000
set_option maxHeartbeats 1000000
noncomputable section
noncomputable def PySem.W.Fast.tw5000426134063668886:PySem.Program:=PySem.Challenge.pw_namepaths_k73_texts_told_apart
theorem PySem.W.Fast.te5000426134063668886:PySem.Challenge.pw_namepaths_k73_texts_told_apart=PySem.W.Fast.tw5000426134063668886:=rfl
namespace L2
open PySem PySem.Spec PyProof.Rows
noncomputable def defArgs (s:Stmt):Arguments:=match s with
 | .FunctionDef _ a _ _ _ _ _ _ _ _=>a
 | _=>{ posonlyargs:=[],args:=[],vararg:=none,kwonlyargs:=[],kw_defaults:=[],kwarg:=none,defaults:=[] }
noncomputable def defBody (s:Stmt):List Stmt:=match s with
 | .FunctionDef _ _ b _ _ _ _ _ _ _=>b
 | _=>[]
noncomputable def defScope (s:Stmt):Scope:=match s with
 | .FunctionDef _ _ _ _ _ _ sc _ _ _=>sc
 | _=>{ kind:=.function,names:=[],isGenerator:=false,isCoroutine:=false }
section
open PySem.W PySem.W.Fast
noncomputable def runM (p:Program) (w:World) (m₀:Nat) (ann:Option Value) (M:Nat) (s:Shared) (t:Thread):Option Shared:=(tw14082659384304107361 tw14364793385576792824 p w m₀ ann M s t).bind fun s₁=>match staticsOk (tw5923862056798008813 p.main.body) (boot_heap w.params) s₁.heap && namesBound p s₁.heap && gensDone s₁ && laidKept (boot_heap w.params) s₁.heap with
 | true=>some s₁
 | false=>none
theorem left_mid {p q:Program} {loose:List Str} {Xt:Shared→Bool} {α:Type} {Yf:Shared→α} {Ya:World→α} {M m₀:Nat} {ann:Option Value} {Sm:World→OsState→Shared} {tm:Thread} (e:opening p=plainProg p.main.scope.names) (f:∀ s,fenceModules? p s=some s)
 (size:∀ w:World,((boot_heap w.params).isNs mainGlobals && (Array.mk ([]:List GenState)).size == 0,(boot_heap w.params).objs.size,(boot_heap w.params).nsMap mainGlobals "__annotations__")=(true,m₀,ann))
 (go:∀ (w:World) (os:OsState) (r:Shared),topRun treeTable p w m₀ ann M (Sm w os) tm=some r→topRun treeTable p w m₀ ann 40000 ⟨boot_heap w.params,Array.mk [],boot_drawn,boot_toks,os⟩ (topStub p)=some r)
 (A:∀ (w:World) (os:OsState),Option.map (fun s=>tw4187177175401517315 q loose (tw5923862056798008813 p.main.body) Xt true s) (runM p w m₀ ann M (Sm w os) tm)=some (openGood q loose))
 (B:∀ (w:World) (os:OsState),Option.map Yf (runM p w m₀ ann M (Sm w os) tm)=some (Ya w)):LeftO p q loose Xt Yf Ya 40000:=by
 intro w
 obtain ⟨⟨h,gs,d,k,os⟩,e1,e2⟩:=Option.map_eq_some_iff.mp (boot_open (N:=40000) e (Eq.refl true) f w)
 obtain ⟨rfl,rfl,rfl,rfl⟩:h=boot_heap w.params∧gs=Array.mk []∧d=boot_drawn∧k=boot_toks:=by simpa using e2
 obtain ⟨z1,z2,z3⟩:_∧_∧_:=by simpa only [Prod.mk.injEq] using size w
 have a:=A w os
 have b:=B w os
 obtain ⟨s₁,hr,ha⟩:=Option.map_eq_some_iff.mp a
 rw [hr] at b
 have hb:=Option.some.inj b
 unfold runM at hr
 rw [←te14082659384304107361,←te14364793385576792824,←te5923862056798008813] at hr
 rw [←te4187177175401517315,←te5923862056798008813] at ha
 obtain ⟨s₂,h2,h3⟩:=Option.bind_eq_some_iff.mp hr
 have r:=go w os s₂ h2
 have t:topFrom treeTable p w 40000 ⟨boot_heap w.params,Array.mk [],boot_drawn,boot_toks,os⟩=some s₁:=by
  unfold topFrom
  dsimp only
  rw [z1,z2,z3,r]
  exact h3
 unfold openEnds
 rw [e1]
 show (topFrom treeTable p w 40000 _).map _=_
 rw [t]
 exact congrArg some (Prod.ext ha hb)
end
end L2
namespace K73
open PySem PySem.Spec PyProof.Rows PySem.W L2
noncomputable def top (i:Nat):Stmt:=PySem.Challenge.pw_namepaths_k73_texts_told_apart.main.body.getD i (.Pass ⟨0,0,0,0⟩)
noncomputable def inCls:Stmt→Nat→Stmt
 | .ClassDef _ _ _ body _ _ _ _ _ _ _,j=>body.getD j (.Pass ⟨0,0,0,0⟩)
 | s,_=>s
abbrev s__law_cell_at:Stmt:=top 46
abbrev s__law_names:Stmt:=top 47
abbrev s__law_words:Stmt:=top 51
abbrev s__law_path:Stmt:=top 48
abbrev s__law_item:Stmt:=top 49
abbrev s__law_program:Stmt:=top 50
abbrev s__law_spoiled:Stmt:=top 57
abbrev s_Words__init__:Stmt:=inCls (top 37) 0
abbrev s_Words_ahead:Stmt:=inCls (top 37) 1
abbrev s_Words_taken:Stmt:=inCls (top 37) 2
abbrev s_taken_reach:Stmt:=top 42
abbrev s_is_name:Stmt:=top 24
abbrev s_taken_name:Stmt:=top 43
abbrev s_Words_skip:Stmt:=inCls (top 37) 3
abbrev s_Part__init__:Stmt:=inCls (top 15) 0
abbrev s_Thing__init__:Stmt:=inCls (top 16) 0
abbrev s_read_path:Stmt:=top 27
abbrev s_taken_sort:Stmt:=top 44
abbrev s_Let__init__:Stmt:=inCls (top 17) 0
abbrev s_Elder__init__:Stmt:=inCls (top 18) 0
abbrev s_All__init__:Stmt:=inCls (top 19) 0
abbrev s_read_all:Stmt:=top 41
abbrev s_One__init__:Stmt:=inCls (top 20) 0
abbrev s_Ask__init__:Stmt:=inCls (top 21) 0
abbrev s_read_part:Stmt:=top 40
abbrev s_read_item:Stmt:=top 39
abbrev s_read_items:Stmt:=top 38
abbrev s_read:Stmt:=top 33
abbrev s__law_refused:Stmt:=top 58
abbrev s__law_name:Stmt:=top 52
abbrev s__law_head:Stmt:=top 55
abbrev s__law_route:Stmt:=top 53
abbrev s__law_row:Stmt:=top 54
abbrev s__law_good:Stmt:=top 56
abbrev s_written_path:Stmt:=top 28
abbrev s_words_of_sort:Stmt:=top 36
abbrev s_with_between:Stmt:=top 29
abbrev s_words_of_item:Stmt:=top 35
abbrev s_words_of:Stmt:=top 34
abbrev s_written:Stmt:=top 32
abbrev s_law:Stmt:=top 59
noncomputable def own:List Nat:=[1,3,4,5,6,7,8,9,10,11,12,14,15,16,17,18,19,20,21,23,24,25,27,28,29,31,32,33,34,35,36,37,38,39,40,41,42,43,44,46,47,48,49,50,51,52,53,54,55,56,57,58,59]
noncomputable def view:Program:=PySem.W.view PySem.Challenge.pw_namepaths_k73_texts_told_apart own
noncomputable abbrev loose:List Str:=["Thing", "Let", "All"]
open_shared st for PySem.Challenge.pw_namepaths_k73_texts_told_apart leaving 42
noncomputable abbrev PP:Program:=PySem.Challenge.pw_namepaths_k73_texts_told_apart
noncomputable abbrev bb:List Stmt:=behindTheImports PP
noncomputable abbrev B0:List Frame:=[topFrame { line:=0,col:=0,endLine:=0,endCol:=0 }]
noncomputable abbrev cc:Code:=Code.body bb st.env_1
noncomputable abbrev S0 (w:World) (os:OsState):Shared:=⟨boot_heap w.params,Array.mk [],boot_drawn,boot_toks,os⟩
noncomputable abbrev Sb (w:World) (os:OsState):Shared:=SharedT.abs { tree:=st.tree_4 w.params,n:=15,life:={ },gens:={ toList:=[] },drawn:={ },toks:=187,os:=os }
noncomputable abbrev Sm (w:World) (os:OsState):Shared:=SharedT.abs { tree:=st.tree_270 w.params,n:=228,life:={ },gens:={ toList:=[] },drawn:={ },toks:=488,os:=os }
noncomputable abbrev tm:Thread:=restOf (bb.drop 18) st.env_1 cc { line:=52,col:=0,endLine:=56,endCol:=20 } B0
theorem pre (w:World) (os:OsState):topGo treeTable PP w 11 (some (Value.ref 6)) 12 (S0 w os) (topStub PP)=some (Sb w os,⟨denote treeTable (.body bb st.env_1),cc,{ line:=0,col:=0,endLine:=0,endCol:=0 },B0⟩):=by kernel_rfl
theorem block (w:World) (os:OsState):segRun treeTable PP w 11 (some (Value.ref 6)) 1 1 (Sb w os) (blockOf bb st.env_1 cc { line:=0,col:=0,endLine:=0,endCol:=0 } B0)=some (.next,Sb w os,cc,{ line:=0,col:=0,endLine:=0,endCol:=0 }):=by kernel_rfl
theorem bbs:bb=st.sts_4++(st.sts_26++(st.sts_42++(st.sts_58++(st.sts_74++(st.sts_90++(st.sts_106++(st.sts_122++(st.sts_138++(st.sts_161++(st.sts_184++(st.sts_201++(st.sts_224++(st.sts_248++bb.drop 18))))))))))))):=by kernel_rfl
theorem mid_go (w:World) (os:OsState) (r:Shared) (h:topRun treeTable PP w 11 (some (Value.ref 6)) 36812 (Sm w os) tm=some r):topRun treeTable PP w 11 (some (Value.ref 6)) 40000 (S0 w os) (topStub PP)=some r:=by
 have h1:=st.chain PP bb w os _ _ r h
 rw [←bbs] at h1
 exact go_top (n:=12) (N:=39988) (pre w os) (piece_block (n:=1) (N:=39987) (block w os) h1)
theorem mid_open:opening PP=plainProg PP.main.scope.names:=by kernel_rfl
theorem mid_fence (s:Shared):fenceModules? PP s=some s:=by kernel_rfl
theorem mid_size (w:World):((boot_heap w.params).isNs mainGlobals && (Array.mk ([]:List GenState)).size == 0,(boot_heap w.params).objs.size,(boot_heap w.params).nsMap mainGlobals "__annotations__")=(true,11,some (Value.ref 6)):=by kernel_rfl
inductive Facts (K:PySem.W.Frag):Prop where
 | mk
   {f0:Addr} {od0 an0:Option Addr} {sl0:Array (Option Value)} {oc0 kV0 dc0 pm0 cd0 ct0:Value}
   {f1:Addr} {od1 an1:Option Addr} {sl1:Array (Option Value)} {oc1 kV1 dc1 pm1 cd1 ct1:Value}
   {f2:Addr} {od2 an2:Option Addr} {sl2:Array (Option Value)} {oc2 kV2 dc2 pm2 cd2 ct2:Value}
   {f3:Addr} {od3 an3:Option Addr} {sl3:Array (Option Value)} {oc3 kV3 dc3 pm3 cd3 ct3:Value}
   {f4:Addr} {od4 an4:Option Addr} {sl4:Array (Option Value)} {oc4 kV4 dc4 pm4 cd4 ct4:Value}
   {f5:Addr} {od5 an5:Option Addr} {sl5:Array (Option Value)} {oc5 kV5 dc5 pm5 cd5 ct5:Value}
   {f6:Addr} {od6 an6:Option Addr} {sl6:Array (Option Value)} {oc6 kV6 dc6 pm6 cd6 ct6:Value}
   {f7:Addr} {od7 an7:Option Addr} {sl7:Array (Option Value)} {oc7 kV7 dc7 pm7 cd7 ct7:Value}
   {f8:Addr} {od8 an8:Option Addr} {sl8:Array (Option Value)} {oc8 kV8 dc8 pm8 cd8 ct8:Value}
   {f9:Addr} {od9 an9:Option Addr} {sl9:Array (Option Value)} {oc9 kV9 dc9 pm9 cd9 ct9:Value}
   {f10:Addr} {od10 an10:Option Addr} {sl10:Array (Option Value)} {oc10 kV10 dc10 pm10 cd10 ct10:Value}
   {f11:Addr} {od11 an11:Option Addr} {sl11:Array (Option Value)} {oc11 kV11 dc11 pm11 cd11 ct11:Value}
   {f12:Addr} {od12 an12:Option Addr} {sl12:Array (Option Value)} {oc12 kV12 dc12 pm12 cd12 ct12:Value}
   {f13:Addr} {od13 an13:Option Addr} {sl13:Array (Option Value)} {oc13 kV13 dc13 pm13 cd13 ct13:Value}
   {f14:Addr} {od14 an14:Option Addr} {sl14:Array (Option Value)} {oc14 kV14 dc14 pm14 cd14 ct14:Value}
   {f15:Addr} {od15 an15:Option Addr} {sl15:Array (Option Value)} {oc15 kV15 dc15 pm15 cd15 ct15:Value}
   {f16:Addr} {od16 an16:Option Addr} {sl16:Array (Option Value)} {oc16 kV16 dc16 pm16 cd16 ct16:Value}
   {f17:Addr} {od17 an17:Option Addr} {sl17:Array (Option Value)} {oc17 kV17 dc17 pm17 cd17 ct17:Value}
   {f18:Addr} {od18 an18:Option Addr} {sl18:Array (Option Value)} {oc18 kV18 dc18 pm18 cd18 ct18:Value}
   {f19:Addr} {od19 an19:Option Addr} {sl19:Array (Option Value)} {oc19 kV19 dc19 pm19 cd19 ct19:Value}
   {f20:Addr} {od20 an20:Option Addr} {sl20:Array (Option Value)} {oc20 kV20 dc20 pm20 cd20 ct20:Value}
   {f21:Addr} {od21 an21:Option Addr} {sl21:Array (Option Value)} {oc21 kV21 dc21 pm21 cd21 ct21:Value}
   {f22:Addr} {od22 an22:Option Addr} {sl22:Array (Option Value)} {oc22 kV22 dc22 pm22 cd22 ct22:Value}
   {f23:Addr} {od23 an23:Option Addr} {sl23:Array (Option Value)} {oc23 kV23 dc23 pm23 cd23 ct23:Value}
   {f24:Addr} {od24 an24:Option Addr} {sl24:Array (Option Value)} {oc24 kV24 dc24 pm24 cd24 ct24:Value}
   {f25:Addr} {od25 an25:Option Addr} {sl25:Array (Option Value)} {oc25 kV25 dc25 pm25 cd25 ct25:Value}
   {f26:Addr} {od26 an26:Option Addr} {sl26:Array (Option Value)} {oc26 kV26 dc26 pm26 cd26 ct26:Value}
   {f27:Addr} {od27 an27:Option Addr} {sl27:Array (Option Value)} {oc27 kV27 dc27 pm27 cd27 ct27:Value}
   {f28:Addr} {od28 an28:Option Addr} {sl28:Array (Option Value)} {oc28 kV28 dc28 pm28 cd28 ct28:Value}
   {f29:Addr} {od29 an29:Option Addr} {sl29:Array (Option Value)} {oc29 kV29 dc29 pm29 cd29 ct29:Value}
   {f30:Addr} {od30 an30:Option Addr} {sl30:Array (Option Value)} {oc30 kV30 dc30 pm30 cd30 ct30:Value}
   {f31:Addr} {od31 an31:Option Addr} {sl31:Array (Option Value)} {oc31 kV31 dc31 pm31 cd31 ct31:Value}
   {f32:Addr} {od32 an32:Option Addr} {sl32:Array (Option Value)} {oc32 kV32 dc32 pm32 cd32 ct32:Value}
   {f33:Addr} {od33 an33:Option Addr} {sl33:Array (Option Value)} {oc33 kV33 dc33 pm33 cd33 ct33:Value}
   {f34:Addr} {od34 an34:Option Addr} {sl34:Array (Option Value)} {oc34 kV34 dc34 pm34 cd34 ct34:Value}
   {f35:Addr} {od35 an35:Option Addr} {sl35:Array (Option Value)} {oc35 kV35 dc35 pm35 cd35 ct35:Value}
   {f36:Addr} {od36 an36:Option Addr} {sl36:Array (Option Value)} {oc36 kV36 dc36 pm36 cd36 ct36:Value}
   {f37:Addr} {od37 an37:Option Addr} {sl37:Array (Option Value)} {oc37 kV37 dc37 pm37 cd37 ct37:Value}
   {f38:Addr} {od38 an38:Option Addr} {sl38:Array (Option Value)} {oc38 kV38 dc38 pm38 cd38 ct38:Value}
   {f39:Addr} {od39 an39:Option Addr} {sl39:Array (Option Value)} {oc39 kV39 dc39 pm39 cd39 ct39:Value}
   {f40:Addr} {od40 an40:Option Addr} {sl40:Array (Option Value)} {oc40 kV40 dc40 pm40 cd40 ct40:Value}
   {tc_LONGEST_NAME:Tok}
   {tc_LONGEST_PATH:Tok}
   {tc_MOST_BRACKETS:Tok}
   {C_Caught C_NoName C_NoPlace C_NoRow C_NoText C_PathError C_Ring C_Tangled C_TooGreat C_Twice:Addr}
   {C_All C_Ask C_Elder C_Let C_One C_Part C_Thing C_Words:Addr}
   (a0:PySem.W.nsIn K mainGlobals "_law_cell_at" = some (some (.ref f0))) (l0:K.lookup f0=some ⟨oc0,od0,.func (PySem.W.fnOf "_law_cell_at" "_law_cell_at" (defArgs s__law_cell_at) (defBody s__law_cell_at) (defScope s__law_cell_at) .none kV0 dc0 pm0 an0 cd0 ct0),sl0⟩) (c0:PySem.W.codeIn K cd0 "_law_cell_at" = true) (k0:PySem.W.keepIn K (.ref f0)=true)
   (a1:PySem.W.nsIn K mainGlobals "_law_names" = some (some (.ref f1))) (l1:K.lookup f1=some ⟨oc1,od1,.func (PySem.W.fnOf "_law_names" "_law_names" (defArgs s__law_names) (defBody s__law_names) (defScope s__law_names) .none kV1 dc1 pm1 an1 cd1 ct1),sl1⟩) (c1:PySem.W.codeIn K cd1 "_law_names" = true) (k1:PySem.W.keepIn K (.ref f1)=true)
   (a2:PySem.W.nsIn K mainGlobals "_law_words" = some (some (.ref f2))) (l2:K.lookup f2=some ⟨oc2,od2,.func (PySem.W.fnOf "_law_words" "_law_words" (defArgs s__law_words) (defBody s__law_words) (defScope s__law_words) .none kV2 dc2 pm2 an2 cd2 ct2),sl2⟩) (c2:PySem.W.codeIn K cd2 "_law_words" = true) (k2:PySem.W.keepIn K (.ref f2)=true)
   (a3:PySem.W.nsIn K mainGlobals "_law_path" = some (some (.ref f3))) (l3:K.lookup f3=some ⟨oc3,od3,.func (PySem.W.fnOf "_law_path" "_law_path" (defArgs s__law_path) (defBody s__law_path) (defScope s__law_path) .none kV3 dc3 pm3 an3 cd3 ct3),sl3⟩) (c3:PySem.W.codeIn K cd3 "_law_path" = true) (k3:PySem.W.keepIn K (.ref f3)=true)
   (a4:PySem.W.nsIn K mainGlobals "_law_item" = some (some (.ref f4))) (l4:K.lookup f4=some ⟨oc4,od4,.func (PySem.W.fnOf "_law_item" "_law_item" (defArgs s__law_item) (defBody s__law_item) (defScope s__law_item) .none kV4 dc4 pm4 an4 cd4 ct4),sl4⟩) (c4:PySem.W.codeIn K cd4 "_law_item" = true) (k4:PySem.W.keepIn K (.ref f4)=true)
   (a5:PySem.W.nsIn K mainGlobals "_law_program" = some (some (.ref f5))) (l5:K.lookup f5=some ⟨oc5,od5,.func (PySem.W.fnOf "_law_program" "_law_program" (defArgs s__law_program) (defBody s__law_program) (defScope s__law_program) .none kV5 dc5 pm5 an5 cd5 ct5),sl5⟩) (c5:PySem.W.codeIn K cd5 "_law_program" = true) (k5:PySem.W.keepIn K (.ref f5)=true)
   (a6:PySem.W.nsIn K mainGlobals "_law_spoiled" = some (some (.ref f6))) (l6:K.lookup f6=some ⟨oc6,od6,.func (PySem.W.fnOf "_law_spoiled" "_law_spoiled" (defArgs s__law_spoiled) (defBody s__law_spoiled) (defScope s__law_spoiled) .none kV6 dc6 pm6 an6 cd6 ct6),sl6⟩) (c6:PySem.W.codeIn K cd6 "_law_spoiled" = true) (k6:PySem.W.keepIn K (.ref f6)=true)
   (a7:PySem.W.findIn K (.ref C_Words) "__init__" = some (some (.ref f7))) (i7:PySem.W.isFn K (.ref f7)=true) (l7:K.lookup f7=some ⟨oc7,od7,.func (PySem.W.fnOf "__init__" "Words.__init__" (defArgs s_Words__init__) (defBody s_Words__init__) (defScope s_Words__init__) .none kV7 dc7 pm7 an7 cd7 ct7),sl7⟩) (c7:PySem.W.codeIn K cd7 "Words.__init__" = true) (k7:PySem.W.keepIn K (.ref f7)=true)
   (a8:PySem.W.findIn K (.ref C_Words) "ahead" = some (some (.ref f8))) (i8:PySem.W.isFn K (.ref f8)=true) (l8:K.lookup f8=some ⟨oc8,od8,.func (PySem.W.fnOf "ahead" "Words.ahead" (defArgs s_Words_ahead) (defBody s_Words_ahead) (defScope s_Words_ahead) .none kV8 dc8 pm8 an8 cd8 ct8),sl8⟩) (c8:PySem.W.codeIn K cd8 "Words.ahead" = true) (k8:PySem.W.keepIn K (.ref f8)=true)
   (a9:PySem.W.findIn K (.ref C_Words) "taken" = some (some (.ref f9))) (i9:PySem.W.isFn K (.ref f9)=true) (l9:K.lookup f9=some ⟨oc9,od9,.func (PySem.W.fnOf "taken" "Words.taken" (defArgs s_Words_taken) (defBody s_Words_taken) (defScope s_Words_taken) .none kV9 dc9 pm9 an9 cd9 ct9),sl9⟩) (c9:PySem.W.codeIn K cd9 "Words.taken" = true) (k9:PySem.W.keepIn K (.ref f9)=true)
   (a10:PySem.W.nsIn K mainGlobals "taken_reach" = some (some (.ref f10))) (l10:K.lookup f10=some ⟨oc10,od10,.func (PySem.W.fnOf "taken_reach" "taken_reach" (defArgs s_taken_reach) (defBody s_taken_reach) (defScope s_taken_reach) .none kV10 dc10 pm10 an10 cd10 ct10),sl10⟩) (c10:PySem.W.codeIn K cd10 "taken_reach" = true) (k10:PySem.W.keepIn K (.ref f10)=true)
   (a11:PySem.W.nsIn K mainGlobals "is_name" = some (some (.ref f11))) (l11:K.lookup f11=some ⟨oc11,od11,.func (PySem.W.fnOf "is_name" "is_name" (defArgs s_is_name) (defBody s_is_name) (defScope s_is_name) .none kV11 dc11 pm11 an11 cd11 ct11),sl11⟩) (c11:PySem.W.codeIn K cd11 "is_name" = true) (k11:PySem.W.keepIn K (.ref f11)=true)
   (a12:PySem.W.nsIn K mainGlobals "taken_name" = some (some (.ref f12))) (l12:K.lookup f12=some ⟨oc12,od12,.func (PySem.W.fnOf "taken_name" "taken_name" (defArgs s_taken_name) (defBody s_taken_name) (defScope s_taken_name) .none kV12 dc12 pm12 an12 cd12 ct12),sl12⟩) (c12:PySem.W.codeIn K cd12 "taken_name" = true) (k12:PySem.W.keepIn K (.ref f12)=true)
   (a13:PySem.W.findIn K (.ref C_Words) "skip" = some (some (.ref f13))) (i13:PySem.W.isFn K (.ref f13)=true) (l13:K.lookup f13=some ⟨oc13,od13,.func (PySem.W.fnOf "skip" "Words.skip" (defArgs s_Words_skip) (defBody s_Words_skip) (defScope s_Words_skip) .none kV13 dc13 pm13 an13 cd13 ct13),sl13⟩) (c13:PySem.W.codeIn K cd13 "Words.skip" = true) (k13:PySem.W.keepIn K (.ref f13)=true)
   (a14:PySem.W.findIn K (.ref C_Part) "__init__" = some (some (.ref f14))) (i14:PySem.W.isFn K (.ref f14)=true) (l14:K.lookup f14=some ⟨oc14,od14,.func (PySem.W.fnOf "__init__" "Part.__init__" (defArgs s_Part__init__) (defBody s_Part__init__) (defScope s_Part__init__) .none kV14 dc14 pm14 an14 cd14 ct14),sl14⟩) (c14:PySem.W.codeIn K cd14 "Part.__init__" = true) (k14:PySem.W.keepIn K (.ref f14)=true)
   {T15:Addr} {tc15:Value} {td15:Option Addr} {tn15:Nat} {ts15:Array (Option Value)}
   (a15:PySem.W.findIn K (.ref C_Thing) "__init__" = some (some (.ref f15))) (i15:PySem.W.isFn K (.ref f15)=true) (l15:K.lookup f15=some ⟨oc15,od15,.func (PySem.W.fnOf "__init__" "Thing.__init__" (defArgs s_Thing__init__) (defBody s_Thing__init__) (defScope s_Thing__init__) (.ref T15) kV15 dc15 pm15 an15 cd15 ct15),sl15⟩) (c15:PySem.W.codeIn K cd15 "Thing.__init__" = true) (k15:PySem.W.keepIn K (.ref f15)=true)
   (t15:K.lookup T15=some ⟨tc15,td15,.seq #[.none] tn15,ts15⟩)
   (a16:PySem.W.nsIn K mainGlobals "read_path" = some (some (.ref f16))) (l16:K.lookup f16=some ⟨oc16,od16,.func (PySem.W.fnOf "read_path" "read_path" (defArgs s_read_path) (defBody s_read_path) (defScope s_read_path) .none kV16 dc16 pm16 an16 cd16 ct16),sl16⟩) (c16:PySem.W.codeIn K cd16 "read_path" = true) (k16:PySem.W.keepIn K (.ref f16)=true)
   (a17:PySem.W.nsIn K mainGlobals "taken_sort" = some (some (.ref f17))) (l17:K.lookup f17=some ⟨oc17,od17,.func (PySem.W.fnOf "taken_sort" "taken_sort" (defArgs s_taken_sort) (defBody s_taken_sort) (defScope s_taken_sort) .none kV17 dc17 pm17 an17 cd17 ct17),sl17⟩) (c17:PySem.W.codeIn K cd17 "taken_sort" = true) (k17:PySem.W.keepIn K (.ref f17)=true)
   {T18:Addr} {tc18:Value} {td18:Option Addr} {tn18:Nat} {ts18:Array (Option Value)}
   (a18:PySem.W.findIn K (.ref C_Let) "__init__" = some (some (.ref f18))) (i18:PySem.W.isFn K (.ref f18)=true) (l18:K.lookup f18=some ⟨oc18,od18,.func (PySem.W.fnOf "__init__" "Let.__init__" (defArgs s_Let__init__) (defBody s_Let__init__) (defScope s_Let__init__) (.ref T18) kV18 dc18 pm18 an18 cd18 ct18),sl18⟩) (c18:PySem.W.codeIn K cd18 "Let.__init__" = true) (k18:PySem.W.keepIn K (.ref f18)=true)
   (t18:K.lookup T18=some ⟨tc18,td18,.seq #[.none] tn18,ts18⟩)
   (a19:PySem.W.findIn K (.ref C_Elder) "__init__" = some (some (.ref f19))) (i19:PySem.W.isFn K (.ref f19)=true) (l19:K.lookup f19=some ⟨oc19,od19,.func (PySem.W.fnOf "__init__" "Elder.__init__" (defArgs s_Elder__init__) (defBody s_Elder__init__) (defScope s_Elder__init__) .none kV19 dc19 pm19 an19 cd19 ct19),sl19⟩) (c19:PySem.W.codeIn K cd19 "Elder.__init__" = true) (k19:PySem.W.keepIn K (.ref f19)=true)
   {T20:Addr} {tc20:Value} {td20:Option Addr} {tn20:Nat} {ts20:Array (Option Value)}
   (a20:PySem.W.findIn K (.ref C_All) "__init__" = some (some (.ref f20))) (i20:PySem.W.isFn K (.ref f20)=true) (l20:K.lookup f20=some ⟨oc20,od20,.func (PySem.W.fnOf "__init__" "All.__init__" (defArgs s_All__init__) (defBody s_All__init__) (defScope s_All__init__) (.ref T20) kV20 dc20 pm20 an20 cd20 ct20),sl20⟩) (c20:PySem.W.codeIn K cd20 "All.__init__" = true) (k20:PySem.W.keepIn K (.ref f20)=true)
   (t20:K.lookup T20=some ⟨tc20,td20,.seq #[.bool false] tn20,ts20⟩)
   (a21:PySem.W.nsIn K mainGlobals "read_all" = some (some (.ref f21))) (l21:K.lookup f21=some ⟨oc21,od21,.func (PySem.W.fnOf "read_all" "read_all" (defArgs s_read_all) (defBody s_read_all) (defScope s_read_all) .none kV21 dc21 pm21 an21 cd21 ct21),sl21⟩) (c21:PySem.W.codeIn K cd21 "read_all" = true) (k21:PySem.W.keepIn K (.ref f21)=true)
   (a22:PySem.W.findIn K (.ref C_One) "__init__" = some (some (.ref f22))) (i22:PySem.W.isFn K (.ref f22)=true) (l22:K.lookup f22=some ⟨oc22,od22,.func (PySem.W.fnOf "__init__" "One.__init__" (defArgs s_One__init__) (defBody s_One__init__) (defScope s_One__init__) .none kV22 dc22 pm22 an22 cd22 ct22),sl22⟩) (c22:PySem.W.codeIn K cd22 "One.__init__" = true) (k22:PySem.W.keepIn K (.ref f22)=true)
   (a23:PySem.W.findIn K (.ref C_Ask) "__init__" = some (some (.ref f23))) (i23:PySem.W.isFn K (.ref f23)=true) (l23:K.lookup f23=some ⟨oc23,od23,.func (PySem.W.fnOf "__init__" "Ask.__init__" (defArgs s_Ask__init__) (defBody s_Ask__init__) (defScope s_Ask__init__) .none kV23 dc23 pm23 an23 cd23 ct23),sl23⟩) (c23:PySem.W.codeIn K cd23 "Ask.__init__" = true) (k23:PySem.W.keepIn K (.ref f23)=true)
   (a24:PySem.W.nsIn K mainGlobals "read_part" = some (some (.ref f24))) (l24:K.lookup f24=some ⟨oc24,od24,.func (PySem.W.fnOf "read_part" "read_part" (defArgs s_read_part) (defBody s_read_part) (defScope s_read_part) .none kV24 dc24 pm24 an24 cd24 ct24),sl24⟩) (c24:PySem.W.codeIn K cd24 "read_part" = true) (k24:PySem.W.keepIn K (.ref f24)=true)
   (a25:PySem.W.nsIn K mainGlobals "read_item" = some (some (.ref f25))) (l25:K.lookup f25=some ⟨oc25,od25,.func (PySem.W.fnOf "read_item" "read_item" (defArgs s_read_item) (defBody s_read_item) (defScope s_read_item) .none kV25 dc25 pm25 an25 cd25 ct25),sl25⟩) (c25:PySem.W.codeIn K cd25 "read_item" = true) (k25:PySem.W.keepIn K (.ref f25)=true)
   (a26:PySem.W.nsIn K mainGlobals "read_items" = some (some (.ref f26))) (l26:K.lookup f26=some ⟨oc26,od26,.func (PySem.W.fnOf "read_items" "read_items" (defArgs s_read_items) (defBody s_read_items) (defScope s_read_items) .none kV26 dc26 pm26 an26 cd26 ct26),sl26⟩) (c26:PySem.W.codeIn K cd26 "read_items" = true) (k26:PySem.W.keepIn K (.ref f26)=true)
   (a27:PySem.W.nsIn K mainGlobals "read" = some (some (.ref f27))) (l27:K.lookup f27=some ⟨oc27,od27,.func (PySem.W.fnOf "read" "read" (defArgs s_read) (defBody s_read) (defScope s_read) .none kV27 dc27 pm27 an27 cd27 ct27),sl27⟩) (c27:PySem.W.codeIn K cd27 "read" = true) (k27:PySem.W.keepIn K (.ref f27)=true)
   (a28:PySem.W.nsIn K mainGlobals "_law_refused" = some (some (.ref f28))) (l28:K.lookup f28=some ⟨oc28,od28,.func (PySem.W.fnOf "_law_refused" "_law_refused" (defArgs s__law_refused) (defBody s__law_refused) (defScope s__law_refused) .none kV28 dc28 pm28 an28 cd28 ct28),sl28⟩) (c28:PySem.W.codeIn K cd28 "_law_refused" = true) (k28:PySem.W.keepIn K (.ref f28)=true)
   (a29:PySem.W.nsIn K mainGlobals "_law_name" = some (some (.ref f29))) (l29:K.lookup f29=some ⟨oc29,od29,.func (PySem.W.fnOf "_law_name" "_law_name" (defArgs s__law_name) (defBody s__law_name) (defScope s__law_name) .none kV29 dc29 pm29 an29 cd29 ct29),sl29⟩) (c29:PySem.W.codeIn K cd29 "_law_name" = true) (k29:PySem.W.keepIn K (.ref f29)=true)
   (a30:PySem.W.nsIn K mainGlobals "_law_head" = some (some (.ref f30))) (l30:K.lookup f30=some ⟨oc30,od30,.func (PySem.W.fnOf "_law_head" "_law_head" (defArgs s__law_head) (defBody s__law_head) (defScope s__law_head) .none kV30 dc30 pm30 an30 cd30 ct30),sl30⟩) (c30:PySem.W.codeIn K cd30 "_law_head" = true) (k30:PySem.W.keepIn K (.ref f30)=true)
   (a31:PySem.W.nsIn K mainGlobals "_law_route" = some (some (.ref f31))) (l31:K.lookup f31=some ⟨oc31,od31,.func (PySem.W.fnOf "_law_route" "_law_route" (defArgs s__law_route) (defBody s__law_route) (defScope s__law_route) .none kV31 dc31 pm31 an31 cd31 ct31),sl31⟩) (c31:PySem.W.codeIn K cd31 "_law_route" = true) (k31:PySem.W.keepIn K (.ref f31)=true)
   (a32:PySem.W.nsIn K mainGlobals "_law_row" = some (some (.ref f32))) (l32:K.lookup f32=some ⟨oc32,od32,.func (PySem.W.fnOf "_law_row" "_law_row" (defArgs s__law_row) (defBody s__law_row) (defScope s__law_row) .none kV32 dc32 pm32 an32 cd32 ct32),sl32⟩) (c32:PySem.W.codeIn K cd32 "_law_row" = true) (k32:PySem.W.keepIn K (.ref f32)=true)
   (a33:PySem.W.nsIn K mainGlobals "_law_good" = some (some (.ref f33))) (l33:K.lookup f33=some ⟨oc33,od33,.func (PySem.W.fnOf "_law_good" "_law_good" (defArgs s__law_good) (defBody s__law_good) (defScope s__law_good) .none kV33 dc33 pm33 an33 cd33 ct33),sl33⟩) (c33:PySem.W.codeIn K cd33 "_law_good" = true) (k33:PySem.W.keepIn K (.ref f33)=true)
   (a34:PySem.W.nsIn K mainGlobals "written_path" = some (some (.ref f34))) (l34:K.lookup f34=some ⟨oc34,od34,.func (PySem.W.fnOf "written_path" "written_path" (defArgs s_written_path) (defBody s_written_path) (defScope s_written_path) .none kV34 dc34 pm34 an34 cd34 ct34),sl34⟩) (c34:PySem.W.codeIn K cd34 "written_path" = true) (k34:PySem.W.keepIn K (.ref f34)=true)
   (a35:PySem.W.nsIn K mainGlobals "words_of_sort" = some (some (.ref f35))) (l35:K.lookup f35=some ⟨oc35,od35,.func (PySem.W.fnOf "words_of_sort" "words_of_sort" (defArgs s_words_of_sort) (defBody s_words_of_sort) (defScope s_words_of_sort) .none kV35 dc35 pm35 an35 cd35 ct35),sl35⟩) (c35:PySem.W.codeIn K cd35 "words_of_sort" = true) (k35:PySem.W.keepIn K (.ref f35)=true)
   (a36:PySem.W.nsIn K mainGlobals "with_between" = some (some (.ref f36))) (l36:K.lookup f36=some ⟨oc36,od36,.func (PySem.W.fnOf "with_between" "with_between" (defArgs s_with_between) (defBody s_with_between) (defScope s_with_between) .none kV36 dc36 pm36 an36 cd36 ct36),sl36⟩) (c36:PySem.W.codeIn K cd36 "with_between" = true) (k36:PySem.W.keepIn K (.ref f36)=true)
   (a37:PySem.W.nsIn K mainGlobals "words_of_item" = some (some (.ref f37))) (l37:K.lookup f37=some ⟨oc37,od37,.func (PySem.W.fnOf "words_of_item" "words_of_item" (defArgs s_words_of_item) (defBody s_words_of_item) (defScope s_words_of_item) .none kV37 dc37 pm37 an37 cd37 ct37),sl37⟩) (c37:PySem.W.codeIn K cd37 "words_of_item" = true) (k37:PySem.W.keepIn K (.ref f37)=true)
   (a38:PySem.W.nsIn K mainGlobals "words_of" = some (some (.ref f38))) (l38:K.lookup f38=some ⟨oc38,od38,.func (PySem.W.fnOf "words_of" "words_of" (defArgs s_words_of) (defBody s_words_of) (defScope s_words_of) .none kV38 dc38 pm38 an38 cd38 ct38),sl38⟩) (c38:PySem.W.codeIn K cd38 "words_of" = true) (k38:PySem.W.keepIn K (.ref f38)=true)
   (a39:PySem.W.nsIn K mainGlobals "written" = some (some (.ref f39))) (l39:K.lookup f39=some ⟨oc39,od39,.func (PySem.W.fnOf "written" "written" (defArgs s_written) (defBody s_written) (defScope s_written) .none kV39 dc39 pm39 an39 cd39 ct39),sl39⟩) (c39:PySem.W.codeIn K cd39 "written" = true) (k39:PySem.W.keepIn K (.ref f39)=true)
   (a40:PySem.W.nsIn K mainGlobals "law" = some (some (.ref f40))) (l40:K.lookup f40=some ⟨oc40,od40,.func (PySem.W.fnOf "law" "law" (defArgs s_law) (defBody s_law) (defScope s_law) .none kV40 dc40 pm40 an40 cd40 ct40),sl40⟩) (c40:PySem.W.codeIn K cd40 "law" = true) (k40:PySem.W.keepIn K (.ref f40)=true)
   (z_ValueError:PySem.W.nsIn K mainGlobals "ValueError" = some none)
   (z_all:PySem.W.nsIn K mainGlobals "all" = some none)
   (z_enumerate:PySem.W.nsIn K mainGlobals "enumerate" = some none)
   (z_int:PySem.W.nsIn K mainGlobals "int" = some none)
   (z_isinstance:PySem.W.nsIn K mainGlobals "isinstance" = some none)
   (z_len:PySem.W.nsIn K mainGlobals "len" = some none)
   (z_list:PySem.W.nsIn K mainGlobals "list" = some none)
   (z_min:PySem.W.nsIn K mainGlobals "min" = some none)
   (z_range:PySem.W.nsIn K mainGlobals "range" = some none)
   (z_str:PySem.W.nsIn K mainGlobals "str" = some none)
   (z_tuple:PySem.W.nsIn K mainGlobals "tuple" = some none)
   (y_LONGEST_NAME:PySem.W.nsIn K mainGlobals "LONGEST_NAME" = some (some (.int 8 tc_LONGEST_NAME)))
   (y_LONGEST_PATH:PySem.W.nsIn K mainGlobals "LONGEST_PATH" = some (some (.int 6 tc_LONGEST_PATH)))
   (y_MOST_BRACKETS:PySem.W.nsIn K mainGlobals "MOST_BRACKETS" = some (some (.int 31 tc_MOST_BRACKETS)))
   (g_Caught:PySem.W.nsIn K mainGlobals "Caught" = some (some (.ref C_Caught)))
   (g_NoName:PySem.W.nsIn K mainGlobals "NoName" = some (some (.ref C_NoName)))
   (g_NoPlace:PySem.W.nsIn K mainGlobals "NoPlace" = some (some (.ref C_NoPlace)))
   (g_NoRow:PySem.W.nsIn K mainGlobals "NoRow" = some (some (.ref C_NoRow)))
   (g_NoText:PySem.W.nsIn K mainGlobals "NoText" = some (some (.ref C_NoText)))
   (g_PathError:PySem.W.nsIn K mainGlobals "PathError" = some (some (.ref C_PathError)))
   (g_Ring:PySem.W.nsIn K mainGlobals "Ring" = some (some (.ref C_Ring)))
   (g_Tangled:PySem.W.nsIn K mainGlobals "Tangled" = some (some (.ref C_Tangled)))
   (g_TooGreat:PySem.W.nsIn K mainGlobals "TooGreat" = some (some (.ref C_TooGreat)))
   (g_Twice:PySem.W.nsIn K mainGlobals "Twice" = some (some (.ref C_Twice)))
   (x_NoText:PySem.W.excIn K C_NoText [.type "ValueError",.type "Exception",.type "BaseException",.type "object"] "ValueError.__new__" = true)
   (x_PathError:PySem.W.excIn K C_PathError [.type "ValueError",.type "Exception",.type "BaseException",.type "object"] "ValueError.__new__" = true)
   (hn0:PySem.W.specialIn K (.builtin "object.__class__") "__get__" = some (some (.builtin "getset_descriptor.__get__"))) (ht0:PySem.W.takesIn K (.builtin "object.__class__")=some true)
   (p_NoText:PySem.W.findIn K (.ref C_NoText) "__getattribute__" = some (some (.builtin "BaseException.__getattribute__"))) (pa_NoText:PySem.W.findIn K (.ref C_NoText) "__getattr__" = some none) (pb_NoText:PySem.W.mroIn K C_NoText (.type "BaseException")=some true) (q_NoText:PySem.W.findIn K (.ref C_NoText) "__class__" = some (some (.builtin "object.__class__"))) (m_NoText:PySem.W.mroIn K C_NoText (.type "object")=some true) (w_NoText:PySem.W.subIn K (.ref C_NoText) (.type "ValueError")=some true)
   (u_NoText_PathError:PySem.W.mroIn K C_NoText (.ref C_PathError)=some true)
   (r_NoText_Caught:PySem.W.subIn K (.ref C_NoText) (.ref C_Caught)=some false)
   (r_NoText_NoName:PySem.W.subIn K (.ref C_NoText) (.ref C_NoName)=some false)
   (r_NoText_NoPlace:PySem.W.subIn K (.ref C_NoText) (.ref C_NoPlace)=some false)
   (r_NoText_NoRow:PySem.W.subIn K (.ref C_NoText) (.ref C_NoRow)=some false)
   (r_NoText_NoText:PySem.W.subIn K (.ref C_NoText) (.ref C_NoText)=some true)
   (r_NoText_Ring:PySem.W.subIn K (.ref C_NoText) (.ref C_Ring)=some false)
   (r_NoText_Tangled:PySem.W.subIn K (.ref C_NoText) (.ref C_Tangled)=some false)
   (r_NoText_TooGreat:PySem.W.subIn K (.ref C_NoText) (.ref C_TooGreat)=some false)
   (r_NoText_Twice:PySem.W.subIn K (.ref C_NoText) (.ref C_Twice)=some false)
   (n_NoText_Caught:(Value.ref C_NoText == Value.ref C_Caught)=false)
   (n_NoText_NoName:(Value.ref C_NoText == Value.ref C_NoName)=false)
   (n_NoText_NoPlace:(Value.ref C_NoText == Value.ref C_NoPlace)=false)
   (n_NoText_NoRow:(Value.ref C_NoText == Value.ref C_NoRow)=false)
   (n_NoText_Ring:(Value.ref C_NoText == Value.ref C_Ring)=false)
   (n_NoText_Tangled:(Value.ref C_NoText == Value.ref C_Tangled)=false)
   (n_NoText_TooGreat:(Value.ref C_NoText == Value.ref C_TooGreat)=false)
   (n_NoText_Twice:(Value.ref C_NoText == Value.ref C_Twice)=false)
   (o_Caught:PySem.W.mroIn K C_Caught (.type "object")=some true) (t_Caught:PySem.W.typeIn K (.ref C_Caught)=some (.type "type"))
   (o_NoName:PySem.W.mroIn K C_NoName (.type "object")=some true) (t_NoName:PySem.W.typeIn K (.ref C_NoName)=some (.type "type"))
   (o_NoPlace:PySem.W.mroIn K C_NoPlace (.type "object")=some true) (t_NoPlace:PySem.W.typeIn K (.ref C_NoPlace)=some (.type "type"))
   (o_NoRow:PySem.W.mroIn K C_NoRow (.type "object")=some true) (t_NoRow:PySem.W.typeIn K (.ref C_NoRow)=some (.type "type"))
   (o_NoText:PySem.W.mroIn K C_NoText (.type "object")=some true) (t_NoText:PySem.W.typeIn K (.ref C_NoText)=some (.type "type"))
   (o_Ring:PySem.W.mroIn K C_Ring (.type "object")=some true) (t_Ring:PySem.W.typeIn K (.ref C_Ring)=some (.type "type"))
   (o_Tangled:PySem.W.mroIn K C_Tangled (.type "object")=some true) (t_Tangled:PySem.W.typeIn K (.ref C_Tangled)=some (.type "type"))
   (o_TooGreat:PySem.W.mroIn K C_TooGreat (.type "object")=some true) (t_TooGreat:PySem.W.typeIn K (.ref C_TooGreat)=some (.type "type"))
   (o_Twice:PySem.W.mroIn K C_Twice (.type "object")=some true) (t_Twice:PySem.W.typeIn K (.ref C_Twice)=some (.type "type"))
   (g_All:PySem.W.nsIn K mainGlobals "All" = some (some (.ref C_All)))
   (g_Ask:PySem.W.nsIn K mainGlobals "Ask" = some (some (.ref C_Ask)))
   (g_Elder:PySem.W.nsIn K mainGlobals "Elder" = some (some (.ref C_Elder)))
   (g_Let:PySem.W.nsIn K mainGlobals "Let" = some (some (.ref C_Let)))
   (g_One:PySem.W.nsIn K mainGlobals "One" = some (some (.ref C_One)))
   (g_Part:PySem.W.nsIn K mainGlobals "Part" = some (some (.ref C_Part)))
   (g_Thing:PySem.W.nsIn K mainGlobals "Thing" = some (some (.ref C_Thing)))
   (g_Words:PySem.W.nsIn K mainGlobals "Words" = some (some (.ref C_Words)))
   (pg_All:PySem.W.plainGet K C_All Str.empty=true) (hd_All:PySem.W.hasDictIn K C_All=true) (po_All:PySem.W.plainOver K C_All=true) (sa_All:PySem.W.findIn K (.ref C_All) "__setattr__" = some (some (.builtin "object.__setattr__"))) (mk_All:PySem.W.makesIn K C_All=true) (kc_All:PySem.W.keepIn K (.ref C_All)=true)
   (na_All_on:PySem.W.findIn K (.ref C_All) "on" = some none)
   (na_All_path:PySem.W.findIn K (.ref C_All) "path" = some none)
   (fc_All:PySem.W.findIn K (.ref C_All) "__class__" = some (some (.builtin "object.__class__"))) (mr_All:PySem.W.mroIn K C_All (.type "object")=some true)
   (ai_All_All:PySem.W.isIn K (.ref C_All) C_All=true)
   (an_All_Elder:PySem.W.kin_not K C_All C_Elder=true)
   (an_All_Let:PySem.W.kin_not K C_All C_Let=true)
   (an_All_One:PySem.W.kin_not K C_All C_One=true)
   (an_All_Part:PySem.W.kin_not K C_All C_Part=true)
   (an_All_Thing:PySem.W.kin_not K C_All C_Thing=true)
   (pg_Ask:PySem.W.plainGet K C_Ask Str.empty=true) (hd_Ask:PySem.W.hasDictIn K C_Ask=true) (po_Ask:PySem.W.plainOver K C_Ask=true) (sa_Ask:PySem.W.findIn K (.ref C_Ask) "__setattr__" = some (some (.builtin "object.__setattr__"))) (mk_Ask:PySem.W.makesIn K C_Ask=true) (kc_Ask:PySem.W.keepIn K (.ref C_Ask)=true)
   (na_Ask_path:PySem.W.findIn K (.ref C_Ask) "path" = some none)
   (fc_Ask:PySem.W.findIn K (.ref C_Ask) "__class__" = some (some (.builtin "object.__class__"))) (mr_Ask:PySem.W.mroIn K C_Ask (.type "object")=some true)
   (an_Ask_All:PySem.W.kin_not K C_Ask C_All=true)
   (an_Ask_Elder:PySem.W.kin_not K C_Ask C_Elder=true)
   (an_Ask_Let:PySem.W.kin_not K C_Ask C_Let=true)
   (an_Ask_One:PySem.W.kin_not K C_Ask C_One=true)
   (an_Ask_Part:PySem.W.kin_not K C_Ask C_Part=true)
   (an_Ask_Thing:PySem.W.kin_not K C_Ask C_Thing=true)
   (pg_Elder:PySem.W.plainGet K C_Elder Str.empty=true) (hd_Elder:PySem.W.hasDictIn K C_Elder=true) (po_Elder:PySem.W.plainOver K C_Elder=true) (sa_Elder:PySem.W.findIn K (.ref C_Elder) "__setattr__" = some (some (.builtin "object.__setattr__"))) (mk_Elder:PySem.W.makesIn K C_Elder=true) (kc_Elder:PySem.W.keepIn K (.ref C_Elder)=true)
   (na_Elder_path:PySem.W.findIn K (.ref C_Elder) "path" = some none)
   (fc_Elder:PySem.W.findIn K (.ref C_Elder) "__class__" = some (some (.builtin "object.__class__"))) (mr_Elder:PySem.W.mroIn K C_Elder (.type "object")=some true)
   (an_Elder_All:PySem.W.kin_not K C_Elder C_All=true)
   (ai_Elder_Elder:PySem.W.isIn K (.ref C_Elder) C_Elder=true)
   (an_Elder_Let:PySem.W.kin_not K C_Elder C_Let=true)
   (an_Elder_One:PySem.W.kin_not K C_Elder C_One=true)
   (an_Elder_Part:PySem.W.kin_not K C_Elder C_Part=true)
   (an_Elder_Thing:PySem.W.kin_not K C_Elder C_Thing=true)
   (pg_Let:PySem.W.plainGet K C_Let Str.empty=true) (hd_Let:PySem.W.hasDictIn K C_Let=true) (po_Let:PySem.W.plainOver K C_Let=true) (sa_Let:PySem.W.findIn K (.ref C_Let) "__setattr__" = some (some (.builtin "object.__setattr__"))) (mk_Let:PySem.W.makesIn K C_Let=true) (kc_Let:PySem.W.keepIn K (.ref C_Let)=true)
   (na_Let_name:PySem.W.findIn K (.ref C_Let) "name" = some none)
   (na_Let_of:PySem.W.findIn K (.ref C_Let) "of" = some none)
   (fc_Let:PySem.W.findIn K (.ref C_Let) "__class__" = some (some (.builtin "object.__class__"))) (mr_Let:PySem.W.mroIn K C_Let (.type "object")=some true)
   (an_Let_All:PySem.W.kin_not K C_Let C_All=true)
   (an_Let_Elder:PySem.W.kin_not K C_Let C_Elder=true)
   (ai_Let_Let:PySem.W.isIn K (.ref C_Let) C_Let=true)
   (an_Let_One:PySem.W.kin_not K C_Let C_One=true)
   (an_Let_Part:PySem.W.kin_not K C_Let C_Part=true)
   (an_Let_Thing:PySem.W.kin_not K C_Let C_Thing=true)
   (pg_One:PySem.W.plainGet K C_One Str.empty=true) (hd_One:PySem.W.hasDictIn K C_One=true) (po_One:PySem.W.plainOver K C_One=true) (sa_One:PySem.W.findIn K (.ref C_One) "__setattr__" = some (some (.builtin "object.__setattr__"))) (mk_One:PySem.W.makesIn K C_One=true) (kc_One:PySem.W.keepIn K (.ref C_One)=true)
   (na_One_name:PySem.W.findIn K (.ref C_One) "name" = some none)
   (na_One_path:PySem.W.findIn K (.ref C_One) "path" = some none)
   (na_One_reach:PySem.W.findIn K (.ref C_One) "reach" = some none)
   (fc_One:PySem.W.findIn K (.ref C_One) "__class__" = some (some (.builtin "object.__class__"))) (mr_One:PySem.W.mroIn K C_One (.type "object")=some true)
   (an_One_All:PySem.W.kin_not K C_One C_All=true)
   (an_One_Elder:PySem.W.kin_not K C_One C_Elder=true)
   (an_One_Let:PySem.W.kin_not K C_One C_Let=true)
   (ai_One_One:PySem.W.isIn K (.ref C_One) C_One=true)
   (an_One_Part:PySem.W.kin_not K C_One C_Part=true)
   (an_One_Thing:PySem.W.kin_not K C_One C_Thing=true)
   (pg_Part:PySem.W.plainGet K C_Part Str.empty=true) (hd_Part:PySem.W.hasDictIn K C_Part=true) (po_Part:PySem.W.plainOver K C_Part=true) (sa_Part:PySem.W.findIn K (.ref C_Part) "__setattr__" = some (some (.builtin "object.__setattr__"))) (mk_Part:PySem.W.makesIn K C_Part=true) (kc_Part:PySem.W.keepIn K (.ref C_Part)=true)
   (na_Part_inner:PySem.W.findIn K (.ref C_Part) "inner" = some none)
   (na_Part_name:PySem.W.findIn K (.ref C_Part) "name" = some none)
   (na_Part_reach:PySem.W.findIn K (.ref C_Part) "reach" = some none)
   (fc_Part:PySem.W.findIn K (.ref C_Part) "__class__" = some (some (.builtin "object.__class__"))) (mr_Part:PySem.W.mroIn K C_Part (.type "object")=some true)
   (an_Part_All:PySem.W.kin_not K C_Part C_All=true)
   (an_Part_Elder:PySem.W.kin_not K C_Part C_Elder=true)
   (an_Part_Let:PySem.W.kin_not K C_Part C_Let=true)
   (an_Part_One:PySem.W.kin_not K C_Part C_One=true)
   (ai_Part_Part:PySem.W.isIn K (.ref C_Part) C_Part=true)
   (an_Part_Thing:PySem.W.kin_not K C_Part C_Thing=true)
   (pg_Thing:PySem.W.plainGet K C_Thing Str.empty=true) (hd_Thing:PySem.W.hasDictIn K C_Thing=true) (po_Thing:PySem.W.plainOver K C_Thing=true) (sa_Thing:PySem.W.findIn K (.ref C_Thing) "__setattr__" = some (some (.builtin "object.__setattr__"))) (mk_Thing:PySem.W.makesIn K C_Thing=true) (kc_Thing:PySem.W.keepIn K (.ref C_Thing)=true)
   (na_Thing_name:PySem.W.findIn K (.ref C_Thing) "name" = some none)
   (na_Thing_of:PySem.W.findIn K (.ref C_Thing) "of" = some none)
   (na_Thing_reach:PySem.W.findIn K (.ref C_Thing) "reach" = some none)
   (fc_Thing:PySem.W.findIn K (.ref C_Thing) "__class__" = some (some (.builtin "object.__class__"))) (mr_Thing:PySem.W.mroIn K C_Thing (.type "object")=some true)
   (an_Thing_All:PySem.W.kin_not K C_Thing C_All=true)
   (an_Thing_Elder:PySem.W.kin_not K C_Thing C_Elder=true)
   (an_Thing_Let:PySem.W.kin_not K C_Thing C_Let=true)
   (an_Thing_One:PySem.W.kin_not K C_Thing C_One=true)
   (an_Thing_Part:PySem.W.kin_not K C_Thing C_Part=true)
   (ai_Thing_Thing:PySem.W.isIn K (.ref C_Thing) C_Thing=true)
   (pg_Words:PySem.W.plainGet K C_Words Str.empty=true) (hd_Words:PySem.W.hasDictIn K C_Words=true) (po_Words:PySem.W.plainOver K C_Words=true) (sa_Words:PySem.W.findIn K (.ref C_Words) "__setattr__" = some (some (.builtin "object.__setattr__"))) (mk_Words:PySem.W.makesIn K C_Words=true) (kc_Words:PySem.W.keepIn K (.ref C_Words)=true)
   (na_Words_place:PySem.W.findIn K (.ref C_Words) "place" = some none)
   (na_Words_words:PySem.W.findIn K (.ref C_Words) "words" = some none)
   : Facts K
theorem rs1 (w:World) (os:OsState):Option.map (fun s=>(Fast.tw4187177175401517315 view loose (Fast.tw5923862056798008813 PySem.Challenge.pw_namepaths_k73_texts_told_apart.main.body) (fun s=>xlAt view [] s && recOk [] s) true s).1) (runM PP w 11 (some (Value.ref 6)) 36812 (Sm w os) tm)=some (openGood view loose).1:=by kernel_rfl
theorem rs2 (w:World) (os:OsState):Option.map (fun s=>((Fast.tw4187177175401517315 view loose (Fast.tw5923862056798008813 PySem.Challenge.pw_namepaths_k73_texts_told_apart.main.body) (fun s=>xlAt view [] s && recOk [] s) true s).2.1,(Fast.tw4187177175401517315 view loose (Fast.tw5923862056798008813 PySem.Challenge.pw_namepaths_k73_texts_told_apart.main.body) (fun s=>xlAt view [] s && recOk [] s) true s).2.2.2.1)) (runM PP w 11 (some (Value.ref 6)) 36812 (Sm w os) tm)=some ((openGood view loose).2.1,(openGood view loose).2.2.2.1):=by kernel_rfl
theorem rs3 (w:World) (os:OsState):Option.map (fun s=>(Fast.tw4187177175401517315 view loose (Fast.tw5923862056798008813 PySem.Challenge.pw_namepaths_k73_texts_told_apart.main.body) (fun s=>xlAt view [] s && recOk [] s) true s).2.2.1) (runM PP w 11 (some (Value.ref 6)) 36812 (Sm w os) tm)=some (openGood view loose).2.2.1:=by kernel_rfl
theorem rs4 (w:World) (os:OsState):Option.map (fun s=>((Fast.tw4187177175401517315 view loose (Fast.tw5923862056798008813 PySem.Challenge.pw_namepaths_k73_texts_told_apart.main.body) (fun s=>xlAt view [] s && recOk [] s) true s).2.2.2.2.1,(Fast.tw4187177175401517315 view loose (Fast.tw5923862056798008813 PySem.Challenge.pw_namepaths_k73_texts_told_apart.main.body) (fun s=>xlAt view [] s && recOk [] s) true s).2.2.2.2.2.1)) (runM PP w 11 (some (Value.ref 6)) 36812 (Sm w os) tm)=some ((openGood view loose).2.2.2.2.1,(openGood view loose).2.2.2.2.2.1):=by kernel_rfl
theorem rs5 (w:World) (os:OsState):Option.map (fun s=>((Fast.tw4187177175401517315 view loose (Fast.tw5923862056798008813 PySem.Challenge.pw_namepaths_k73_texts_told_apart.main.body) (fun s=>xlAt view [] s && recOk [] s) true s).2.2.2.2.2.2.1,(Fast.tw4187177175401517315 view loose (Fast.tw5923862056798008813 PySem.Challenge.pw_namepaths_k73_texts_told_apart.main.body) (fun s=>xlAt view [] s && recOk [] s) true s).2.2.2.2.2.2.2.1)) (runM PP w 11 (some (Value.ref 6)) 36812 (Sm w os) tm)=some ((openGood view loose).2.2.2.2.2.2.1,(openGood view loose).2.2.2.2.2.2.2.1):=by kernel_rfl
theorem rs6 (w:World) (os:OsState):Option.map (fun s=>(Fast.tw4187177175401517315 view loose (Fast.tw5923862056798008813 PySem.Challenge.pw_namepaths_k73_texts_told_apart.main.body) (fun s=>xlAt view [] s && recOk [] s) true s).2.2.2.2.2.2.2.2) (runM PP w 11 (some (Value.ref 6)) 36812 (Sm w os) tm)=some (openGood view loose).2.2.2.2.2.2.2.2:=by kernel_rfl
theorem seenP {α β γ δ ε ζ η θ ι S:Type} {f:S→α × β × γ × δ × ε × ζ × η × θ × ι} {g:α × β × γ × δ × ε × ζ × η × θ × ι} {o:Option S} (h0:o.map (fun s=>(f s).1)=some g.1) (h1:o.map (fun s=>((f s).2.1,(f s).2.2.2.1))=some (g.2.1,g.2.2.2.1)) (h2:o.map (fun s=>(f s).2.2.1)=some g.2.2.1) (h3:o.map (fun s=>((f s).2.2.2.2.1,(f s).2.2.2.2.2.1))=some (g.2.2.2.2.1,g.2.2.2.2.2.1)) (h4:o.map (fun s=>((f s).2.2.2.2.2.2.1,(f s).2.2.2.2.2.2.2.1))=some (g.2.2.2.2.2.2.1,g.2.2.2.2.2.2.2.1)) (h5:o.map (fun s=>(f s).2.2.2.2.2.2.2.2)=some g.2.2.2.2.2.2.2.2):o.map f=some g:=by
 cases o with
 | none=>cases h0
 | some s =>
   have h0:=Option.some.inj h0
   have h1:=Option.some.inj h1
   have h2:=Option.some.inj h2
   have h3:=Option.some.inj h3
   have h4:=Option.some.inj h4
   have h5:=Option.some.inj h5
   exact congrArg some (Prod.ext h0 (Prod.ext (congrArg (·.1) h1) (Prod.ext h2 (Prod.ext (congrArg (·.2) h1) (Prod.ext (congrArg (·.1) h3) (Prod.ext (congrArg (·.2) h3) (Prod.ext (congrArg (·.1) h4) (Prod.ext (congrArg (·.2) h4) (h5)))))))))
theorem run_seen (w:World) (os:OsState):Option.map (fun s=>(Fast.tw4187177175401517315 view loose (Fast.tw5923862056798008813 PySem.Challenge.pw_namepaths_k73_texts_told_apart.main.body) (fun s=>xlAt view [] s && recOk [] s) true s)) (runM PP w 11 (some (Value.ref 6)) 36812 (Sm w os) tm)=some (openGood view loose):=seenP (f:=fun s=>(Fast.tw4187177175401517315 view loose (Fast.tw5923862056798008813 PySem.Challenge.pw_namepaths_k73_texts_told_apart.main.body) (fun s=>xlAt view [] s && recOk [] s) true s)) (rs1 w os) (rs2 w os) (rs3 w os) (rs4 w os) (rs5 w os) (rs6 w os)
end K73
section
open PySem PySem.W PyProof.Rows
local macro_rules | `(tactic| o_head $H:term) => `(tactic| refine holds_open (q := K73.view) (loose := K73.loose) (Xt := fun s => xlAt K73.view [] s && recOk [] s) (XP := XL K73.view []) (Yf := Hook.obs $H) (Ya := Hook.val $H) (YP := Hook.says $H) (N := 40000) ?hl (Hook.of $H) (Hook.keeps $H) (fun s e => xl_of s (Bool.and_eq_true_iff.mp e).1) XL.keeps (by rfl) (by rfl) (by rfl) (fun s e => recFacts_of (Bool.and_eq_true_iff.mp e).2) (by rfl) (by first | assumption | decide +kernel) (by decide +kernel) ⟨rfl, rfl, rfl, rfl, rfl, by decide +kernel⟩ ?hw ?hc)
set_option maxHeartbeats 0 in
theorem K73.hd (hyp:∀ K:Params→Frag,(∀ w:World,K73.Facts (K w.params))→∀ (YP:World→Heap→Prop) (d:DefRec),d.params.defaults=[]→d.name = "law" → (∀ (w:World) (h:Heap),YP w h→(K w.params).In h)→WalkO K73.view K73.loose (XL K73.view []) YP PySem.Challenge.rw_namepaths_k73_texts_told_apart.row.toRowW d [] (fun f vs=>PySem.call f vs)):PySem.Challenge.rw_namepaths_k73_texts_told_apart.Holds:=by
 w_on; o_law; k_head
 case hl =>
  refine L2.left_mid K73.mid_open K73.mid_fence K73.mid_size K73.mid_go K73.run_seen fun w os=>?_
  kernel_rfl
 case hw=>w_witness2
 k_fill
 refine hyp _ (fun w=>?fx) _ _ rfl rfl (fun w h Y=>PySem.W.kIn_of Y)
 case fx =>
  refine' K73.Facts.mk ?a0 ?l0 ?c0 ?k0 ?a1 ?l1 ?c1 ?k1 ?a2 ?l2 ?c2 ?k2 ?a3 ?l3 ?c3 ?k3 ?a4 ?l4 ?c4 ?k4 ?a5 ?l5 ?c5 ?k5 ?a6 ?l6 ?c6 ?k6 ?a7 ?i7 ?l7 ?c7 ?k7 ?a8 ?i8 ?l8 ?c8 ?k8 ?a9 ?i9 ?l9 ?c9 ?k9 ?a10 ?l10 ?c10 ?k10 ?a11 ?l11 ?c11 ?k11 ?a12 ?l12 ?c12 ?k12 ?a13 ?i13 ?l13 ?c13 ?k13 ?a14 ?i14 ?l14 ?c14 ?k14 ?a15 ?i15 ?l15 ?c15 ?k15 ?t15 ?a16 ?l16 ?c16 ?k16 ?a17 ?l17 ?c17 ?k17 ?a18 ?i18 ?l18 ?c18 ?k18 ?t18 ?a19 ?i19 ?l19 ?c19 ?k19 ?a20 ?i20 ?l20 ?c20 ?k20 ?t20 ?a21 ?l21 ?c21 ?k21 ?a22 ?i22 ?l22 ?c22 ?k22 ?a23 ?i23 ?l23 ?c23 ?k23 ?a24 ?l24 ?c24 ?k24 ?a25 ?l25 ?c25 ?k25 ?a26 ?l26 ?c26 ?k26 ?a27 ?l27 ?c27 ?k27 ?a28 ?l28 ?c28 ?k28 ?a29 ?l29 ?c29 ?k29 ?a30 ?l30 ?c30 ?k30 ?a31 ?l31 ?c31 ?k31 ?a32 ?l32 ?c32 ?k32 ?a33 ?l33 ?c33 ?k33 ?a34 ?l34 ?c34 ?k34 ?a35 ?l35 ?c35 ?k35 ?a36 ?l36 ?c36 ?k36 ?a37 ?l37 ?c37 ?k37 ?a38 ?l38 ?c38 ?k38 ?a39 ?l39 ?c39 ?k39 ?a40 ?l40 ?c40 ?k40 ?z_ValueError ?z_all ?z_enumerate ?z_int ?z_isinstance ?z_len ?z_list ?z_min ?z_range ?z_str ?z_tuple ?y_LONGEST_NAME ?y_LONGEST_PATH ?y_MOST_BRACKETS ?g_Caught ?g_NoName ?g_NoPlace ?g_NoRow ?g_NoText ?g_PathError ?g_Ring ?g_Tangled ?g_TooGreat ?g_Twice ?x_NoText ?x_PathError ?hn0 ?ht0 ?p_NoText ?pa_NoText ?pb_NoText ?q_NoText ?m_NoText ?w_NoText ?u_NoText_PathError ?r_NoText_Caught ?r_NoText_NoName ?r_NoText_NoPlace ?r_NoText_NoRow ?r_NoText_NoText ?r_NoText_Ring ?r_NoText_Tangled ?r_NoText_TooGreat ?r_NoText_Twice ?n_NoText_Caught ?n_NoText_NoName ?n_NoText_NoPlace ?n_NoText_NoRow ?n_NoText_Ring ?n_NoText_Tangled ?n_NoText_TooGreat ?n_NoText_Twice ?o_Caught ?t_Caught ?o_NoName ?t_NoName ?o_NoPlace ?t_NoPlace ?o_NoRow ?t_NoRow ?o_NoText ?t_NoText ?o_Ring ?t_Ring ?o_Tangled ?t_Tangled ?o_TooGreat ?t_TooGreat ?o_Twice ?t_Twice ?g_All ?g_Ask ?g_Elder ?g_Let ?g_One ?g_Part ?g_Thing ?g_Words ?pg_All ?hd_All ?po_All ?sa_All ?mk_All ?kc_All ?na_All_on ?na_All_path ?fc_All ?mr_All ?ai_All_All ?an_All_Elder ?an_All_Let ?an_All_One ?an_All_Part ?an_All_Thing ?pg_Ask ?hd_Ask ?po_Ask ?sa_Ask ?mk_Ask ?kc_Ask ?na_Ask_path ?fc_Ask ?mr_Ask ?an_Ask_All ?an_Ask_Elder ?an_Ask_Let ?an_Ask_One ?an_Ask_Part ?an_Ask_Thing ?pg_Elder ?hd_Elder ?po_Elder ?sa_Elder ?mk_Elder ?kc_Elder ?na_Elder_path ?fc_Elder ?mr_Elder ?an_Elder_All ?ai_Elder_Elder ?an_Elder_Let ?an_Elder_One ?an_Elder_Part ?an_Elder_Thing ?pg_Let ?hd_Let ?po_Let ?sa_Let ?mk_Let ?kc_Let ?na_Let_name ?na_Let_of ?fc_Let ?mr_Let ?an_Let_All ?an_Let_Elder ?ai_Let_Let ?an_Let_One ?an_Let_Part ?an_Let_Thing ?pg_One ?hd_One ?po_One ?sa_One ?mk_One ?kc_One ?na_One_name ?na_One_path ?na_One_reach ?fc_One ?mr_One ?an_One_All ?an_One_Elder ?an_One_Let ?ai_One_One ?an_One_Part ?an_One_Thing ?pg_Part ?hd_Part ?po_Part ?sa_Part ?mk_Part ?kc_Part ?na_Part_inner ?na_Part_name ?na_Part_reach ?fc_Part ?mr_Part ?an_Part_All ?an_Part_Elder ?an_Part_Let ?an_Part_One ?ai_Part_Part ?an_Part_Thing ?pg_Thing ?hd_Thing ?po_Thing ?sa_Thing ?mk_Thing ?kc_Thing ?na_Thing_name ?na_Thing_of ?na_Thing_reach ?fc_Thing ?mr_Thing ?an_Thing_All ?an_Thing_Elder ?an_Thing_Let ?an_Thing_One ?an_Thing_Part ?ai_Thing_Thing ?pg_Words ?hd_Words ?po_Words ?sa_Words ?mk_Words ?kc_Words ?na_Words_place ?na_Words_words
  (case g_Caught=>k_is)
  (case g_NoName=>k_is)
  (case g_NoPlace=>k_is)
  (case g_NoRow=>k_is)
  (case g_NoText=>k_is)
  (case g_PathError=>k_is)
  (case g_Ring=>k_is)
  (case g_Tangled=>k_is)
  (case g_TooGreat=>k_is)
  (case g_Twice=>k_is)
  (case g_All=>k_is)
  (case g_Ask=>k_is)
  (case g_Elder=>k_is)
  (case g_Let=>k_is)
  (case g_One=>k_is)
  (case g_Part=>k_is)
  (case g_Thing=>k_is)
  (case g_Words=>k_is)
  (case a0=>k_is)
  (case l0=>k_is)
  (case c0=>k_is)
  (case k0=>k_is)
  (case a1=>k_is)
  (case l1=>k_is)
  (case c1=>k_is)
  (case k1=>k_is)
  (case a2=>k_is)
  (case l2=>k_is)
  (case c2=>k_is)
  (case k2=>k_is)
  (case a3=>k_is)
  (case l3=>k_is)
  (case c3=>k_is)
  (case k3=>k_is)
  (case a4=>k_is)
  (case l4=>k_is)
  (case c4=>k_is)
  (case k4=>k_is)
  (case a5=>k_is)
  (case l5=>k_is)
  (case c5=>k_is)
  (case k5=>k_is)
  (case a6=>k_is)
  (case l6=>k_is)
  (case c6=>k_is)
  (case k6=>k_is)
  (case a7=>k_is)
  (case i7=>k_is)
  (case l7=>k_is)
  (case c7=>k_is)
  (case k7=>k_is)
  (case a8=>k_is)
  (case i8=>k_is)
  (case l8=>k_is)
  (case c8=>k_is)
  (case k8=>k_is)
  (case a9=>k_is)
  (case i9=>k_is)
  (case l9=>k_is)
  (case c9=>k_is)
  (case k9=>k_is)
  (case a10=>k_is)
  (case l10=>k_is)
  (case c10=>k_is)
  (case k10=>k_is)
  (case a11=>k_is)
  (case l11=>k_is)
  (case c11=>k_is)
  (case k11=>k_is)
  (case a12=>k_is)
  (case l12=>k_is)
  (case c12=>k_is)
  (case k12=>k_is)
  (case a13=>k_is)
  (case i13=>k_is)
  (case l13=>k_is)
  (case c13=>k_is)
  (case k13=>k_is)
  (case a14=>k_is)
  (case i14=>k_is)
  (case l14=>k_is)
  (case c14=>k_is)
  (case k14=>k_is)
  (case a15=>k_is)
  (case i15=>k_is)
  (case l15=>k_is)
  (case c15=>k_is)
  (case k15=>k_is)
  (case t15=>k_is)
  (case a16=>k_is)
  (case l16=>k_is)
  (case c16=>k_is)
  (case k16=>k_is)
  (case a17=>k_is)
  (case l17=>k_is)
  (case c17=>k_is)
  (case k17=>k_is)
  (case a18=>k_is)
  (case i18=>k_is)
  (case l18=>k_is)
  (case c18=>k_is)
  (case k18=>k_is)
  (case t18=>k_is)
  (case a19=>k_is)
  (case i19=>k_is)
  (case l19=>k_is)
  (case c19=>k_is)
  (case k19=>k_is)
  (case a20=>k_is)
  (case i20=>k_is)
  (case l20=>k_is)
  (case c20=>k_is)
  (case k20=>k_is)
  (case t20=>k_is)
  (case a21=>k_is)
  (case l21=>k_is)
  (case c21=>k_is)
  (case k21=>k_is)
  (case a22=>k_is)
  (case i22=>k_is)
  (case l22=>k_is)
  (case c22=>k_is)
  (case k22=>k_is)
  (case a23=>k_is)
  (case i23=>k_is)
  (case l23=>k_is)
  (case c23=>k_is)
  (case k23=>k_is)
  (case a24=>k_is)
  (case l24=>k_is)
  (case c24=>k_is)
  (case k24=>k_is)
  (case a25=>k_is)
  (case l25=>k_is)
  (case c25=>k_is)
  (case k25=>k_is)
  (case a26=>k_is)
  (case l26=>k_is)
  (case c26=>k_is)
  (case k26=>k_is)
  (case a27=>k_is)
  (case l27=>k_is)
  (case c27=>k_is)
  (case k27=>k_is)
  (case a28=>k_is)
  (case l28=>k_is)
  (case c28=>k_is)
  (case k28=>k_is)
  (case a29=>k_is)
  (case l29=>k_is)
  (case c29=>k_is)
  (case k29=>k_is)
  (case a30=>k_is)
  (case l30=>k_is)
  (case c30=>k_is)
  (case k30=>k_is)
  (case a31=>k_is)
  (case l31=>k_is)
  (case c31=>k_is)
  (case k31=>k_is)
  (case a32=>k_is)
  (case l32=>k_is)
  (case c32=>k_is)
  (case k32=>k_is)
  (case a33=>k_is)
  (case l33=>k_is)
  (case c33=>k_is)
  (case k33=>k_is)
  (case a34=>k_is)
  (case l34=>k_is)
  (case c34=>k_is)
  (case k34=>k_is)
  (case a35=>k_is)
  (case l35=>k_is)
  (case c35=>k_is)
  (case k35=>k_is)
  (case a36=>k_is)
  (case l36=>k_is)
  (case c36=>k_is)
  (case k36=>k_is)
  (case a37=>k_is)
  (case l37=>k_is)
  (case c37=>k_is)
  (case k37=>k_is)
  (case a38=>k_is)
  (case l38=>k_is)
  (case c38=>k_is)
  (case k38=>k_is)
  (case a39=>k_is)
  (case l39=>k_is)
  (case c39=>k_is)
  (case k39=>k_is)
  (case a40=>k_is)
  (case l40=>k_is)
  (case c40=>k_is)
  (case k40=>k_is)
  (case z_ValueError=>k_is)
  (case z_all=>k_is)
  (case z_enumerate=>k_is)
  (case z_int=>k_is)
  (case z_isinstance=>k_is)
  (case z_len=>k_is)
  (case z_list=>k_is)
  (case z_min=>k_is)
  (case z_range=>k_is)
  (case z_str=>k_is)
  (case z_tuple=>k_is)
  (case y_LONGEST_NAME=>k_is)
  (case y_LONGEST_PATH=>k_is)
  (case y_MOST_BRACKETS=>k_is)
  (case x_NoText=>k_exc)
  (case x_PathError=>k_exc)
  (case hn0=>k_is)
  (case ht0=>k_is)
  (case p_NoText=>k_is)
  (case pa_NoText=>k_is)
  (case pb_NoText=>k_is)
  (case q_NoText=>k_is)
  (case m_NoText=>k_is)
  (case w_NoText=>k_is)
  (case u_NoText_PathError=>k_is)
  (case r_NoText_Caught=>k_is)
  (case r_NoText_NoName=>k_is)
  (case r_NoText_NoPlace=>k_is)
  (case r_NoText_NoRow=>k_is)
  (case r_NoText_NoText=>k_is)
  (case r_NoText_Ring=>k_is)
  (case r_NoText_Tangled=>k_is)
  (case r_NoText_TooGreat=>k_is)
  (case r_NoText_Twice=>k_is)
  (case n_NoText_Caught=>rfl)
  (case n_NoText_NoName=>rfl)
  (case n_NoText_NoPlace=>rfl)
  (case n_NoText_NoRow=>rfl)
  (case n_NoText_Ring=>rfl)
  (case n_NoText_Tangled=>rfl)
  (case n_NoText_TooGreat=>rfl)
  (case n_NoText_Twice=>rfl)
  (case o_Caught=>k_is)
  (case t_Caught=>k_is)
  (case o_NoName=>k_is)
  (case t_NoName=>k_is)
  (case o_NoPlace=>k_is)
  (case t_NoPlace=>k_is)
  (case o_NoRow=>k_is)
  (case t_NoRow=>k_is)
  (case o_NoText=>k_is)
  (case t_NoText=>k_is)
  (case o_Ring=>k_is)
  (case t_Ring=>k_is)
  (case o_Tangled=>k_is)
  (case t_Tangled=>k_is)
  (case o_TooGreat=>k_is)
  (case t_TooGreat=>k_is)
  (case o_Twice=>k_is)
  (case t_Twice=>k_is)
  (case pg_All=>k_is)
  (case hd_All=>kernel_rfl)
  (case po_All=>k_is)
  (case sa_All=>k_is)
  (case mk_All=>k_is)
  (case kc_All=>k_is)
  (case na_All_on=>k_is)
  (case na_All_path=>k_is)
  (case fc_All=>k_is)
  (case mr_All=>k_is)
  (case ai_All_All=>k_is)
  (case an_All_Elder=>kernel_rfl)
  (case an_All_Let=>kernel_rfl)
  (case an_All_One=>kernel_rfl)
  (case an_All_Part=>kernel_rfl)
  (case an_All_Thing=>kernel_rfl)
  (case pg_Ask=>k_is)
  (case hd_Ask=>kernel_rfl)
  (case po_Ask=>k_is)
  (case sa_Ask=>k_is)
  (case mk_Ask=>k_is)
  (case kc_Ask=>k_is)
  (case na_Ask_path=>k_is)
  (case fc_Ask=>k_is)
  (case mr_Ask=>k_is)
  (case an_Ask_All=>kernel_rfl)
  (case an_Ask_Elder=>kernel_rfl)
  (case an_Ask_Let=>kernel_rfl)
  (case an_Ask_One=>kernel_rfl)
  (case an_Ask_Part=>kernel_rfl)
  (case an_Ask_Thing=>kernel_rfl)
  (case pg_Elder=>k_is)
  (case hd_Elder=>kernel_rfl)
  (case po_Elder=>k_is)
  (case sa_Elder=>k_is)
  (case mk_Elder=>k_is)
  (case kc_Elder=>k_is)
  (case na_Elder_path=>k_is)
  (case fc_Elder=>k_is)
  (case mr_Elder=>k_is)
  (case an_Elder_All=>kernel_rfl)
  (case ai_Elder_Elder=>k_is)
  (case an_Elder_Let=>kernel_rfl)
  (case an_Elder_One=>kernel_rfl)
  (case an_Elder_Part=>kernel_rfl)
  (case an_Elder_Thing=>kernel_rfl)
  (case pg_Let=>k_is)
  (case hd_Let=>kernel_rfl)
  (case po_Let=>k_is)
  (case sa_Let=>k_is)
  (case mk_Let=>k_is)
  (case kc_Let=>k_is)
  (case na_Let_name=>k_is)
  (case na_Let_of=>k_is)
  (case fc_Let=>k_is)
  (case mr_Let=>k_is)
  (case an_Let_All=>kernel_rfl)
  (case an_Let_Elder=>kernel_rfl)
  (case ai_Let_Let=>k_is)
  (case an_Let_One=>kernel_rfl)
  (case an_Let_Part=>kernel_rfl)
  (case an_Let_Thing=>kernel_rfl)
  (case pg_One=>k_is)
  (case hd_One=>kernel_rfl)
  (case po_One=>k_is)
  (case sa_One=>k_is)
  (case mk_One=>k_is)
  (case kc_One=>k_is)
  (case na_One_name=>k_is)
  (case na_One_path=>k_is)
  (case na_One_reach=>k_is)
  (case fc_One=>k_is)
  (case mr_One=>k_is)
  (case an_One_All=>kernel_rfl)
  (case an_One_Elder=>kernel_rfl)
  (case an_One_Let=>kernel_rfl)
  (case ai_One_One=>k_is)
  (case an_One_Part=>kernel_rfl)
  (case an_One_Thing=>kernel_rfl)
  (case pg_Part=>k_is)
  (case hd_Part=>kernel_rfl)
  (case po_Part=>k_is)
  (case sa_Part=>k_is)
  (case mk_Part=>k_is)
  (case kc_Part=>k_is)
  (case na_Part_inner=>k_is)
  (case na_Part_name=>k_is)
  (case na_Part_reach=>k_is)
  (case fc_Part=>k_is)
  (case mr_Part=>k_is)
  (case an_Part_All=>kernel_rfl)
  (case an_Part_Elder=>kernel_rfl)
  (case an_Part_Let=>kernel_rfl)
  (case an_Part_One=>kernel_rfl)
  (case ai_Part_Part=>k_is)
  (case an_Part_Thing=>kernel_rfl)
  (case pg_Thing=>k_is)
  (case hd_Thing=>kernel_rfl)
  (case po_Thing=>k_is)
  (case sa_Thing=>k_is)
  (case mk_Thing=>k_is)
  (case kc_Thing=>k_is)
  (case na_Thing_name=>k_is)
  (case na_Thing_of=>k_is)
  (case na_Thing_reach=>k_is)
  (case fc_Thing=>k_is)
  (case mr_Thing=>k_is)
  (case an_Thing_All=>kernel_rfl)
  (case an_Thing_Elder=>kernel_rfl)
  (case an_Thing_Let=>kernel_rfl)
  (case an_Thing_One=>kernel_rfl)
  (case an_Thing_Part=>kernel_rfl)
  (case ai_Thing_Thing=>k_is)
  (case pg_Words=>k_is)
  (case hd_Words=>kernel_rfl)
  (case po_Words=>k_is)
  (case sa_Words=>k_is)
  (case mk_Words=>k_is)
  (case kc_Words=>k_is)
  (case na_Words_place=>k_is)
  (case na_Words_words=>k_is)
end
set_option Elab.async false
set_option linter.all false
set_option maxRecDepth 100000
namespace L2
open PySem PySem.Spec PyProof.Rows
abbrev Key:=Sum Int Str
def keyIs:Key→Value→Bool
 | .inl k,v=>Value.isInt k v
 | .inr x,v=>Value.isStrOf x v
def keyH (w:World):Key→Int
 | .inl k=>hashInt k
 | .inr x=>hashStr w x
theorem keyIs_shape:∀ {k:Key} {v:Value},keyIs k v=true→(∃ i t,k=Sum.inl i∧v=Value.int i t)∨(∃ x t,k=Sum.inr x∧v=Value.str x t)
 | .inl i,v,h=>by
   obtain ⟨t,e⟩:=Value.isInt_shape (k:=i) (v:=v) h
   exact .inl ⟨i,t,rfl,e⟩
 | .inr x,v,h=>by
   obtain ⟨t,e⟩:=Value.isStrOf_shape (x:=x) (v:=v) h
   exact .inr ⟨x,t,rfl,e⟩
theorem key_ll (a b:Int):decide ((Sum.inl a:Key)=Sum.inl b)=(a == b):=by
 by_cases e:a=b
 · subst e; simp
 · have h:¬ (Sum.inl a:Key)=Sum.inl b:=fun q=>e (Sum.inl.inj q)
   rw [decide_eq_false h]
   exact (beq_eq_false_iff_ne.mpr e).symm
theorem key_rr (a b:Str):decide ((Sum.inr a:Key)=Sum.inr b)=decide (a=b):=by
 by_cases e:a=b
 · subst e; simp
 · have h:¬ (Sum.inr a:Key)=Sum.inr b:=fun q=>e (Sum.inr.inj q)
   rw [decide_eq_false h,decide_eq_false e]
theorem key_lr (a:Int) (b:Str):decide ((Sum.inl a:Key)=Sum.inr b)=false:=decide_eq_false (fun q=>nomatch q)
theorem key_rl (a:Str) (b:Int):decide ((Sum.inr a:Key)=Sum.inl b)=false:=decide_eq_false (fun q=>nomatch q)
def mixKind (prog : Program) (w : World) : PySem.KeyKind prog w Key where
 is:=keyIs
 hash:=keyH w
 inj:=fun v a b ha hb=>by
  rcases keyIs_shape ha with ⟨i,t,rfl,rfl⟩ | ⟨x,t,rfl,rfl⟩
  · rcases keyIs_shape hb with ⟨j,u,rfl,e⟩ | ⟨y,u,rfl,e⟩
    · injection e with e1 _; rw [e1]
    · exact nomatch e
  · rcases keyIs_shape hb with ⟨j,u,rfl,e⟩ | ⟨y,u,rfl,e⟩
    · exact nomatch e
    · injection e with e1 _; rw [e1]
 byValue:=fun k v h=>by
  rcases keyIs_shape h with ⟨i,t,rfl,rfl⟩ | ⟨x,t,rfl,rfl⟩ <;> rfl
 pyHash:=fun hv h=>by
  rcases keyIs_shape hv with ⟨i,t,rfl,rfl⟩ | ⟨x,t,rfl,rfl⟩
  · exact wpAny_pyHash_int h
  · exact wpAny_pyHash_str h
 eqBool:=fun hu hv h=>by
  rcases keyIs_shape hu with ⟨i,t,rfl,rfl⟩ | ⟨x,t,rfl,rfl⟩
  · rcases keyIs_shape hv with ⟨j,u,rfl,rfl⟩ | ⟨y,u,rfl,rfl⟩
    · rw [key_ll] at h; exact wpAny_eqBool_int h
    · rw [key_lr] at h; exact SeqAt.EqAt.int_str i t y u _ _ _ _ h
  · rcases keyIs_shape hv with ⟨j,u,rfl,rfl⟩ | ⟨y,u,rfl,rfl⟩
    · rw [key_rl] at h; exact SeqAt.EqAt.str_int x t j u _ _ _ _ h
    · rw [key_rr] at h; exact wpAny_eqBool_str h
 «strs»:=fun k x t v h=>by
  rcases keyIs_shape h with ⟨i,u,rfl,e⟩ | ⟨y,u,rfl,e⟩
  · exact nomatch e
  · injection e with e1 _
    subst e1
    cases v <;> rfl
end L2
namespace L2
open PySem PySem.Spec PyProof.Rows
inductive V where
 | non | bl (b:Bool) | int (i:Int) | str (x:Str) | byt (b:Array UInt8) | flt (b:UInt64) | ref (a:Addr) | ty (n:String)
 deriving DecidableEq
def RelV:V→Value→Prop
 | .non,u=>u=Value.none
 | .bl b,u=>u=Value.bool b
 | .int i,u=>∃ t,u=Value.int i t
 | .str x,u=>∃ t,u=Value.str x t
 | .byt b,u=>∃ t,u=Value.bytes b t
 | .flt b,u=>∃ t,u=Value.float b t
 | .ref a,u=>u=Value.ref a
 | .ty n,u=>u=Value.type n
abbrev Vals:List V→List Value→Prop:=Paired RelV
theorem Vals.length {xs:List V} {us:List Value} (r:Vals xs us):xs.length=us.length:=Paired.length r
theorem Vals.get:∀ {xs:List V} {us:List Value} {i:Nat} {x:V},Vals xs us→xs[i]?=some x→∃ u,us[i]?=some u∧RelV x u
 | _,_,_,_,.nil,e=>by simp at e
 | _,_,0,_,.cons r _,e=>by simp at e; subst e; exact ⟨_,rfl,r⟩
 | _,_,i + 1,x,.cons _ t,e=>by
   obtain ⟨u,h1,h2⟩:=Vals.get (i:=i) (x:=x) t (by simpa using e)
   exact ⟨u,by simpa using h1,h2⟩
theorem Vals.set {x:V} {u:Value} (r:RelV x u):∀ {xs:List V} {us:List Value} (i:Nat),Vals xs us→Vals (xs.set i x) (us.set i u)
 | _,_,_,.nil=>.nil
 | _,_,0,.cons _ t=>.cons r t
 | _,_,i + 1,.cons q t=>.cons q (Vals.set r i t)
theorem Vals.append:∀ {xs ys:List V} {us ws:List Value},Vals xs us→Vals ys ws→Vals (xs++ys) (us++ws)
 | _,_,_,_,.nil,s=>s
 | _,_,_,_,.cons r t,s=>.cons r (Vals.append t s)
theorem Vals.take:∀ {xs:List V} {us:List Value} (n:Nat),Vals xs us→Vals (xs.take n) (us.take n)
 | _,_,0,_=>.nil
 | _,_,_ + 1,.nil=>.nil
 | _,_,n + 1,.cons r t=>.cons r (Vals.take n t)
theorem Vals.drop:∀ {xs:List V} {us:List Value} (n:Nat),Vals xs us→Vals (xs.drop n) (us.drop n)
 | _,_,0,r=>r
 | _,_,_ + 1,.nil=>.nil
 | _,_,n + 1,.cons _ t=>Vals.drop n t
def RelO:Option V→Option Value→Prop
 | some v,some u=>RelV v u
 | none,none=>True
 | _,_=>False
def KV {κ:Type}:List (κ × V)→List (κ × Value)→Prop:=Paired fun (p:κ × V) (q:κ × Value)=>p.1=q.1∧RelV p.2 q.2
def kV:Key→V
 | .inl i=>.int i
 | .inr x=>.str x
inductive HO where
 | lst (xs:List V)
 | tup (xs:List V)
 | dK (kvs:List (Key × V)) | dT (kvs:List (List Key × V))
 | set (S:Int→Bool) (n:Nat)
 | ins (C dx:Addr) (fs:List (Str × V))
 | own (x:Addr)
 | xd (fs:List (Str × V))
 | met (f x:Addr)
 | rng (lo hi:Int)
 | frz (o:Obj) (u:HO)
 | tbl (ps:Array Value)
 | ext (φ:Heap→Prop)
abbrev Hp:=Addr→Option HO
def upd (H:Hp) (a:Addr) (o:HO):Hp:=fun b=>if b=a then some o else H b
theorem upd_same {H:Hp} {a:Addr} {o:HO}:upd H a o a=some o:=by unfold upd; rw [if_pos rfl]
theorem upd_ne {H:Hp} {a b:Addr} {o:HO} (h:b≠a):upd H a o b=H b:=by unfold upd; rw [if_neg h]
theorem upd_upd {H:Hp} {a:Addr} {o u:HO}:upd (upd H a o) a u=upd H a u:=by
 funext b; unfold upd; split <;> rfl
theorem ne_of_none {H:Hp} {a b:Addr} {o:HO} (h:H a=some o) (h':H b=none):a≠b:=by
 intro e; subst e; rw [h] at h'; cases h'
section
variable (P:Program) (w:World)
def ObjOk (H:Hp) (h:Heap) (a:Addr):HO→Prop
 | .lst xs=>xs.length≤sizeLine∧∃ (its:List Value) (n:Nat),Vals xs its∧h.get? a=some { cls:=.type "list",data:=.seq its.toArray n }
 | .tup xs=>xs.length≤sizeLine∧∃ its:List Value,Vals xs its∧IsTup h a its.toArray
 | .dK kvs=>kvs.length≤sizeLine∧(a == sysModules)=false∧∃ vs,KV kvs vs∧h.DictOf (mixKind P w) a vs
 | .dT kvs=>kvs.length≤sizeLine∧(a == sysModules)=false∧∃ xs:List (List Key × Addr × Value),
  Paired (fun (p:List Key × V) (q:List Key × Addr × Value)=>p.1=q.1∧H q.2.1=some (.tup (p.1.map kV))∧RelV p.2 q.2.2) kvs xs ∧
  ∃ o es ep,h.get? a=some o∧o.ExactDict∧o.data=.dict es ep∧es.toList=xs.map (entryOfKey (tupleKind (mixKind P w)))∧(xs.map (·.1)).Nodup
 | .set S n=>h.SetOf (intKind P w) a S n
 | .ins C dx fs=>H dx=some (.own a)∧fs.length≤1000∧dx≠a∧h.get? a=some (PySem.W.instObj C dx) ∧
  ∃ mA,h.Ns1 dx mA∧(∀ f,RelO (fs.lookup f) (mA f))∧PySem.Within mA (fs.map (·.1))
 | .own _=>∃ o,h.get? a=some o
 | .xd fs=>∃ mA,h.Ns1 a mA∧∀ f,RelO (fs.lookup f) (mA f)
 | .rng lo hi=>∃ t u v,h.get? a=some { cls:=.type "range",data:=.fields #[.int lo t,.int hi u,.int 1 v] }
 | .frz o u=>h.get? a=some o∧ObjOk H h a u
 | .tbl ps=>h.get? a=some { cls:=.none,data:=.fields ps }
 | .met f x=>h.get? a=some (PySem.W.methodObj (.ref f) (.ref x))
 | .ext φ=>φ h∧(∃ o,h.get? a=some o)∧∀ h1 h2:Heap,φ h1→(∀ o,h1.get? a=some o→h2.get? a=some o)→φ h2
def HOk (H:Hp) (h:Heap):Prop:=∀ a o,H a=some o→ObjOk P w H h a o
end
section
variable {P:Program} {w:World} {H H':Hp} {h h':Heap} {a:Addr} {o:HO}
theorem ObjOk.lt (x:ObjOk P w H h a o):a < h.objs.size:=by
 cases o with
 | lst xs=>obtain ⟨_,_,_,_,e⟩:=x; exact Heap.lt_size e
 | tup xs=>obtain ⟨_,_,_,p⟩:=x; exact p.lt
 | dK kvs=>obtain ⟨_,_,_,_,o,_,_,e,_⟩:=x; exact Heap.lt_size e
 | dT kvs=>obtain ⟨_,_,_,_,o,_,_,e,_⟩:=x; exact Heap.lt_size e
 | set S n=>obtain ⟨o,_,_,_,e,_⟩:=x; exact Heap.lt_size e
 | ins C dx fs=>obtain ⟨_,_,_,e,_⟩:=x; exact Heap.lt_size e
 | own y=>obtain ⟨_,e⟩:=x; exact Heap.lt_size e
 | xd fs=>obtain ⟨_,⟨_,_,_,e,_⟩,_⟩:=x; exact Heap.lt_size e
 | rng lo hi=>obtain ⟨_,_,_,e⟩:=x; exact Heap.lt_size e
 | frz ob u=>obtain ⟨e,_⟩:=x; exact Heap.lt_size e
 | tbl ps=>exact Heap.lt_size (show h.get? a=some _ from x)
 | met f y=>exact Heap.lt_size (show h.get? a=some _ from x)
 | ext φ=>obtain ⟨_,⟨_,e⟩,_⟩:=x; exact Heap.lt_size e
theorem Paired.mapP {α β:Type} {F G:α→β→Prop}:∀ {l₁:List α} {l₂:List β},Paired F l₁ l₂→(∀ a b,F a b→G a b)→Paired G l₁ l₂
 | _,_,.nil,_=>.nil
 | _,_,.cons r t,f=>.cons (f _ _ r) (Paired.mapP t f)
theorem ObjOk.stay (x:ObjOk P w H h a o) (k:∀ b u,(b=a∨H b=some (.own a))→h.get? b=some u→h'.get? b=some u)
 (ho:∀ b,H b=some (.own a)→H' b=some (.own a)) (ht:∀ b xs,H b=some (.tup xs)→H' b=some (.tup xs)):ObjOk P w H' h' a o:=by
 induction o with
 | lst xs=>obtain ⟨z,its,n,r,e⟩:=x; exact ⟨z,its,n,r,k _ _ (.inl rfl) e⟩
 | tup xs=>obtain ⟨z,its,r,ob,e,c⟩:=x; exact ⟨z,its,r,ob,k _ _ (.inl rfl) e,c⟩
 | dK kvs=>obtain ⟨z,y,vs,r,ob,es,ep,e,c⟩:=x; exact ⟨z,y,vs,r,ob,es,ep,k _ _ (.inl rfl) e,c⟩
 | dT kvs =>
   obtain ⟨z,y,xs,r,ob,es,ep,e,c⟩:=x
   exact ⟨z,y,xs,Paired.mapP r fun p q z=>⟨z.1,ht _ _ z.2.1,z.2.2⟩,ob,es,ep,k _ _ (.inl rfl) e,c⟩
 | set S n=>obtain ⟨ob,es,ep,t,e,c⟩:=x; exact ⟨ob,es,ep,t,k _ _ (.inl rfl) e,c⟩
 | ins C dx fs =>
   obtain ⟨d,z,ne,e,mA,⟨od,es,ep,e2,c⟩,r⟩:=x
   exact ⟨ho _ d,z,ne,k _ _ (.inl rfl) e,mA,⟨od,es,ep,k _ _ (.inr d) e2,c⟩,r⟩
 | own y=>obtain ⟨ob,e⟩:=x; exact ⟨ob,k _ _ (.inl rfl) e⟩
 | xd fs=>obtain ⟨mA,⟨od,es,ep,e,c⟩,r⟩:=x; exact ⟨mA,⟨od,es,ep,k _ _ (.inl rfl) e,c⟩,r⟩
 | rng lo hi=>obtain ⟨t,u,v,e⟩:=x; exact ⟨t,u,v,k _ _ (.inl rfl) e⟩
 | frz ob u ih=>obtain ⟨e,q⟩:=x; exact ⟨k _ _ (.inl rfl) e,ih q⟩
 | tbl ps =>
   have e:h.get? a=some { cls:=.none,data:=.fields ps }:=x
   show h'.get? a=some { cls:=.none,data:=.fields ps }
   exact k a _ (.inl rfl) e
 | met f y =>
   have e:h.get? a=some (PySem.W.methodObj (.ref f) (.ref y)):=x
   show h'.get? a=some (PySem.W.methodObj (.ref f) (.ref y))
   exact k a _ (.inl rfl) e
 | ext φ=>obtain ⟨p,⟨o,e⟩,st⟩:=x; exact ⟨st _ _ p fun o q=>k _ _ (.inl rfl) q,⟨o,k _ _ (.inl rfl) e⟩,st⟩
theorem HOk.lt (x:HOk P w H h) (e:H a=some o):a < h.objs.size:=(x a o e).lt
theorem HOk.fresh (x:HOk P w H h) (e:h.objs.size≤a):H a=none:=by
 cases q:H a with
 | none=>rfl
 | some u=>exact absurd (Nat.lt_of_lt_of_le (x.lt q) e) (Nat.lt_irrefl _)
theorem HOk.kept (x:HOk P w H h) (k:∀ b u,h.get? b=some u→h'.get? b=some u):HOk P w H h':=fun a o e =>
 (x a o e).stay (fun b u _ q=>k b u q) (fun _ q=>q) fun _ _ q=>q
theorem HOk.laid (x:HOk P w H h) (k:∀ b u,h.get? b=some u→h'.get? b=some u) (hp:h.objs.size≤a) (new:ObjOk P w (upd H a o) h' a o):HOk P w (upd H a o) h':=fun b u e=>by
 have hn:=x.fresh hp
 by_cases hb:b=a
 · subst hb; rw [upd_same] at e; cases e; exact new
 · rw [upd_ne hb] at e
   exact (x b u e).stay (fun c v _ q=>k c v q) (fun c q=>by rw [upd_ne (ne_of_none q hn)]; exact q) fun c xs q=>by rw [upd_ne (ne_of_none q hn)]; exact q
end
def Rd (H:Hp) (a:Addr) (u:HO):Prop:=H a=some u∨∃ o,H a=some (.frz o u)
theorem Rd.ok {P:Program} {w:World} {H:Hp} {h:Heap} {a:Addr} {u:HO} (r:Rd H a u) (x:HOk P w H h):ObjOk P w H h a u:=by
 rcases r with r | ⟨o,r⟩
 · exact x a u r
 · obtain ⟨_,q⟩:=x a _ r
   exact q
def Mut:Option HO→Prop
 | some (.lst _)=>True
 | some (.dK _)=>True
 | some (.dT _)=>True
 | some (.set _ _)=>True
 | some (.ins _ _ _)=>True
 | some (.ext _)=>True
 | _=>False
section
variable {P:Program} {w:World} {H:Hp} {h h':Heap} {x e:Addr} {o':HO}
theorem HOk.write (ok:HOk P w H h) (mu:Mut (H x)) (he:e=x∨H e=some (.own x)) (k:∀ b u,b≠e→h.get? b=some u→h'.get? b=some u) (heo:∃ u,h'.get? e=some u)
 (new:ObjOk P w (upd H x o') h' x o'):HOk P w (upd H x o') h':=fun b u q=>by
 have nown:∀ c y,H c=some (.own y)→c≠x:=fun c y r z=>by subst z; rw [r] at mu; exact mu
 have ntup:∀ c xs,H c=some (.tup xs)→c≠x:=fun c xs r z=>by subst z; rw [r] at mu; exact mu
 by_cases hb:b=x
 · subst hb; rw [upd_same] at q; cases q; exact new
 · rw [upd_ne hb] at q
   by_cases hbe:b=e
   · have q':H b=some (.own x):=by
      rcases he with z | z
      · exact absurd (hbe.trans z) hb
      · rw [hbe]; exact z
     rw [q] at q'; cases q'
     obtain ⟨v,hv⟩:=heo
     exact ⟨v,by rw [hbe]; exact hv⟩
   · refine (ok b u q).stay (fun c v hc r=>k c v ?_ r) (fun c r=>by rw [upd_ne (nown c b r)]; exact r) fun c xs r=>by rw [upd_ne (ntup c xs r)]; exact r
     rcases hc with rfl | hc
     · exact hbe
     · rintro rfl
       rcases he with z | z
       · exact nown c b hc z
       · rw [hc] at z; cases z; exact hb rfl
end
structure Un (fs ex:List Addr) (H H':Hp) (h h':Heap):Prop where
 keep:∀ b o,h.get? b=some o→H b=none→b ∉ fs→b ∉ ex→h'.get? b=some o
 slot:∀ b o,h.get? b=some o→H b=none→b∈fs→b ∉ ex→∃ sl,h'.get? b=some { o with slots:=sl }
 free:∀ b o,h.get? b=some o→H b=none→b ∉ ex→H' b=none
 there:∀ b o,h.get? b=some o→b ∉ ex→∃ o',h'.get? b=some o'
 tups:∀ b xs,H b=some (.tup xs)→H' b=some (.tup xs)
 frzs:∀ b o u,H b=some (.frz o u)→H' b=some (.frz o u)
 tbls:∀ b ps,H b=some (.tbl ps)→∃ more,H' b=some (.tbl (ps++more))
section
variable {fs fs' ex ex':List Addr} {H H1 H2:Hp} {h h1 h2 h':Heap} {a x e:Addr} {o:HO}
theorem Un.any (u:Un fs ex H H1 h h1) {b:Addr} {ob:Obj} (q:h.get? b=some ob) (n:H b=none) (hx:b ∉ ex):∃ sl,h1.get? b=some { ob with slots:=sl }:=by
 by_cases hb:b∈fs
 · exact u.slot b ob q n hb hx
 · exact ⟨ob.slots,u.keep b ob q n hb hx⟩
theorem Un.kept (k:∀ b u,h.get? b=some u→h'.get? b=some u):Un fs ex H H h h' :=
 ⟨fun b ob q _ _ _=>k b ob q,fun b ob q _ _ _=>⟨ob.slots,k b ob q⟩,fun _ _ _ n _=>n,fun b ob q _=>⟨ob,k b ob q⟩,fun _ _ q=>q,fun _ _ _ q=>q,fun _ ps q=>⟨#[],by rw [q]; simp⟩⟩
theorem Un.refl:Un fs ex H H h h:=Un.kept fun _ _ q=>q
theorem Un.laid (k:∀ b u,h.get? b=some u→h'.get? b=some u) (hp:h.objs.size≤a) (hn:H a=none):Un fs ex H (upd H a o) h h' where
 keep:=fun b u q _ _ _=>k b u q
 slot:=fun b u q _ _ _=>⟨u.slots,k b u q⟩
 free:=fun b u q n _=>by rw [upd_ne (Nat.ne_of_lt (Nat.lt_of_lt_of_le (Heap.lt_size q) hp))]; exact n
 there:=fun b u q _=>⟨u,k b u q⟩
 tups:=fun b xs q=>by rw [upd_ne (ne_of_none q hn)]; exact q
 frzs:=fun b u xs q=>by rw [upd_ne (ne_of_none q hn)]; exact q
 tbls:=fun b ps q=>⟨#[],by rw [upd_ne (ne_of_none q hn),q]; simp⟩
theorem Un.write (mu:Mut (H x)) (he:e=x∨H e=some (.own x)) (k:∀ b u,b≠e→h.get? b=some u→h'.get? b=some u) (heo:∃ u,h'.get? e=some u):Un fs ex H (upd H x o) h h':=by
 have hx:∀ b,H b=none→b≠x:=fun b n z=>by subst z; rw [n] at mu; exact mu
 have hb:∀ b,H b=none→b≠e:=fun b n z=>by
  subst z
  rcases he with r | r
  · exact hx b n r
  · rw [n] at r; cases r
 have hm:∀ b u,H b=some u→¬ Mut (some u)→b≠x:=fun b u q nm z=>by subst z; rw [q] at mu; exact nm mu
 refine ⟨fun b u q n _ _=>k b u (hb b n) q,fun b u q n _ _=>⟨u.slots,k b u (hb b n) q⟩,fun b u q n _=>by rw [upd_ne (hx b n)]; exact n,fun b u q _=>?_,
  fun b xs q=>by rw [upd_ne (hm b _ q fun z=>z)]; exact q,fun b u xs q=>by rw [upd_ne (hm b _ q fun z=>z)]; exact q,fun b ps q=>⟨#[],by rw [upd_ne (hm b _ q fun z=>z),q]; simp⟩⟩
 by_cases hbe:b=e
 · subst hbe; exact heo
 · exact ⟨u,k b u hbe q⟩
end
def trk (h:Heap) (H:Hp):List Addr:=(List.range h.objs.size).filter fun a=>(H a).isSome
def hidT (h:Heap) (H:Hp):Heap:=PySem.W.hideAll h (trk h H)
theorem hidT_size (h:Heap) (H:Hp):(hidT h H).objs.size=h.objs.size:=PySem.W.hideAll_size _ _
theorem hidT_get {h:Heap} {H:Hp} {b:Addr} {o:Obj} (e:h.get? b=some o) (n:H b=none):(hidT h H).get? b=some o :=
 PySem.W.hideAll_get _ e fun hm=>by
  have q:(H b).isSome=true:=(List.mem_filter.mp hm).2
  rw [n] at q; simp at q
theorem of_hidT {h:Heap} {H:Hp} {b:Addr} {o:Obj} (e:(hidT h H).get? b=some o):h.get? b=some o∧H b=none:=by
 have e':h.get? b=some o:=PySem.W.of_hideAll (trk h H) e
 refine ⟨e',?_⟩
 cases q:H b with
 | none=>rfl
 | some x =>
   have hm:b∈trk h H:=List.mem_filter.mpr ⟨List.mem_range.mpr (Heap.lt_size e'),by simp [q]⟩
   have z:(hidT h H).get? b=none:=PySem.W.hideAll_none (trk h H) hm
   rw [z] at e; cases e
end L2
namespace L2
open PySem PySem.Spec PyProof.Rows
structure Mod (K:PySem.W.Frag) (mg:Str→Option Value) (base:Heap):Prop where
 kin:K.In base
 glob:base.Ns mainGlobals mg
 blt:∃ mb,base.Ns builtinsNs mb∧∀ x:Str,x ≠ "__name__" → mb x=bootBuiltins x
 nolimit:base.NoLimit
structure Cx where
 prog:Program
 w:World
 K:PySem.W.Frag
 mg:Str→Option Value
 base:Heap
 A:Around
 N:List Str
 s₀:Shared
 H₀:Hp
 env:Env
 outer:List Env
 stack:List Env
 ex:List Addr
 fn:Str→Bool
 calm:Bool
 pn:List (Addr × Obj)
 xe:Value→Shared→Prop
def frs (l:List Env):List Addr:=l.filterMap (·.frame)
abbrev Cx.fs (X:Cx):List Addr:=frs X.outer
def Vis (sc:Scope) (x:Str):Prop:=sc.names.lookup x=some .local∨sc.names.lookup x=some .cell∨sc.names.lookup x=some .free
def Loc (sc:Scope) (x:Str):Prop:=sc.names.lookup x=some .local∨sc.names.lookup x=some .cell
def Look (env:Env) (h:Heap) (m:Str→Option Value) (x:Str) (u:Value):Prop :=
 (env.kindOf x=some .local∧m x=some u)∨((env.kindOf x=some .cell∨env.kindOf x=some .free)∧∃ c,env.cells.lookup x=some c∧h.IsCell c (some u))
structure Cx.Ok (X:Cx):Prop where
 mod:Mod X.K X.mg X.base
 kind:X.env.scope.kind=.function
 glob:X.env.globals=mainGlobals
 blt:X.env.builtins=builtinsNs
 above:X.s₀.heap.objs.size≤X.env.locals
 inj:∀ x y c,X.env.cells.lookup x=some c→X.env.cells.lookup y=some c→x=y
 has:∀ x,(X.env.kindOf x=some .cell∨X.env.kindOf x=some .free)→∃ c,X.env.cells.lookup x=some c
 cab:∀ x c,X.fn x=true→X.env.cells.lookup x=some c→X.s₀.heap.objs.size≤c
 hd:X.calm=true→X.A.handled=none
 frames:X.A.frames=some X.stack
 stk:X.stack=X.outer∨(X.stack=X.env :: X.outer∧X.env.frame=some X.env.locals)
 exf:∀ b∈X.ex,b≠X.env.locals∧∀ x c,X.env.cells.lookup x=some c→c≠b
 bs:∀ b o,X.base.get? b=some o→X.s₀.heap.get? b=some o∧X.H₀ b=none
 bsz:X.base.objs.size≤X.s₀.heap.objs.size
 noex:∀ b o,X.base.get? b=some o→b ∉ X.ex
 exfs:∀ b∈X.ex,b ∉ X.fs
 funs:X.s₀.heap.FunFrames X.base X.outer
 frf:∀ b∈X.fs,X.H₀ b=none
structure Inv (X:Cx) (pins:List (Addr × Obj)) (σ:List (Option V)) (H:Hp) (s:Shared):Prop where
 ok:X.Ok
 os:s.os=X.s₀.os
 bare:AllBare s.gens
 base:Un X.fs X.ex X.H₀ H X.s₀.heap s.heap
 loc:∃ m,s.heap.Ns X.env.locals m∧∀ (i:Nat) (x:Str) (v:V),X.N[i]?=some x→σ[i]?=some (some v)→Vis X.env.scope x→∃ u,RelV v u∧Look X.env s.heap m x u
 cell:∀ x c,X.env.cells.lookup x=some c→∃ v,s.heap.IsCell c v
 free:H X.env.locals=none
 freeC:∀ x c,X.env.cells.lookup x=some c→H c=none
 pin:∀ p∈X.pn++pins,s.heap.get? p.1=some p.2∧H p.1=none∧p.1≠X.env.locals∧p.1 ∉ X.fs∧∀ v,p.2.data≠.cell v
 hok:HOk X.prog X.w H s.heap
 len:σ.length=X.N.length
section
variable {X:Cx} {pins:List (Addr × Obj)} {σ:List (Option V)} {H H':Hp} {s:Shared} {h':Heap}
theorem Cx.Ok.nofr (ok:X.Ok) {b:Addr} {o:Obj} (e:X.base.get? b=some o):b ∉ X.fs:=fun hb=>by
 have:=(ok.funs.mem hb).1
 rw [e] at this; cases this
theorem Inv.bs (I:Inv X pins σ H s):∀ b o,X.base.get? b=some o→s.heap.get? b=some o∧H b=none:=fun b o e =>
 ⟨I.base.keep b o (I.ok.bs b o e).1 (I.ok.bs b o e).2 (I.ok.nofr e) (I.ok.noex b o e),I.base.free b o (I.ok.bs b o e).1 (I.ok.bs b o e).2 (I.ok.noex b o e)⟩
theorem Inv.bk (I:Inv X pins σ H s):∀ b o,X.base.get? b=some o→s.heap.get? b=some o:=fun b o e=>(I.bs b o e).1
theorem Inv.mod (I:Inv X pins σ H s):Mod X.K X.mg X.base:=I.ok.mod
theorem Inv.kIn (I:Inv X pins σ H s):X.K.In s.heap:=I.ok.mod.kin.keeps I.bk
theorem Inv.lt (I:Inv X pins σ H s):X.env.locals < s.heap.objs.size:=let ⟨_,hn,_⟩:=I.loc; hn.lt
theorem Inv.sz (I:Inv X pins σ H s):X.s₀.heap.objs.size≤s.heap.objs.size:=Nat.le_trans I.ok.above (Nat.le_of_lt I.lt)
theorem Inv.nofs (I:Inv X pins σ H s) {a:Addr} (h:s.heap.objs.size≤a):a ∉ X.fs:=fun hb=>by
 obtain ⟨_,o,ho,_⟩:=I.ok.funs.mem hb
 exact absurd (Nat.lt_of_lt_of_le (Heap.lt_size ho) (Nat.le_trans I.sz h)) (Nat.lt_irrefl _)
theorem Inv.cne (I:Inv X pins σ H s):∀ x c,X.env.cells.lookup x=some c→c≠X.env.locals:=fun x c e z=>by
 obtain ⟨v,o,ho,hd⟩:=I.cell x c e
 obtain ⟨m,⟨o',es,ep,ho',hd',_⟩,_⟩:=I.loc
 rw [z,ho'] at ho; cases ho; rw [hd'] at hd; cases hd
theorem Inv.funs (I:Inv X pins σ H s):s.heap.FunFrames X.base X.outer:=by
 have all:∀ (l:List Env),(∀ b∈frs l,b∈X.fs)→X.s₀.heap.FunFrames X.base l→s.heap.FunFrames X.base l:=by
  intro l
  induction l with
  | nil=>intro _ _; trivial
  | cons env r ih =>
    intro hs hl
    obtain ⟨hk,⟨L,o,hf,hn,ho,hd⟩,hr⟩:=hl
    have hL:L∈X.fs:=hs L (by unfold frs; rw [List.filterMap_cons,hf]; exact List.mem_cons_self)
    obtain ⟨sl,e⟩:=I.base.slot L o ho (I.ok.frf L hL) hL fun z=>I.ok.exfs L z hL
    exact ⟨hk,⟨L,_,hf,hn,e,hd⟩,ih (fun b hb=>hs b (by unfold frs; rw [List.filterMap_cons,hf]; exact List.mem_cons_of_mem _ hb)) hr⟩
 exact all X.outer (fun _ hb=>hb) I.ok.funs
theorem Inv.stack (I:Inv X pins σ H s):s.heap.FunFrames X.base X.stack:=by
 rcases I.ok.stk with e | ⟨e,hf⟩
 · rw [e]; exact I.funs
 · rw [e]
   obtain ⟨m,hn,_⟩:=I.loc
   refine .cons (by rw [I.ok.kind]; decide) hf hn ?_ I.funs
   exact Heap.get?_none_of_le (Nat.le_trans I.ok.bsz I.ok.above)
theorem Inv.stkSub (I:Inv X pins σ H s):∀ b∈frs X.stack,b∈X.env.locals :: X.fs:=fun b hb=>by
 rcases I.ok.stk with e | ⟨e,hf⟩
 · rw [e] at hb; exact List.mem_cons_of_mem _ hb
 · rw [e] at hb
   unfold frs at hb
   rw [List.filterMap_cons,hf] at hb
   exact hb
theorem Inv.stkFree (I:Inv X pins σ H s):∀ b∈frs X.stack,H b=none:=fun b hb=>by
 rcases List.mem_cons.mp (I.stkSub b hb) with e | hb
 · rw [e]; exact I.free
 · obtain ⟨_,o,ho,_⟩:=I.ok.funs.mem hb
   exact I.base.free b o ho (I.ok.frf b hb) fun z=>I.ok.exfs b z hb
theorem Inv.step {g':Array GenState} {t':Nat} {d':Drawn} {ch:List Addr} (I:Inv X pins σ H s)
 (hch:∀ b∈ch,(b∈X.ex∨X.s₀.heap.objs.size≤b)∧b≠X.env.locals∧(∀ x c,X.env.cells.lookup x=some c→c≠b)∧∀ p∈X.pn++pins,p.1≠b)
 (keep:∀ b o,b≠X.env.locals→b ∉ X.fs→b ∉ ch→s.heap.get? b=some o→H b=none→h'.get? b=some o)
 (slot:∀ b o,b≠X.env.locals→b∈X.fs→b ∉ ch→s.heap.get? b=some o→H b=none→∃ sl,h'.get? b=some { o with slots:=sl }) (free:∀ b o,b ∉ ch→s.heap.get? b=some o→H b=none→H' b=none)
 (there:∀ b o,b ∉ ch→s.heap.get? b=some o→∃ o',h'.get? b=some o')
 (tups:∀ b xs,H b=some (.tup xs)→H' b=some (.tup xs)) (frzs:∀ b o u,H b=some (.frz o u)→H' b=some (.frz o u)) (tbls:∀ b ps,H b=some (.tbl ps)→∃ more,H' b=some (.tbl (ps++more)))
 (ns:∀ m,s.heap.Ns X.env.locals m→h'.Ns X.env.locals m) (hok:HOk X.prog X.w H' h') (hg:AllBare g') :
 Inv X pins σ H' { s with heap:=h',gens:=g',drawn:=d',toks:=t' }:=by
 have neL:∀ b o,X.s₀.heap.get? b=some o→b≠X.env.locals:=fun b o e=>Nat.ne_of_lt (Nat.lt_of_lt_of_le (Heap.lt_size e) I.ok.above)
 have neC:∀ b o,X.s₀.heap.get? b=some o→b ∉ X.ex→b ∉ ch:=fun b o e hx hb=>by
  rcases (hch b hb).1 with z | z
  · exact hx z
  · exact absurd (Nat.lt_of_lt_of_le (Heap.lt_size e) z) (Nat.lt_irrefl _)
 have cellK:∀ x c,X.env.cells.lookup x=some c→∀ v,s.heap.IsCell c v→h'.IsCell c v:=fun x c e v ⟨o,ho,hd⟩=>by
  have nch:c ∉ ch:=fun z=>(hch c z).2.2.1 x c e rfl
  by_cases hc:c∈X.fs
  · obtain ⟨sl,q⟩:=slot c o (I.cne x c e) hc nch ho (I.freeC x c e)
    exact ⟨_,q,hd⟩
  · exact ⟨o,keep c o (I.cne x c e) hc nch ho (I.freeC x c e),hd⟩
 refine ⟨I.ok,I.os,hg,⟨fun b o e n hb hx=>?_,fun b o e n hb hx=>?_,fun b o e n hx=>?_,fun b o e hx=>?_,fun b xs e=>tups b xs (I.base.tups b xs e),fun b o xs e=>frzs b o xs (I.base.frzs b o xs e),fun b ps e=>?_⟩,?_,fun x c e=>?_,?_,fun x c e=>?_,fun p hp=>?_,hok,I.len⟩
 · exact keep b o (neL b o e) hb (neC b o e hx) (I.base.keep b o e n hb hx) (I.base.free b o e n hx)
 · obtain ⟨sl,e1⟩:=I.base.slot b o e n hb hx
   obtain ⟨sl',e2⟩:=slot b _ (neL b o e) hb (neC b o e hx) e1 (I.base.free b o e n hx)
   exact ⟨sl',e2⟩
 · obtain ⟨o',e1⟩:=I.base.there b o e hx
   exact free b o' (neC b o e hx) e1 (I.base.free b o e n hx)
 · obtain ⟨o',e1⟩:=I.base.there b o e hx
   exact there b o' (neC b o e hx) e1
 · obtain ⟨m1,e1⟩:=I.base.tbls b ps e
   obtain ⟨m2,e2⟩:=tbls b _ e1
   exact ⟨m1++m2,by rw [e2,Array.append_assoc]⟩
 · obtain ⟨m,hn,hl⟩:=I.loc
   refine ⟨m,ns m hn,fun i x v e1 e2 e3=>?_⟩
   obtain ⟨u,r,l⟩:=hl i x v e1 e2 e3
   refine ⟨u,r,?_⟩
   rcases l with l | ⟨k,c,e,z⟩
   · exact .inl l
   · exact .inr ⟨k,c,e,cellK x c e _ z⟩
 · obtain ⟨v,z⟩:=I.cell x c e
   exact ⟨v,cellK x c e v z⟩
 · obtain ⟨m,⟨o,_,_,ho,_⟩,_⟩:=I.loc
   exact free _ o (fun z=>(hch _ z).2.1 rfl) ho I.free
 · obtain ⟨v,o,ho,hd⟩:=I.cell x c e
   exact free c o (fun z=>(hch c z).2.2.1 x c e rfl) ho (I.freeC x c e)
 · obtain ⟨e,n,ne,nf,d⟩:=I.pin p hp
   have nch:p.1 ∉ ch:=fun z=>(hch p.1 z).2.2.2 p hp rfl
   exact ⟨keep p.1 p.2 ne nf nch e n,free p.1 p.2 nch e n,ne,nf,d⟩
theorem Inv.un {t':Nat} (I:Inv X pins σ H s) (u:Un X.fs [] H H' s.heap h') (hok:HOk X.prog X.w H' h'):Inv X pins σ H' { s with heap:=h',toks:=t' }:=by
 obtain ⟨m,⟨o,es,ep,ho,r⟩,_⟩:=id I.loc
 obtain ⟨sl,hL⟩:=u.any ho I.free (by simp)
 exact I.step (g':=s.gens) (d':=s.drawn) (ch:=[]) (fun _ z=>nomatch z) (fun b o _ hb _ e n=>u.keep b o e n hb (by simp)) (fun b o _ hb _ e n=>u.slot b o e n hb (by simp)) (fun b o _ e n=>u.free b o e n (by simp)) (fun b o _ e=>u.there b o e (by simp)) u.tups u.frzs u.tbls (fun m' hm=>by
  obtain ⟨o',es',ep',ho',r'⟩:=hm
  rw [ho] at ho'; cases ho'
  exact ⟨_,es',ep',hL,r'⟩) hok I.bare
theorem Inv.call {g':Array GenState} {t':Nat} {d':Drawn} {ch:List Addr} (I:Inv X pins σ H s) (u:Un (frs X.stack) ch H H' s.heap h') (hok:HOk X.prog X.w H' h') (hg:AllBare g')
 (hch:∀ b∈ch,(b∈X.ex∨X.s₀.heap.objs.size≤b)∧b≠X.env.locals∧(∀ x c,X.env.cells.lookup x=some c→c≠b)∧∀ p∈X.pn++pins,p.1≠b) :
 Inv X pins σ H' { s with heap:=h',gens:=g',drawn:=d',toks:=t' }:=by
 obtain ⟨m,⟨o,es,ep,ho,r⟩,_⟩:=id I.loc
 obtain ⟨sl,hL⟩:=u.any ho I.free fun z=>(hch _ z).2.1 rfl
 exact I.step (ch:=ch) hch (fun b o hL hb hc e n=>u.keep b o e n (fun z=>(List.mem_cons.mp (I.stkSub b z)).elim hL hb) hc) (fun b o _ _ hc e n=>u.any e n hc) (fun b o hc e n=>u.free b o e n hc) (fun b o hc e=>u.there b o e hc) u.tups u.frzs u.tbls (fun m' hm=>by
  obtain ⟨o',es',ep',ho',r'⟩:=hm
  rw [ho] at ho'; cases ho'
  exact ⟨_,es',ep',hL,r'⟩) hok hg
theorem Inv.turned {t':Nat} {it:Addr} (I:Inv X pins σ H s) (k:∀ b o,b≠it→s.heap.get? b=some o→h'.get? b=some o) (hn:H it=none) (hL:it≠X.env.locals)
 (h1:it∈X.ex∨X.s₀.heap.objs.size≤it) (h2:∀ x c,X.env.cells.lookup x=some c→c≠it) (h3:∀ p∈X.pn++pins,p.1≠it):Inv X pins σ H { s with heap:=h',toks:=t' }:=by
 have nit:∀ b u,H b=some u→b≠it:=fun b u e z=>by rw [z,hn] at e; cases e
 refine I.step (g':=s.gens) (d':=s.drawn) (ch:=[it]) (fun b hb=>?_) (fun b o _ _ hc e _=>k b o (fun z=>hc (by simp [z])) e) (fun b o _ _ hc e _=>⟨o.slots,k b o (fun z=>hc (by simp [z])) e⟩) (fun _ _ _ _ n=>n)
  (fun b o hc e=>⟨o,k b o (fun z=>hc (by simp [z])) e⟩) (fun _ _ e=>e) (fun _ _ _ e=>e) (fun b ps e=>⟨#[],by rw [e]; simp⟩) (fun m hm=>?_) (fun b u e=>?_) I.bare
 · have e:b=it:=by simpa using hb
   subst e
   exact ⟨h1,hL,h2,h3⟩
 · obtain ⟨o,es,ep,ho,r⟩:=hm
   exact ⟨o,es,ep,k _ o (Ne.symm hL) ho,r⟩
 · refine (I.hok b u e).stay (fun c v hc q=>k c v ?_ q) (fun _ q=>q) fun _ _ q=>q
   rcases hc with z | z
   · rw [z]; exact nit b u e
   · exact nit c _ z
theorem Inv.tok (I:Inv X pins σ H s) (t:Nat):Inv X pins σ H { s with toks:=t }:=I.un (h':=s.heap) (t':=t) Un.refl I.hok
theorem Inv.kept {t':Nat} (I:Inv X pins σ H s) (k:∀ b u,s.heap.get? b=some u→h'.get? b=some u):Inv X pins σ H { s with heap:=h',toks:=t' }:=I.un (Un.kept k) (I.hok.kept k)
theorem Inv.laid {a:Addr} {o:HO} {t':Nat} (I:Inv X pins σ H s) (k:∀ b u,s.heap.get? b=some u→h'.get? b=some u) (hp:s.heap.objs.size≤a) (new:ObjOk X.prog X.w (upd H a o) h' a o) :
 Inv X pins σ (upd H a o) { s with heap:=h',toks:=t' }:=I.un (Un.laid k hp (I.hok.fresh hp)) (I.hok.laid k hp new)
theorem Inv.write {x e:Addr} {o:HO} {t':Nat} (I:Inv X pins σ H s) (mu:Mut (H x)) (he:e=x∨H e=some (.own x)) (k:∀ b u,b≠e→s.heap.get? b=some u→h'.get? b=some u) (heo:∃ u,h'.get? e=some u)
 (new:ObjOk X.prog X.w (upd H x o) h' x o):Inv X pins σ (upd H x o) { s with heap:=h',toks:=t' }:=I.un (Un.write mu he k heo) (I.hok.write mu he k heo new)
theorem Inv.pins_of {pins':List (Addr × Obj)} (I:Inv X pins σ H s) (h:∀ p∈pins',s.heap.get? p.1=some p.2∧H p.1=none∧p.1≠X.env.locals∧p.1 ∉ X.fs∧∀ v,p.2.data≠.cell v):Inv X pins' σ H s :=
 ⟨I.ok,I.os,I.bare,I.base,I.loc,I.cell,I.free,I.freeC,fun p hp=>(List.mem_append.mp hp).elim (fun z=>I.pin p (List.mem_append_left _ z)) (h p),I.hok,I.len⟩
theorem nodup_ix {N:List Str} (hN:N.Nodup) {i j:Nat} {x:Str} (a:N[i]?=some x) (b:N[j]?=some x):i=j:=by
 obtain ⟨h1,e1⟩:=List.getElem?_eq_some_iff.mp a
 obtain ⟨h2,e2⟩:=List.getElem?_eq_some_iff.mp b
 exact (List.getElem_inj hN).mp (e1.trans e2.symm)
theorem store_ok2 {M:Model} {A:Around} {E:Value→Shared→Prop} {i:Nat} {x:Str} {v:V} {u:Value} {Q:Unit→Shared→Prop} (I:Inv X pins σ H s) (hN:X.N.Nodup) (hi:X.N[i]?=some x) (hx:Loc X.env.scope x) (r:RelV v u)
 (h:∀ s',Inv X pins (σ.set i (some v)) H s'→(∃ a,Heap.SameBut a s.heap s'.heap∧(a=X.env.locals∨X.env.cells.lookup x=some a))→Q () s') (hf:X.fn x=true∨X.env.scope.names.lookup x=some .local:=by first | exact .inl rfl | exact .inr rfl | assumption):wpAny M A (storeName X.env x u) Q E s:=by
 obtain ⟨m,hn,hl⟩:=id I.loc
 have hcls:(X.env.scope.kind == .class || (X.env.scope.kind == .module && X.env.locals != X.env.globals))=false:=by rw [I.ok.kind]; rfl
 have hiσ:i < σ.length:=by rw [I.len]; exact (List.getElem?_eq_some_iff.mp hi).1
 have cne:=I.cne
 have tracked:∀ {a:Addr} {h':Heap},(∃ o,s.heap.get? a=some o∧H a=none)→Heap.SameBut a s.heap h'→HOk X.prog X.w H h':=fun {a h'} ha hs b ob e=>by
  obtain ⟨_,_,hfree⟩:=ha
  refine (I.hok b ob e).stay (fun c w' hc q=>(hs.2 c ?_).trans q) (fun _ q=>q) fun _ _ q=>q
  rintro rfl
  rcases hc with rfl | hc
  · rw [hfree] at e; cases e
  · rw [hfree] at hc; cases hc
 rcases hx with hk | hk
 · refine wpAny_storeName_local hk hn (fun h' hn' hs=>?_) hcls
   obtain ⟨oL,_,_,hoL,_⟩:=id hn
   refine h _ ⟨I.ok,I.os,I.bare,⟨fun b o e n hb hx=>?_,fun b o e n hb hx=>?_,I.base.free,fun b o e hx=>?_,I.base.tups,I.base.frzs,I.base.tbls⟩,⟨_,hn',fun j y v' e1 e2 e3=>?_⟩,fun y c e=>?_,I.free,I.freeC,fun p hp=>?_,tracked ⟨oL,hoL,I.free⟩ hs,by simpa using I.len⟩ ⟨_,hs,.inl rfl⟩
   · exact (hs.2 b (Nat.ne_of_lt (Nat.lt_of_lt_of_le (Heap.lt_size e) I.ok.above))).trans (I.base.keep b o e n hb hx)
   · obtain ⟨sl,e1⟩:=I.base.slot b o e n hb hx
     exact ⟨sl,(hs.2 b (Nat.ne_of_lt (Nat.lt_of_lt_of_le (Heap.lt_size e) I.ok.above))).trans e1⟩
   · obtain ⟨o',e1⟩:=I.base.there b o e hx
     exact ⟨o',(hs.2 b (Nat.ne_of_lt (Nat.lt_of_lt_of_le (Heap.lt_size e) I.ok.above))).trans e1⟩
   · by_cases hj:j=i
     · subst hj
       rw [hi] at e1; cases e1
       rw [List.getElem?_set_self hiσ] at e2
       cases e2
       exact ⟨u,r,.inl ⟨hk,by simp⟩⟩
     · rw [List.getElem?_set_ne (Ne.symm hj)] at e2
       obtain ⟨u',r',q⟩:=hl j y v' e1 e2 e3
       refine ⟨u',r',?_⟩
       rcases q with ⟨k,e⟩ | ⟨k,c,e,z⟩
       · refine .inl ⟨k,?_⟩
         have:y≠x:=fun e=>hj (nodup_ix hN e1 (e ▸ hi))
         simp [this,e]
       · exact .inr ⟨k,c,e,z.sameBut hs (cne y c e)⟩
   · obtain ⟨w',z⟩:=I.cell y c e
     exact ⟨w',z.sameBut hs (cne y c e)⟩
   · obtain ⟨e,n,ne,nf,d⟩:=I.pin p hp
     exact ⟨(hs.2 p.1 ne).trans e,n,ne,nf,d⟩
 · have hfn:X.fn x=true:=by
    rcases hf with z | z
    · exact z
    · rw [z] at hk; cases hk
   obtain ⟨c,hc⟩:=I.ok.has x (.inl hk)
   obtain ⟨w',z⟩:=I.cell x c hc
   refine wpAny_storeName_cell I.ok.kind hk hc z (fun h' hc' hs=>?_)
   obtain ⟨oc,hoc,hocd⟩:=id z
   refine h { s with heap:=h' } ⟨I.ok,I.os,I.bare,⟨fun b o e n hb hx=>?_,fun b o e n hb hx=>?_,I.base.free,fun b o e hx=>?_,I.base.tups,I.base.frzs,I.base.tbls⟩,⟨m,hn.sameBut hs (Ne.symm (cne x c hc)),fun j y v' e1 e2 e3=>?_⟩,fun y c' e=>?_,I.free,I.freeC,fun p hp=>?_,tracked ⟨oc,hoc,I.freeC x c hc⟩ hs,by simpa using I.len⟩ ⟨c,hs,.inr hc⟩
   · exact (hs.2 b (Nat.ne_of_lt (Nat.lt_of_lt_of_le (Heap.lt_size e) (I.ok.cab x c hfn hc)))).trans (I.base.keep b o e n hb hx)
   · obtain ⟨sl,e1⟩:=I.base.slot b o e n hb hx
     exact ⟨sl,(hs.2 b (Nat.ne_of_lt (Nat.lt_of_lt_of_le (Heap.lt_size e) (I.ok.cab x c hfn hc)))).trans e1⟩
   · obtain ⟨o',e1⟩:=I.base.there b o e hx
     exact ⟨o',(hs.2 b (Nat.ne_of_lt (Nat.lt_of_lt_of_le (Heap.lt_size e) (I.ok.cab x c hfn hc)))).trans e1⟩
   · by_cases hj:j=i
     · subst hj
       rw [hi] at e1; cases e1
       rw [List.getElem?_set_self hiσ] at e2
       cases e2
       exact ⟨u,r,.inr ⟨.inl hk,c,hc,hc'⟩⟩
     · rw [List.getElem?_set_ne (Ne.symm hj)] at e2
       obtain ⟨u',r',q⟩:=hl j y v' e1 e2 e3
       refine ⟨u',r',?_⟩
       rcases q with q | ⟨k,c',e,z'⟩
       · exact .inl q
       · refine .inr ⟨k,c',e,z'.sameBut hs ?_⟩
         rintro rfl
         exact hj (nodup_ix hN e1 (I.ok.inj _ _ _ e hc ▸ hi))
   · by_cases hcc:c'=c
     · subst hcc; exact ⟨_,hc'⟩
     · obtain ⟨w2,z2⟩:=I.cell y c' e
       exact ⟨w2,z2.sameBut hs hcc⟩
   · obtain ⟨e,n,ne,nf,d⟩:=I.pin p hp
     refine ⟨(hs.2 p.1 ?_).trans e,n,ne,nf,d⟩
     intro q
     rw [q,hoc] at e
     have q':oc=p.2:=Option.some.inj e
     exact d w' (by rw [←q']; exact hocd)
theorem store_ok {M:Model} {A:Around} {E:Value→Shared→Prop} {i:Nat} {x:Str} {v:V} {u:Value} {Q:Unit→Shared→Prop} (I:Inv X pins σ H s) (hN:X.N.Nodup) (hi:X.N[i]?=some x) (hx:Loc X.env.scope x) (r:RelV v u)
 (h:∀ s',Inv X pins (σ.set i (some v)) H s'→Q () s') (hf:X.fn x=true∨X.env.scope.names.lookup x=some .local:=by first | exact .inl rfl | exact .inr rfl | assumption):wpAny M A (storeName X.env x u) Q E s :=
 store_ok2 I hN hi hx r (fun s' I' _=>h s' I') hf
theorem Inv.call' {s':Shared} {ch:List Addr} (I:Inv X pins σ H s) (ho:s'.os=s.os) (u:Un (frs X.stack) ch H H' s.heap s'.heap) (hok:HOk X.prog X.w H' s'.heap) (hg:AllBare s'.gens)
 (hch:∀ b∈ch,(b∈X.ex∨X.s₀.heap.objs.size≤b)∧b≠X.env.locals∧(∀ x c,X.env.cells.lookup x=some c→c≠b)∧∀ p∈X.pn++pins,p.1≠b):Inv X pins σ H' s':=by
 obtain ⟨h',g',d',t',o'⟩:=s'
 have e:o'=s.os:=ho
 subst e
 exact I.call (g':=g') (t':=t') (d':=d') u hok hg hch
end
abbrev XK:=Value→Option Addr→Hp→Prop
abbrev St:=List (Option V)
abbrev VK:=V→Hp→Prop
abbrev TE:=St→Hp→VK→Prop
abbrev TT:=St→Hp→(Bool→Hp→Prop)→Prop
abbrev TA:=St→Hp→(List V→Hp→Prop)→Prop
structure Ends where
 nx:St→Hp→Prop
 rt:VK
 bk:St→Hp→Prop:=fun _ _=>False
 ct:St→Hp→Prop:=fun _ _=>False
abbrev TS:=Ends→St→Hp→Prop
def EP (X:Cx) (pins:List (Addr × Obj)) (σ:St) (Q:VK) (u:Value) (s':Shared):Prop:=∃ v H',Inv X pins σ H' s'∧RelV v u∧Q v H'
def TP (X:Cx) (pins:List (Addr × Obj)) (σ:St) (Q:Bool→Hp→Prop) (b:Bool) (s':Shared):Prop:=∃ H',Inv X pins σ H' s'∧Q b H'
def AP (X:Cx) (pins:List (Addr × Obj)) (σ:St) (Q:List V→Hp→Prop) (us:List Value) (s':Shared):Prop:=∃ vs H',Inv X pins σ H' s'∧Vals vs us∧Q vs H'
def SP (X:Cx) (pins:List (Addr × Obj)) (D:Ends) (f:Flow) (s':Shared):Prop :=
 match f with
 | .next=>∃ σ' H',Inv X pins σ' H' s'∧D.nx σ' H'
 | .brk=>∃ σ' H',Inv X pins σ' H' s'∧D.bk σ' H'
 | .cont=>∃ σ' H',Inv X pins σ' H' s'∧D.ct σ' H'
 | .ret u=>∃ v σ' H',Inv X pins σ' H' s'∧RelV v u∧D.rt v H'
def PE (X:Cx) (e:Expr) (t:TE):Prop :=
 ∀ (pins:List (Addr × Obj)) (s:Shared) (σ:St) (H:Hp) (Q:VK),Inv X pins σ H s→t σ H Q→wpAny (model X.prog X.w) X.A (eval e X.env) (EP X pins σ Q) X.xe s
def PT (X:Cx) (e:Expr) (t:TT):Prop :=
 ∀ (pins:List (Addr × Obj)) (s:Shared) (σ:St) (H:Hp) (Q:Bool→Hp→Prop),Inv X pins σ H s→t σ H Q→wpAny (model X.prog X.w) X.A (isTrue e X.env (eval e X.env)) (TP X pins σ Q) X.xe s
def PW (X:Cx) (e:Expr) (t:TT):Prop :=
 ∀ (whole:Sem Value) (pins:List (Addr × Obj)) (s:Shared) (σ:St) (H:Hp) (Q:Bool→Hp→Prop),Inv X pins σ H s→t σ H Q→wpAny (model X.prog X.w) X.A (isTrue e X.env whole) (TP X pins σ Q) X.xe s
theorem PW.pt {X:Cx} {e:Expr} {t:TT} (h:PW X e t):PT X e t:=h _
def PA (X:Cx) (es:List Expr) (t:TA):Prop :=
 ∀ (pos:Pos) (pins:List (Addr × Obj)) (s:Shared) (σ:St) (H:Hp) (Q:List V→Hp→Prop),Inv X pins σ H s→t σ H Q→wpAny (model X.prog X.w) X.A (spliced (backTo pos (starEach es X.env))) (AP X pins σ Q) X.xe s
def PS (X:Cx) (st:Stmt) (t:TS):Prop :=
 ∀ (pins:List (Addr × Obj)) (s:Shared) (σ:St) (H:Hp) (D:Ends),Inv X pins σ H s→t D σ H→wpAny (model X.prog X.w) X.A (exec st X.env) (SP X pins D) X.xe s
def PSs (X:Cx) (st:List Stmt) (t:TS):Prop :=
 ∀ (pins:List (Addr × Obj)) (s:Shared) (σ:St) (H:Hp) (D:Ends),Inv X pins σ H s→t D σ H→wpAny (model X.prog X.w) X.A (execs st X.env) (SP X pins D) X.xe s
theorem thn {α:Type} {t:Sem α} {Q Q':α→Shared→Prop} {M:Model} {A:Around} {E:Value→Shared→Prop} {s:Shared} (h:wpAny M A t Q E s) (hQ:∀ a s,Q a s→Q' a s):wpAny M A t Q' E s:=wpAny_mono h hQ fun _ _ x=>x
end L2
namespace L2
open PySem PySem.Spec PyProof.Rows
section
variable {X:Cx}
def tVar (i:Nat):TE:=fun σ H Q=>∃ v,σ[i]?=some (some v)∧Q v H
def tC (v:V):TE:=fun _ H Q=>Q v H
theorem pe_var {i:Nat} {x:Str} {pos:Pos} (hN:X.N[i]?=some x) (hv:Vis X.env.scope x) (hd:(x == ("__debug__" : Str))=false:=by decide) (hcd:(x == ("__classdict__" : Str))=false:=by decide):PE X (.Name x pos) (tVar i):=by
 intro pins s σ H Q I h
 obtain ⟨v,e,h⟩:=h
 obtain ⟨m,hn,hl⟩:=I.loc
 obtain ⟨u,r,l⟩:=hl i x v hN e hv
 have fin:EP X pins σ Q u s:=⟨v,H,I,r,h⟩
 rcases l with ⟨hk,hm⟩ | ⟨hk,c,hc,hcell⟩
 · exact wpAny_Name (wpAny_loadName_local I.ok.kind hk hn hm fin) hd
 · rcases hk with hk | hk
   · exact wpAny_Name (wpAny_loadName_cell I.ok.kind hk hc hcell fin) hd
   · exact wpAny_Name (wpAny_loadName_free I.ok.kind hk hc hcell fin hcd) hd
theorem pe_int {i j pos}:PE X (.Constant (.int i) j pos) (tC (.int i)):=fun _ _ _ H _ I h=>wpAny_Constant_int ⟨.int i,H,I.tok _,⟨_,rfl⟩,h⟩
theorem pe_bl {b j pos}:PE X (.Constant (.bool b) j pos) (tC (.bl b)):=fun _ _ _ H _ I h=>Constant_bool ⟨.bl b,H,I,rfl,h⟩
theorem pe_non {j pos}:PE X (.Constant .none j pos) (tC .non):=fun _ _ _ H _ I h=>Constant_none ⟨.non,H,I,rfl,h⟩
theorem pe_str {x j pos}:PE X (.Constant (.str x) j pos) (tC (.str x)):=fun _ _ _ H _ I h=>Calls.Constant_str ⟨.str x,H,I.tok _,⟨_,rfl⟩,h⟩
def Gl (X:Cx) (x:Str):Prop:=X.env.kindOf x=some .globalImplicit
theorem ld_glob {E:Value→Shared→Prop} {pins:List (Addr × Obj)} {s:Shared} {σ:St} {H:Hp} {x:Str} {u:Value} {pos:Pos} {Q:Value→Shared→Prop} (I:Inv X pins σ H s) (hg:Gl X x) (hm:X.mg x=some u) (h:Q u s)
 (hd:(x == ("__debug__" : Str))=false:=by decide):wpAny (model X.prog X.w) X.A (eval (.Name x pos) X.env) Q E s :=
 Calls.Name_function_global I.ok.kind hg (Calls.loadGlobal_global (by rw [I.ok.glob]; exact I.mod.glob.keeps I.bk) hm h) hd
theorem ld_blt {E:Value→Shared→Prop} {pins:List (Addr × Obj)} {s:Shared} {σ:St} {H:Hp} {x:Str} {u:Value} {pos:Pos} {Q:Value→Shared→Prop} (I:Inv X pins σ H s) (hg:Gl X x) (hm:X.mg x=none) (hv:bootBuiltins x=some u) (h:Q u s)
 (hn:x ≠ "__name__" := by decide) (hd:(x == ("__debug__" : Str))=false:=by decide):wpAny (model X.prog X.w) X.A (eval (.Name x pos) X.env) Q E s:=by
 obtain ⟨mb,h1,h2⟩:=I.mod.blt
 exact Calls.Name_function_global I.ok.kind hg (Calls.loadGlobal_builtin (by rw [I.ok.glob]; exact I.mod.glob.keeps I.bk) hm (by rw [I.ok.blt]; exact h1.keeps I.bk) ((h2 x hn).trans hv) h) hd
theorem pe_glob {x:Str} {v:V} {u:Value} {pos:Pos} (hg:Gl X x) (hm:X.mg x=some u) (r:RelV v u) (hd:(x == ("__debug__" : Str))=false:=by decide):PE X (.Name x pos) (tC v) :=
 fun _ _ _ H _ I h=>ld_glob I hg hm ⟨v,H,I,r,h⟩ hd
theorem pe_bltn {x:Str} {v:V} {u:Value} {pos:Pos} (hg:Gl X x) (hm:X.mg x=none) (hv:bootBuiltins x=some u) (r:RelV v u) (hn:x ≠ "__name__" := by decide) (hd:(x == ("__debug__" : Str))=false:=by decide):PE X (.Name x pos) (tC v) :=
 fun _ _ _ H _ I h=>ld_blt I hg hm hv ⟨v,H,I,r,h⟩ hn hd
variable {a b:Expr} {ta tb:TE} {pos:Pos}
def PC (X:Cx) (op:CmpOp) (a b:Expr) (t:TE):Prop :=
 ∀ (pins:List (Addr × Obj)) (s:Shared) (σ:St) (H:Hp) (Q:VK),Inv X pins σ H s→t σ H Q →
  wpAny (model X.prog X.w) X.A (eval a X.env) (fun v s₁=>wpAny (model X.prog X.w) X.A (eval b X.env) (fun u s₂=>wpAny (model X.prog X.w) X.A (compareOp op v u) (EP X pins σ Q) X.xe s₂) X.xe s₁) X.xe s
theorem nobehind (b:Expr) {op:CmpOp} (h:op≠.In) (h2:op≠.NotIn):behindInMarks op b=false:=by
 have e1:(op == CmpOp.In)=false:=by cases op <;> first | rfl | exact absurd rfl h
 have e2:(op == CmpOp.NotIn)=false:=by cases op <;> first | rfl | exact absurd rfl h2
 cases b <;> simp [behindInMarks,e1,e2]
def tIsN (ta:TE):TE:=fun σ H Q=>ta σ H fun x H1=>Q (.bl (decide (x=.non))) H1
def tNotN (ta:TE):TE:=fun σ H Q=>ta σ H fun x H1=>Q (.bl (!decide (x=.non))) H1
theorem RelV.none_iff {x:V} {v:Value} (r:RelV x v):(v == Value.none)=decide (x=.non):=by
 cases x with
 | non=>cases r; rfl
 | bl _=>cases r; rfl
 | int _=>obtain ⟨t,rfl⟩:=r; rfl
 | str _=>obtain ⟨t,rfl⟩:=r; rfl
 | byt _=>obtain ⟨t,rfl⟩:=r; rfl
 | flt _=>obtain ⟨t,rfl⟩:=r; rfl
 | ref _=>cases r; rfl
 | ty _=>cases r; rfl
theorem pc_isN {j pos'} (ha:PE X a ta):PC X .Is a (.Constant .none j pos') (tIsN ta):=by
 intro pins s σ H Q I h
 refine thn (ha pins s σ H _ I h) fun v s1 ⟨x,H1,I1,r1,q1⟩=>?_
 exact Constant_none (is_none_gen ⟨.bl _,H1,I1,by rw [r1.none_iff]; rfl,q1⟩)
theorem pc_notN {j pos'} (ha:PE X a ta):PC X .IsNot a (.Constant .none j pos') (tNotN ta):=by
 intro pins s σ H Q I h
 refine thn (ha pins s σ H _ I h) fun v s1 ⟨x,H1,I1,r1,q1⟩=>?_
 exact Constant_none (isnot_none_gen ⟨.bl _,H1,I1,by rw [r1.none_iff]; rfl,q1⟩)
def tB (t:TE):TT:=fun σ H Q=>t σ H fun x H1=>∃ c,x=.bl c∧Q c H1
theorem pt_cmp {op:CmpOp} {t:TE} (h:PC X op a b t) (h1:behindInMarks op b=false:=by first | exact nobehind _ (by decide) (by decide) | rfl):PT X (.Compare a [op] [b] pos) (tB t):=by
 intro pins s σ H Q I hw
 refine wpAny_isTrue_Compare1 (thn (h pins s σ H _ I hw) fun v s1 h1=>thn h1 fun u s2 h2=>thn h2 fun c s3 ⟨x,H1,I1,r1,q1⟩=>?_) h1
 obtain ⟨d,rfl,q⟩:=q1
 cases r1
 exact wpAny_truthy_bool ⟨H1,I1,q⟩
theorem pt_val {e:Expr} {t:TE} (h:PE X e t) (he:∀ whole,isTrue e X.env whole=(do let v ←whole; standAt e.pos; holding [v] (truthy v)):=by intro _; rfl):PT X e (tB t):=by
 intro pins s σ H Q I hw
 refine isTrue_plain (thn (h pins s σ H _ I hw) fun v s1 ⟨x,H1,I1,r1,q1⟩=>?_) (he _)
 obtain ⟨d,rfl,q⟩:=q1
 cases r1
 exact wpAny_truthy_bool ⟨H1,I1,q⟩
variable {tA tB':TT} {rest:List Expr}
def tAnd (t u:TT):TT:=fun σ H Q=>t σ H fun c H1=>if c=true then u σ H1 Q else Q false H1
def tOr (t u:TT):TT:=fun σ H Q=>t σ H fun c H1=>if c=true then Q true H1 else u σ H1 Q
def tNot (t:TT):TT:=fun σ H Q=>t σ H fun c H1=>Q (!c) H1
theorem pw_and1 (ha:PT X a tA):PW X (.BoolOp .And [a] pos) tA:=by
 intro wh pins s σ H Q I h
 refine isTrue_and (thn (ha pins s σ H Q I h) fun c s1 e=>?_)
 cases c with
 | true=>exact isTrue_and_nil e
 | false=>exact e
theorem pw_or1 (ha:PT X a tA):PW X (.BoolOp .Or [a] pos) tA:=by
 intro wh pins s σ H Q I h
 refine isTrue_or (thn (ha pins s σ H Q I h) fun c s1 e=>?_)
 cases c with
 | false=>exact isTrue_or_nil e
 | true=>exact e
theorem pw_and (ha:PT X a tA) (hb:PW X (.BoolOp .And (b :: rest) pos) tB'):PW X (.BoolOp .And (a :: b :: rest) pos) (tAnd tA tB'):=by
 intro wh pins s σ H Q I h
 refine isTrue_and (thn (ha pins s σ H _ I h) fun c s1 ⟨H1,I1,q1⟩=>?_)
 cases c with
 | true=>exact hb wh pins s1 σ H1 Q I1 q1
 | false=>exact ⟨H1,I1,q1⟩
theorem pw_or (ha:PT X a tA) (hb:PW X (.BoolOp .Or (b :: rest) pos) tB'):PW X (.BoolOp .Or (a :: b :: rest) pos) (tOr tA tB'):=by
 intro wh pins s σ H Q I h
 refine isTrue_or (thn (ha pins s σ H _ I h) fun c s1 ⟨H1,I1,q1⟩=>?_)
 cases c with
 | true=>exact ⟨H1,I1,q1⟩
 | false=>exact hb wh pins s1 σ H1 Q I1 q1
theorem pt_not (ha:PT X a tA):PT X (.UnaryOp .Not a pos) (tNot tA):=by
 intro pins s σ H Q I h
 exact isTrue_not (ha pins s σ H (fun c H1=>Q (!c) H1) I h)
def tAndV (ta tb:TE):TE:=fun σ H Q=>ta σ H fun x H1=>∃ c,x=.bl c∧if c=true then tb σ H1 Q else Q (.bl false) H1
def tOrV (ta tb:TE):TE:=fun σ H Q=>ta σ H fun x H1=>∃ c,x=.bl c∧if c=true then Q (.bl true) H1 else tb σ H1 Q
def tNotV (ta:TE):TE:=fun σ H Q=>ta σ H fun x H1=>∃ c,x=.bl c∧Q (.bl (!c)) H1
theorem pe_one {op} {t:TE} (h:PE X a t):PE X (.BoolOp op [a] pos) t:=fun pins s σ H Q I hw=>BoolOp_one (h pins s σ H Q I hw)
theorem pe_and (ha:PE X a ta) (hb:PE X (.BoolOp .And (b :: rest) pos) tb):PE X (.BoolOp .And (a :: b :: rest) pos) (tAndV ta tb):=by
 intro pins s σ H Q I h
 refine BoolOp_and (thn (ha pins s σ H _ I h) fun v s1 ⟨x,H1,I1,r1,q1⟩=>?_)
 obtain ⟨c,rfl,q1⟩:=q1
 cases r1
 refine wpAny_truthy_bool ?_
 cases c with
 | true=>exact hb pins s1 σ H1 Q I1 q1
 | false=>exact ⟨.bl false,H1,I1,rfl,q1⟩
theorem pe_or (ha:PE X a ta) (hb:PE X (.BoolOp .Or (b :: rest) pos) tb):PE X (.BoolOp .Or (a :: b :: rest) pos) (tOrV ta tb):=by
 intro pins s σ H Q I h
 refine BoolOp_or (thn (ha pins s σ H _ I h) fun v s1 ⟨x,H1,I1,r1,q1⟩=>?_)
 obtain ⟨c,rfl,q1⟩:=q1
 cases r1
 refine wpAny_truthy_bool ?_
 cases c with
 | false=>exact hb pins s1 σ H1 Q I1 q1
 | true=>exact ⟨.bl true,H1,I1,rfl,q1⟩
theorem pe_not (ha:PE X a ta):PE X (.UnaryOp .Not a pos) (tNotV ta):=by
 intro pins s σ H Q I h
 refine UnaryOp_ (thn (ha pins s σ H _ I h) fun v s1 ⟨x,H1,I1,r1,q1⟩=>?_)
 obtain ⟨c,rfl,q1⟩:=q1
 cases r1
 exact not_of (wpAny_truthy_bool ⟨.bl (!c),H1,I1,rfl,q1⟩)
def tIf (t:TT) (ta tb:TE):TE:=fun σ H Q=>t σ H fun c H1=>if c=true then ta σ H1 Q else tb σ H1 Q
theorem pe_ifExp {c:Expr} (hc:PT X c tA) (ha:PE X a ta) (hb:PE X b tb):PE X (.IfExp c a b pos) (tIf tA ta tb):=by
 intro pins s σ H Q I h
 refine wpAny_IfExp (thn (hc pins s σ H _ I h) fun d s1 ⟨H1,I1,q1⟩=>?_)
 cases d with
 | true=>exact ha pins s1 σ H1 Q I1 q1
 | false=>exact hb pins s1 σ H1 Q I1 q1
end
end L2
namespace L2
open PySem PySem.Spec PyProof.Rows
def SqL (K:PySem.W.Frag) (H:Hp) (a:Addr) (xs:List V):Prop :=
 Rd H a (.lst xs) ∨
  ∃ (o:Obj) (its:Array Value) (n:Nat),K.lookup a=some o∧o.cls=.type "list" ∧ o.dict=none∧o.data=.seq its n∧its.size≤sizeLine∧Vals xs its.toList
def SqT (K:PySem.W.Frag) (H:Hp) (a:Addr) (xs:List V):Prop :=
 Rd H a (.tup xs) ∨
  ∃ (o:Obj) (its:Array Value) (n:Nat),K.lookup a=some o∧o.cls=.type "tuple" ∧ o.data=.seq its n∧its.size≤sizeLine∧Vals xs its.toList
def absV:Value→Option V
 | .none=>some .non
 | .bool b=>some (.bl b)
 | .int i _=>some (.int i)
 | .str x _=>some (.str x)
 | .bytes b _=>some (.byt b)
 | .float b _=>some (.flt b)
 | .ref a=>some (.ref a)
 | .type n=>some (.ty n)
 | _=>none
theorem RelV.abs {x:V} {u:Value} (r:RelV x u):absV u=some x:=by
 cases x with
 | non=>cases r; rfl
 | bl _=>cases r; rfl
 | int _=>obtain ⟨t,rfl⟩:=r; rfl
 | str _=>obtain ⟨t,rfl⟩:=r; rfl
 | byt _=>obtain ⟨t,rfl⟩:=r; rfl
 | flt _=>obtain ⟨t,rfl⟩:=r; rfl
 | ref _=>cases r; rfl
 | ty _=>cases r; rfl
theorem RelV.inj {x y:V} {u:Value} (r:RelV x u) (q:RelV y u):x=y:=Option.some.inj (r.abs.symm.trans q.abs)
theorem Vals.inj:∀ {xs ys:List V} {us:List Value},Vals xs us→Vals ys us→xs=ys
 | _,_,_,.nil,.nil=>rfl
 | _,_,_,.cons r t,.cons r' t'=>by rw [r.inj r',Vals.inj t t']
section
variable {X:Cx} {pins:List (Addr × Obj)} {σ:St} {H:Hp} {s:Shared} {a:Addr} {xs ys:List V}
theorem SqL.of {K:PySem.W.Frag} (h:H a=some (.lst xs)):SqL K H a xs:=.inl (.inl h)
theorem SqT.of {K:PySem.W.Frag} (h:H a=some (.tup xs)):SqT K H a xs:=.inl (.inl h)
theorem Inv.list (I:Inv X pins σ H s) (h:SqL X.K H a xs):∃ its:List Value,Vals xs its∧PlainL s.heap a its.toArray∧xs.length≤sizeLine:=by
 rcases h with h | ⟨o,its,n,hk,hc,hd,hs,hz,r⟩
 · obtain ⟨z,its,n,r,e⟩:=h.ok I.hok
   exact ⟨its,r,⟨_,n,e,rfl,rfl,rfl⟩,z⟩
 · refine ⟨its.toList,r,⟨o,n,I.kIn a o hk,hc,hd,by simpa using hs⟩,?_⟩
   have e:=r.length
   simp only [Array.length_toList] at e
   omega
theorem Inv.tuple (I:Inv X pins σ H s) (h:SqT X.K H a xs):∃ its:List Value,Vals xs its∧IsTup s.heap a its.toArray∧xs.length≤sizeLine:=by
 rcases h with h | ⟨o,its,n,hk,hc,hs,hz,r⟩
 · obtain ⟨z,its,r,p⟩:=h.ok I.hok
   exact ⟨its,r,p,z⟩
 · refine ⟨its.toList,r,⟨o,I.kIn a o hk,hc,n,by simpa using hs⟩,?_⟩
   have e:=r.length
   simp only [Array.length_toList] at e
   omega
theorem Inv.list_inj (I:Inv X pins σ H s) (h:SqL X.K H a xs) (h':SqL X.K H a ys):xs=ys:=by
 obtain ⟨its,r,⟨o,n,e,_,_,d⟩,_⟩:=I.list h
 obtain ⟨its',r',⟨o',n',e',_,_,d'⟩,_⟩:=I.list h'
 rw [e] at e'; cases e'
 rw [d] at d'
 injection d' with d1 _
 have:its=its':=by simpa using congrArg Array.toList d1
 subst this
 exact r.inj r'
theorem Inv.tuple_inj (I:Inv X pins σ H s) (h:SqT X.K H a xs) (h':SqT X.K H a ys):xs=ys:=by
 obtain ⟨its,r,⟨o,e,_,n,d⟩,_⟩:=I.tuple h
 obtain ⟨its',r',⟨o',e',_,n',d'⟩,_⟩:=I.tuple h'
 rw [e] at e'; cases e'
 rw [d] at d'
 injection d' with d1 _
 have:its=its':=by simpa using congrArg Array.toList d1
 subst this
 exact r.inj r'
end
abbrev Cx.wish (X:Cx) (E:Value→Shared→Prop):Cx:={ X with xe:=E }
abbrev Cx.nox (X:Cx):Cx:=X.wish fun _ _=>False
theorem Cx.Ok.wish {X:Cx} (ok:X.Ok) (E:Value→Shared→Prop):(X.wish E).Ok :=
 ⟨ok.mod,ok.kind,ok.glob,ok.blt,ok.above,ok.inj,ok.has,ok.cab,ok.hd,ok.frames,ok.stk,ok.exf,ok.bs,ok.bsz,ok.noex,ok.exfs,ok.funs,ok.frf⟩
theorem Cx.Ok.unwish {X:Cx} {E:Value→Shared→Prop} (ok:(X.wish E).Ok):X.Ok :=
 ⟨ok.mod,ok.kind,ok.glob,ok.blt,ok.above,ok.inj,ok.has,ok.cab,ok.hd,ok.frames,ok.stk,ok.exf,ok.bs,ok.bsz,ok.noex,ok.exfs,ok.funs,ok.frf⟩
section
variable {X:Cx} {pins:List (Addr × Obj)} {σ:St} {H:Hp} {s:Shared} {E:Value→Shared→Prop}
theorem Inv.wish (I:Inv X pins σ H s) (E:Value→Shared→Prop):Inv (X.wish E) pins σ H s:=⟨I.ok.wish E,I.os,I.bare,I.base,I.loc,I.cell,I.free,I.freeC,I.pin,I.hok,I.len⟩
theorem Inv.unwish (I:Inv (X.wish E) pins σ H s):Inv X pins σ H s:=⟨I.ok.unwish,I.os,I.bare,I.base,I.loc,I.cell,I.free,I.freeC,I.pin,I.hok,I.len⟩
theorem SP.unwish {D:Ends} {f:Flow} {s':Shared} (h:SP (X.wish E) pins D f s'):SP X pins D f s':=by
 cases f with
 | next=>obtain ⟨σ',H',I,q⟩:=h; exact ⟨σ',H',I.unwish,q⟩
 | brk=>obtain ⟨σ',H',I,q⟩:=h; exact ⟨σ',H',I.unwish,q⟩
 | cont=>obtain ⟨σ',H',I,q⟩:=h; exact ⟨σ',H',I.unwish,q⟩
 | ret u=>obtain ⟨v,σ',H',I,r,q⟩:=h; exact ⟨v,σ',H',I.unwish,r,q⟩
theorem PSs.nox {st:List Stmt} {t:TS} (h:PSs X.nox st t):PSs X st t:=fun pins s σ H D I hw =>
 wpAny_mono (h pins s σ H D (I.wish _) hw) (fun _ _ q=>q.unwish) fun _ _ z=>False.elim z
end
section
variable {X:Cx} {st:Stmt} {rest:List Stmt} {t u:TS} {e:Expr} {te:TE} {pos:Pos}
def tNext:TS:=fun D σ H=>D.nx σ H
def tSeq (t u:TS):TS:=fun D σ H=>t { D with nx:=u D } σ H
theorem pss_nil:PSs X [] tNext:=fun _ _ σ H _ I h=>wpAny_execs_nil ⟨σ,H,I,h⟩
theorem pss_cons (h1:PS X st t) (h2:PSs X rest u):PSs X (st :: rest) (tSeq t u):=by
 intro pins s σ H D I h
 refine wpAny_execs_cons (thn (h1 pins s σ H { D with nx:=u D } I h) fun f s1 q=>?_)
 cases f with
 | next =>
   obtain ⟨σ',H',I',q⟩:=q
   exact h2 pins s1 σ' H' D I' q
 | ret v=>exact q
 | brk=>exact q
 | cont=>exact q
theorem pss_one (h1:PS X st t):PSs X [st] t:=by
 intro pins s σ H D I h
 refine wpAny_execs_cons (thn (h1 pins s σ H D I h) fun f s1 q=>?_)
 cases f with
 | next=>exact wpAny_execs_nil q
 | ret v=>exact q
 | brk=>exact q
 | cont=>exact q
def tCont:TS:=fun D σ H=>D.ct σ H
theorem ps_continue:PS X (.Continue pos) tCont:=fun _ _ σ H _ I h=>wpAny_Continue ⟨σ,H,I,h⟩
theorem Inv.quiet {pins:List (Addr × Obj)} {σ:St} {H:Hp} {s:Shared} (I:Inv X pins σ H s):interactive X.env=false:=by simp [interactive,I.ok.kind]
def tDrop (te:TE):TS:=fun D σ H=>te σ H fun _ H1=>D.nx σ H1
theorem ps_expr (he:PE X e te) (hs:swapsWith e none pos.line X.env=pure false:=by rfl):PS X (.Expr e pos) (tDrop te):=by
 intro pins s σ H D I h
 exact wpAny_Expr_any (thn (he pins s σ H _ I h) fun v s1 ⟨x,H1,I1,r1,q1⟩=>⟨σ,H1,I1,q1⟩) I.quiet hs
def tRet (te:TE):TS:=fun D σ H=>te σ H D.rt
theorem ps_ret (he:PE X e te):PS X (.Return (some e) pos) (tRet te):=by
 intro pins s σ H D I h
 exact wpAny_Return_some (thn (he pins s σ H _ I h) fun v s1 ⟨x,H1,I1,r1,q1⟩=>⟨x,σ,H1,I1,r1,q1⟩)
def tIfS (c:TT) (t u:TS):TS:=fun D σ H=>c σ H fun b H1=>if b=true then t D σ H1 else u D σ H1
theorem ps_if {c:Expr} {a b:List Stmt} {tc:TT} (hc:PT X c tc) (ha:PSs X a t) (hb:PSs X b u):PS X (.If c a b pos) (tIfS tc t u):=by
 intro pins s σ H D I h
 refine wpAny_If (thn (hc pins s σ H _ I h) fun d s1 ⟨H1,I1,q1⟩=>?_)
 cases d with
 | true=>exact ha pins s1 σ H1 D I1 q1
 | false=>exact hb pins s1 σ H1 D I1 q1
end
abbrev TG:=V→St→Hp→(St→Hp→Prop)→Prop
abbrev TGs:=List V→St→Hp→(St→Hp→Prop)→Prop
def PG (X:Cx) (target:Expr) (t:TG):Prop :=
 ∀ (pins:List (Addr × Obj)) (s:Shared) (σ:St) (H:Hp) (v:V) (u:Value) (Q:St→Hp→Prop),Inv X pins σ H s→RelV v u→t v σ H Q →
  wpAny (model X.prog X.w) X.A (assign target X.env u) (fun _ s'=>∃ σ' H',Inv X pins σ' H' s'∧Q σ' H') X.xe s
def PGs (X:Cx) (ts:List Expr) (t:TGs):Prop :=
 ∀ (pins:List (Addr × Obj)) (s:Shared) (σ:St) (H:Hp) (vs:List V) (us:List Value) (Q:St→Hp→Prop),Inv X pins σ H s→Vals vs us→t vs σ H Q →
  wpAny (model X.prog X.w) X.A (assignInOrder ((assignEach ts X.env).map (·.2)) us) (fun _ s'=>∃ σ' H',Inv X pins σ' H' s'∧Q σ' H') X.xe s
abbrev TSet:=V→V→V→Hp→(Hp→Prop)→Prop
def PSet (X:Cx) (t:TSet):Prop :=
 ∀ (pins:List (Addr × Obj)) (s:Shared) (σ:St) (H:Hp) (o i v:V) (ov iv u:Value) (Q:Hp→Prop),Inv X pins σ H s→RelV o ov→RelV i iv→RelV v u→t o i v H Q →
  wpAny (model X.prog X.w) X.A (setItem ov iv u) (fun _ s'=>∃ H',Inv X pins σ H' s'∧Q H') X.xe s
abbrev TIp:=V→V→Hp→VK→Prop
section
variable {X:Cx} {pos:Pos}
def gName (i:Nat):TG:=fun v σ H Q=>Q (σ.set i (some v)) H
theorem pg_name {i:Nat} {x:Str} (hN:X.N.Nodup) (hi:X.N[i]?=some x:=by rfl) (hx:Loc X.env.scope x:=by first | exact .inl rfl | exact .inr rfl) (hf:X.fn x=true∨X.env.scope.names.lookup x=some .local:=by first | exact .inl rfl | exact .inr rfl | assumption):PG X (.Name x pos) (gName i):=by
 intro pins s σ H v u Q I r h
 exact wpAny_assign_Name (store_ok I hN hi hx r (fun s' I'=>⟨_,H,I',h⟩) hf)
def gNil:TGs:=fun vs σ H Q=>vs=[]∧Q σ H
def gCons (t:TG) (u:TGs):TGs:=fun vs σ H Q=>∃ v r,vs=v :: r∧t v σ H fun σ' H'=>u r σ' H' Q
theorem pgs_nil:PGs X [] gNil:=by
 intro pins s σ H vs us Q I r h
 obtain ⟨e,h⟩:=h
 subst e
 cases r
 exact assignInOrder_nil ⟨σ,H,I,h⟩
theorem pgs_cons {e:Expr} {es:List Expr} {t:TG} {u:TGs} (h1:PG X e t) (h2:PGs X es u)
 (hs:(assignEach (e :: es) X.env).map (·.2)=assign e X.env :: (assignEach es X.env).map (·.2):=by rfl):PGs X (e :: es) (gCons t u):=by
 intro pins s σ H vs us Q I r h
 obtain ⟨v,vr,e1,h⟩:=h
 subst e1
 cases r with
 | cons r rr =>
   rw [hs]
   refine assignInOrder_cons (thn (h1 pins s σ H _ _ _ I r h) fun _ s1 ⟨σ1,H1,I1,q1⟩=>?_)
   exact h2 pins s1 σ1 H1 _ _ Q I1 rr q1
def gTup (K:PySem.W.Frag) (n:Nat) (t:TGs):TG:=fun v σ H Q=>∃ a xs,v=.ref a∧SqT K H a xs∧xs.length=n∧t xs σ H Q
theorem pg_tup {es:List Expr} {k:Nat} {t:TGs} {n:Nat} (hc:X.calm=true) (h:PGs X es t)
 (hn:(assignEach es X.env).length=n:=by rfl) (hst:(assignEach es X.env).findIdx? (·.1)=none:=by rfl):PG X (.Tuple es k pos) (gTup X.K n t):=by
 intro pins s σ H v u Q I r hw
 obtain ⟨a,xs,e1,hq,hl,hw⟩:=hw
 subst e1
 cases r
 obtain ⟨its,rv,ht,hz⟩:=I.tuple hq
 refine assign_Tuple_tuple (I.ok.hd hc) ht (by simp [hn,←hl,rv.length]) hst fun h' hx=>?_
 have I1:Inv X pins σ H { s with heap:=h' }:=I.kept (t':=s.toks) fun b o e=>hx b o (Nat.ne_of_lt (Heap.lt_size e)) e
 exact h pins _ σ H xs _ Q I1 (by simpa using rv) hw
def gSub (to ti:TE) (t:TSet):TG:=fun v σ H Q=>to σ H fun o H1=>ti σ H1 fun i H2=>t o i v H2 fun H3=>Q σ H3
theorem pg_sub {o i:Expr} {to ti:TE} {t:TSet} (ho:PE X o to) (hi:PE X i ti) (hs:PSet X t)
 (ha:∀ v,assign (.Subscript o i pos) X.env v=(do
  let ov ←holding [v] (eval o X.env)
  let iv ←holding [v,ov] (eval i X.env)
  standAt pos
  holding [v,ov,iv] (setItem ov iv v)
  release [v,ov,iv] []):=by intro _; rfl):PG X (.Subscript o i pos) (gSub to ti t):=by
 intro pins s σ H v u Q I r h
 rw [ha]
 refine wpAny_bind (wpAny_holding (thn (ho pins s σ H _ I h) fun ov s1 ⟨x,H1,I1,r1,q1⟩=>?_))
 refine wpAny_bind (wpAny_holding (thn (hi pins s1 σ H1 _ I1 q1) fun iv s2 ⟨y,H2,I2,r2,q2⟩=>?_))
 refine wpAny_bind (wpAny_standAt (wpAny_bind (wpAny_holding (thn (hs pins s2 σ H2 x y v ov iv u _ I2 r1 r2 r q2) fun _ s3 ⟨H3,I3,q3⟩=>?_))))
 exact wpAny_release ⟨σ,H3,I3,q3⟩
def tAsg (te:TE) (g:TG):TS:=fun D σ H=>te σ H fun x H1=>g x σ H1 D.nx
theorem ps_asg {tg e:Expr} {te:TE} {g:TG} (he:PE X e te) (hg:PG X tg g) (hs:swapsWithSole [tg] e pos.line X.env=pure false:=by rfl) (hw:swappedStores [tg] e X.env=pure none:=by rfl)
 (h1:(assignEach [tg] X.env).map (·.2)=[assign tg X.env]:=by rfl):PS X (.Assign [tg] e pos) (tAsg te g):=by
 intro pins s σ H D I h
 refine wpAny_Assign_stores (thn (he pins s σ H _ I h) fun v s1 ⟨x,H1,I1,r1,q1⟩=>?_) hs hw
 rw [h1]
 exact thn (hg pins s1 σ H1 x v _ I1 r1 q1) fun _ s2 q=>q
theorem ps_set {i:Nat} {x:Str} {e:Expr} {te:TE} {pos':Pos} (hN:X.N.Nodup) (he:PE X e te) (hi:X.N[i]?=some x:=by rfl) (hx:Loc X.env.scope x:=by first | exact .inl rfl | exact .inr rfl) (hs:swapsWith e (some (.Name x pos')) pos.line X.env=pure false:=by rfl) (hf:X.fn x=true∨X.env.scope.names.lookup x=some .local:=by first | exact .inl rfl | exact .inr rfl | assumption) :
 PS X (.Assign [.Name x pos'] e pos) (tAsg te (gName i)):=by
 intro pins s σ H D I h
 refine wpAny_Assign_Name (thn (he pins s σ H _ I h) fun v s1 ⟨y,H1,I1,r1,q1⟩=>?_) hs
 exact store_ok I1 hN hi hx r1 (fun s2 I2=>⟨_,H1,I2,q1⟩) hf
end
section
variable {X:Cx} {pos:Pos}
def tWhile (c:TT) (tb:TS):TS:=fun D σ H=>∃ W:Nat→St→Hp→Prop,(∃ m,W m σ H)∧∀ m σ H,W m σ H →
 c σ H fun b H1=>if b=true then ∃ N:St→Hp→Prop,(∀ σ' H',N σ' H'→∃ m',m' < m∧W m' σ' H')∧tb { D with nx:=N,ct:=N,bk:=D.nx } σ H1 else D.nx σ H1
theorem ps_while {c:Expr} {body:List Stmt} {tc:TT} {tb:TS} (hp:PassesOwn (model X.prog X.w) X.A X.env X.xe) (hc:PT X c tc) (hb:PSs X body tb):PS X (.While c body [] pos) (tWhile tc tb):=by
 intro pins s σ H D I h
 obtain ⟨W,⟨m0,w0⟩,turn⟩:=h
 refine wpAny_While (codeAny_whileLoop (fun n s'=>∃ σ' H',Inv X pins σ' H' s'∧W n σ' H') ?_ m0 ⟨σ,H,I,w0⟩)
 rintro n s1 ⟨σ1,H1,I1,w1⟩
 refine wpAny_passesOwn hp (thn (hc pins s1 σ1 H1 _ I1 (turn n σ1 H1 w1)) fun b s2 ⟨H2,I2,q2⟩=>?_)
 cases b with
 | true =>
   obtain ⟨N,hN,q2⟩:=q2
   rw [if_pos rfl]
   refine wpAny_passesOwn hp (thn (hb pins s2 σ1 H2 _ I2 q2) fun f s3 q3=>?_)
   cases f with
   | next =>
     obtain ⟨σ3,H3,I3,n3⟩:=q3
     obtain ⟨m',hm,w3⟩:=hN σ3 H3 n3
     exact ⟨m',hm,σ3,H3,I3,w3⟩
   | cont =>
     obtain ⟨σ3,H3,I3,n3⟩:=q3
     obtain ⟨m',hm,w3⟩:=hN σ3 H3 n3
     exact ⟨m',hm,σ3,H3,I3,w3⟩
   | brk=>exact q3
   | ret v=>exact q3
 | false =>
   rw [if_neg Bool.false_ne_true]
   exact wpAny_execs_nil ⟨σ1,H2,I2,q2⟩
end
structure It where
 go:Nat→Hp→Prop
 yld:Nat→Hp→V→Hp→Prop
 stop:Nat→Hp→Prop
def FpOk (X:Cx) (pins:List (Addr × Obj)) (H:Hp) (b:Addr):Prop :=
 H b=none∧b≠X.env.locals∧b ∉ X.fs∧(b∈X.ex∨X.s₀.heap.objs.size≤b)∧(∀ x c,X.env.cells.lookup x=some c→c≠b)∧∀ p∈X.pn++pins,p.1≠b
theorem Inv.fpOk {X:Cx} {pins:List (Addr × Obj)} {σ:St} {H H':Hp} {s:Shared} {b:Addr} (I:Inv X pins σ H s) (hb:s.heap.objs.size≤b) (hn:H' b=none):FpOk X pins H' b:=by
 refine ⟨hn,Nat.ne_of_gt (Nat.lt_of_lt_of_le I.lt hb),I.nofs hb,.inr (Nat.le_trans I.sz hb),fun x c e z=>?_,fun p hp z=>?_⟩
 · obtain ⟨v,q⟩:=I.cell x c e
   exact absurd (Nat.lt_of_lt_of_le q.lt (by rw [z]; exact hb)) (Nat.lt_irrefl _)
 · exact absurd (Nat.lt_of_lt_of_le (Heap.lt_size (I.pin p hp).1) (by rw [z]; exact hb)) (Nat.lt_irrefl _)
structure Turn (P:Program) (w:World) (K:PySem.W.Frag) (tg:Expr) (J:It) (fp:List Addr) (it:Addr) (tn:Nat→Heap→Prop):Prop where
 mem:it∈fp
 obj:∀ i h,tn i h→∀ b∈fp,∃ o,h.get? b=some o∧∀ v,o.data≠.cell v
 keep:∀ i h h',tn i h→(∀ b∈fp,∀ o,h.get? b=some o→h'.get? b=some o)→tn i h'
 item:∀ (X:Cx),X.prog=P→X.w=w→X.K=K→X.calm=true→∀ (i:Nat) (pins:List (Addr × Obj)) (s:Shared) (σ:St) (H:Hp) (E:Value→Shared→Prop),Inv X pins σ H s→(∀ b∈fp,FpOk X pins H b)→tn i s.heap→J.go i H →
  wpAny (model P w) X.A (pyNext (.ref it)) (fun r s1=>∃ u,r=some u ∧
   wpAny (model P w) X.A (letOwnedTupleGo tg (.ref it) u) (fun _ s2=>∃ x H',Inv X pins σ H' s2∧RelV x u∧J.yld i H x H'∧tn (i + 1) s2.heap∧∀ b∈fp,H' b=none) E s1) E s
 done:∀ (X:Cx),X.prog=P→X.w=w→X.K=K→X.calm=true→∀ (i:Nat) (pins:List (Addr × Obj)) (s:Shared) (σ:St) (H:Hp) (E:Value→Shared→Prop),Inv X pins σ H s→(∀ b∈fp,FpOk X pins H b)→tn i s.heap→J.stop i H →
  wpAny (model P w) X.A (pyNext (.ref it)) (fun r s1=>r=none∧Inv X pins σ H s1) E s
 self:∀ (A:Around) (i:Nat) (s:Shared) (Q:Value→Shared→Prop) (E:Value→Shared→Prop),tn i s.heap→Q (.ref it) s→wpAny (model P w) A (pyIter (.ref it)) Q E s
abbrev TI:=St→Hp→(It→Hp→Prop)→Prop
def PIE (X:Cx) (pins:List (Addr × Obj)) (σ:St) (tg:Expr) (R:It→Hp→Prop) (itv:Value) (s2:Shared):Prop :=
 ∃ (it:Addr) (fp:List Addr) (tn:Nat→Heap→Prop) (J:It) (H':Hp),itv=.ref it∧Inv X pins σ H' s2∧Turn X.prog X.w X.K tg J fp it tn∧tn 0 s2.heap∧(∀ b∈fp,FpOk X pins H' b)∧R J H'
def PI (X:Cx) (tg iter:Expr) (wi:TI):Prop :=
 ∀ (pins:List (Addr × Obj)) (s:Shared) (σ:St) (H:Hp) (R:It→Hp→Prop),Inv X pins σ H s→wi σ H R →
  wpAny (model X.prog X.w) X.A (eval iter X.env) (fun v s1=>wpAny (model X.prog X.w) X.A (pyIter v) (PIE X pins σ tg R) X.xe s1) X.xe s
theorem go_of {M:Model} {A:Around} {E:Value→Shared→Prop} {s:Shared} {tg:Expr} {it:Addr} {u:Value} {o:Obj} {n:String} {vs:Array Value} {Q:Unit→Shared→Prop} (ho:s.heap.get? it=some o) (hc:o.cls=.type n) (hd:o.data=.fields vs)
 (hn:["enumerate", "zip", "dict_itemiterator", "dict_reverseitemiterator", "odict_iterator", "itertools.zip_longest", "itertools.pairwise"].contains n=false) (hQ:Q () s):wpAny M A (letOwnedTupleGo tg (.ref it) u) Q E s:=by
 unfold letOwnedTupleGo
 cases tg <;> first
  | exact wpAny_pure hQ
  | (cases u <;> first
   | exact wpAny_pure hQ
   | (refine wpAny_bind (wpAny_load ho ?_)
      rw [hc,hd]
      show wpAny M A (if (["enumerate", "zip", "dict_itemiterator", "dict_reverseitemiterator", "odict_iterator", "itertools.zip_longest", "itertools.pairwise"].contains n && vs[0]? == some (rawInt _))=true then _ else _) Q E s
      rw [if_neg (by intro h; rw [hn,Bool.false_and] at h; cases h)]
      exact wpAny_pure hQ))
def Itl (K:PySem.W.Frag) (a:Addr):It :=
 ⟨fun i H=>∃ xs x,SqL K H a xs∧xs[i]?=some x,fun i H x H'=>H'=H∧∀ xs,SqL K H a xs→xs[i]?=some x,fun i H=>∃ xs,SqL K H a xs∧xs.length≤i⟩
def Itr (lo:Int) (n:Nat):It:=⟨fun i _=>i < n,fun i H x H'=>H'=H∧x=.int (lo + i),fun i _=>n≤i⟩
theorem turn_list {P:Program} {w:World} {K:PySem.W.Frag} {tg:Expr} (a it:Addr):Turn P w K tg (Itl K a) [it] it (fun i h=>h.IsListIter it a i) where
 mem:=by simp
 obj:=fun i h st b hb=>by
  have e:b=it:=by simpa using hb
  subst e
  obtain ⟨o,e,c,d⟩:=st
  exact ⟨o,e,fun v z=>by rw [d] at z; cases z⟩
 keep:=fun i h h' st k=>st.at fun o e=>k it (by simp) o e
 item:=by
  intro X hP hw hK hc i pins s σ H E I hf st hg
  subst hP hw hK
  obtain ⟨xs,x,hq,hx⟩:=hg
  obtain ⟨its,rv,p,hz⟩:=I.list hq
  obtain ⟨u,hu,ru⟩:=rv.get hx
  obtain ⟨f0,f1,f2,f3,f4,f5⟩:=hf it (by simp)
  refine wpAny_pyNext_list_item st p.isList (x:=u) (by simpa using hu) fun h' st' sb=>?_
  have I1:Inv X pins σ H { s with heap:=h' }:=I.turned (t':=s.toks) (fun b o hb e=>(sb.2 b hb).trans e) f0 f1 f3 f4 f5
  obtain ⟨o,e,c,d⟩:=id st'
  exact ⟨u,rfl,go_of (s:={ s with heap:=h' }) e c d (by decide) ⟨x,H,I1,ru,⟨rfl,fun ys hy=>by rw [I.list_inj hy hq]; exact hx⟩,st',fun b hb=>(hf b hb).1⟩⟩
 done:=by
  intro X hP hw hK hc i pins s σ H E I hf st hg
  subst hP hw hK
  obtain ⟨xs,hq,hx⟩:=hg
  obtain ⟨its,rv,p,hz⟩:=I.list hq
  obtain ⟨f0,f1,f2,f3,f4,f5⟩:=hf it (by simp)
  have hl:=rv.length
  exact wpAny_pyNext_list_end (I.ok.hd hc) st p.isList (by simp; omega) fun h' eb=>⟨rfl,I.turned (t':=s.toks) (fun b o hb e=>eb b o hb e) f0 f1 f3 f4 f5⟩
 self:=fun _ _ _ _ _ st h=>wpAny_pyIter_listiter st h
theorem turn_range {P:Program} {w:World} {K:PySem.W.Frag} {tg:Expr} (it:Addr) (lo:Int) (n:Nat):Turn P w K tg (Itr lo n) [it] it (fun i h=>IsRangeIter h it (lo + (i:Nat) * 1) ((n:Int) - (i:Nat)) 1) where
 mem:=by simp
 obj:=fun i h st b hb=>by
  have e:b=it:=by simpa using hb
  subst e
  exact ⟨_,st,fun v z=>by
   have z':Data.fields _=Data.cell v:=z
   cases z'⟩
 keep:=fun i h h' st k=>k it (by simp) _ st
 item:=by
  intro X hP hw hK hc i pins s σ H E I hf st hg
  subst hP hw hK
  obtain ⟨f0,f1,f2,f3,f4,f5⟩:=hf it (by simp)
  have W:=Walks.range (prog:=X.prog) (w:=X.w) (I.ok.hd hc) it lo 1 n
  refine W.item i s _ _ hg st fun v h' tk hv st' kk=>?_
  obtain ⟨t,rfl⟩:=hv
  have I1:Inv X pins σ H { s with heap:=h',toks:=tk }:=I.turned (fun b o hb e=>kk b o (by simpa using hb) e) f0 f1 f3 f4 f5
  refine ⟨_,rfl,go_of (s:={ s with heap:=h',toks:=tk }) (n := "range_iterator") st' rfl rfl (by decide) ⟨.int (lo + i),H,I1,⟨t,?_⟩,⟨rfl,rfl⟩,st',fun b hb=>(hf b hb).1⟩⟩
  rw [Int.mul_one]
 done:=by
  intro X hP hw hK hc i pins s σ H E I hf st hg
  subst hP hw hK
  obtain ⟨f0,f1,f2,f3,f4,f5⟩:=hf it (by simp)
  exact wpAny_pyNext_range_end (I.ok.hd hc) st (by have:n≤i:=hg; omega) fun h' eb=>⟨rfl,I.turned (t':=s.toks) (fun b o hb e=>eb b o hb e) f0 f1 f3 f4 f5⟩
 self:=fun _ _ _ _ _ st h=>wpAny_pyIter_rangeiter st h
end L2
namespace L2
open PySem PySem.Spec PyProof.Rows
section
variable {X:Cx} {tg:Expr}
def iList (K:PySem.W.Frag) (tl:TE):TI:=fun σ H R=>tl σ H fun x H1=>∃ a,x=.ref a∧(∃ xs,SqL K H1 a xs)∧R (Itl K a) H1
theorem pi_list {l:Expr} {tl:TE} (hl:PE X l tl):PI X tg l (iList X.K tl):=by
 intro pins s σ H R I h
 refine thn (hl pins s σ H _ I h) fun v s1 ⟨x,H1,I1,r1,q1⟩=>?_
 obtain ⟨a,e,⟨xs,hq⟩,q⟩:=q1
 subst e
 cases r1
 obtain ⟨its,rv,p,hz⟩:=I1.list hq
 refine wpAny_pyIter_list p.isList ?_
 refine ⟨s1.heap.objs.size,[s1.heap.objs.size],_,_,H1,rfl,I1.kept (t':=s1.toks) fun b o e=>Heap.get?_push_of_some _ e,turn_list a _,⟨_,Heap.get?_push_size _ rfl,rfl,rfl⟩,fun b hb=>?_,q⟩
 have e:b=s1.heap.objs.size:=by simpa using hb
 subst e
 exact I1.fpOk (Nat.le_refl _) (I1.hok.fresh (Nat.le_refl _))
theorem range_it {pins:List (Addr × Obj)} {σ:St} {H:Hp} {s:Shared} {R:It→Hp→Prop} {E:Value→Shared→Prop} {lo hi:Int} {t u v:Tok} {tk:Nat} (I:Inv X pins σ H s) (h1:-(2 ^ 62)≤lo) (h2:lo < 2 ^ 62) (h3:-(2 ^ 62)≤hi) (h4:hi < 2 ^ 62)
 (q:R (Itr lo (hi - lo).toNat) H):wpAny (model X.prog X.w) X.A (pyIter (.ref s.heap.objs.size)) (PIE X pins σ tg R) E { s with heap:=s.heap.push { cls:=.type "range",data:=.fields #[.int lo t,.int hi u,.int 1 v] },toks:=tk }:=by
 refine wpAny_pyIter_range (IsRange.new ..) (small_one h1 h2 h3 h4) ?_
 have I1:Inv X pins σ H { s with heap:=s.heap.push { cls:=.type "range",data:=.fields #[.int lo t,.int hi u,.int 1 v] },toks:=tk }:=I.kept fun b o e=>Heap.get?_push_of_some _ e
 refine ⟨(s.heap.push { cls:=.type "range",data:=.fields #[.int lo t,.int hi u,.int 1 v] }).objs.size,[(s.heap.push { cls:=.type "range",data:=.fields #[.int lo t,.int hi u,.int 1 v] }).objs.size],_,_,H,rfl,
  I1.kept (t':=tk) fun b o e=>Heap.get?_push_of_some _ e,turn_range _ lo (hi - lo).toNat,?_,fun b hb=>?_,q⟩
 · have e1:lo + ((0:Nat):Int) * 1=lo:=by simp
   have e2:(((hi - lo).toNat:Nat):Int) - ((0:Nat):Int)=Builtin.Range.rangeSize lo hi 1:=by rw [rangeSize_one]; split <;> omega
   show IsRangeIter _ _ (lo + ((0:Nat):Int) * 1) ((((hi - lo).toNat:Nat):Int) - ((0:Nat):Int)) 1
   rw [e1,e2]
   exact Heap.get?_push_size _ rfl
 · have e:b=(s.heap.push { cls:=.type "range",data:=.fields #[.int lo t,.int hi u,.int 1 v] }).objs.size:=by simpa using hb
   subst e
   exact I1.fpOk (Nat.le_refl _) (I1.hok.fresh (Nat.le_refl _))
def iRng1 (ta:TA):TI:=fun σ H R=>ta σ H fun vs H1=>∃ j:Int,vs=[.int j]∧-(2 ^ 62)≤j∧j < 2 ^ 62∧R (Itr 0 j.toNat) H1
theorem pi_range1 {a:Expr} {ta:TA} {p pos:Pos} (hg:Gl X "range") (hm:X.mg "range" = none) (ha:PA X [a] ta) (hs:starEach [a] X.env=[(false,eval a X.env)]:=by rfl):PI X tg (.Call (.Name "range" p) [a] [] pos) (iRng1 ta):=by
 intro pins s σ H R I h
 refine Call_ (ld_blt I hg hm boot_range (PyProof.Rows.callWith_type1 (thn (ha pos pins s σ H _ I h) fun us s1 ⟨vs,H1,I1,r1,q1⟩=>?_) hs rfl))
 obtain ⟨j,e,q1,q2,q⟩:=q1
 subst e
 cases r1 with
 | cons r rr =>
   cases rr
   obtain ⟨t,rfl⟩:=r
   exact call_range_1 (range_it I1 (by omega) (by omega) q1 q2 (by simpa using q))
def Loop (J:It) (g:TG) (tb:TS) (D:Ends) (σ:St) (H1:Hp):Prop:=∃ W:Nat→Nat→St→Hp→Prop,(∃ m,W 0 m σ H1)∧∀ i m σ H,W i m σ H →
 (J.stop i H∧D.nx σ H)∨(J.go i H∧∃ N:St→Hp→Prop,(∀ σ' H',N σ' H'→∃ m',m' < m∧W (i + 1) m' σ' H')∧∀ x H',J.yld i H x H'→g x σ H' fun σ2 H2=>tb { D with nx:=N,ct:=N,bk:=D.nx } σ2 H2)
def tFor (wi:TI) (g:TG) (tb:TS):TS:=fun D σ H=>wi σ H fun J H1=>Loop J g tb D σ H1
def pinsAt (fp:List Addr) (h:Heap):List (Addr × Obj):=fp.filterMap fun b=>(h.get? b).map fun o=>(b,o)
theorem mem_pinsAt {fp:List Addr} {h:Heap} {b:Addr} {o:Obj} (hb:b∈fp) (e:h.get? b=some o):(b,o)∈pinsAt fp h:=List.mem_filterMap.mpr ⟨b,hb,by rw [e]; rfl⟩
theorem of_pinsAt {fp:List Addr} {h:Heap} {p:Addr × Obj} (hp:p∈pinsAt fp h):p.1∈fp∧h.get? p.1=some p.2:=by
 obtain ⟨b,hb,e⟩:=List.mem_filterMap.mp hp
 cases q:h.get? b with
 | none=>rw [q] at e; cases e
 | some o =>
   rw [q] at e
   have e':(b,o)=p:=Option.some.inj e
   subst e'
   exact ⟨hb,q⟩
theorem Inv.pinned {pins:List (Addr × Obj)} {σ:St} {H:Hp} {s:Shared} {fp:List Addr} (I:Inv X pins σ H s) (hf:∀ b∈fp,FpOk X pins H b) (ho:∀ b∈fp,∃ o,s.heap.get? b=some o∧∀ v,o.data≠.cell v):Inv X (pins++pinsAt fp s.heap) σ H s :=
 I.pins_of fun p hp=>(List.mem_append.mp hp).elim (fun z=>I.pin p (List.mem_append_right _ z)) fun z=>by
  obtain ⟨hb,e⟩:=of_pinsAt z
  obtain ⟨f0,f1,f2,_⟩:=hf p.1 hb
  obtain ⟨o,e',d⟩:=ho p.1 hb
  rw [e] at e'; cases e'
  exact ⟨e,f0,f1,f2,d⟩
theorem Inv.unpinned {pins pl:List (Addr × Obj)} {σ:St} {H:Hp} {s:Shared} (I:Inv X (pins++pl) σ H s):Inv X pins σ H s:=I.pins_of fun p hp=>I.pin p (List.mem_append_right _ (List.mem_append_left _ hp))
theorem ps_for {iter:Expr} {body:List Stmt} {wi:TI} {g:TG} {tb:TS} {pos:Pos} (hp:PassesOwn (model X.prog X.w) X.A X.env X.xe) (hc:X.calm=true) (hi:PI X tg iter wi) (hg:PG X tg g) (hb:PSs X body tb)
 (hs:∀ x,foldedSetIterable iter X.env x=pure x:=by intro _; rfl):PS X (.For tg iter body [] pos) (tFor wi g tb):=by
 intro pins s σ H D I h
 refine wpAny_For (thn (hi pins s σ H _ I h) fun v s1 h1=>thn h1 fun itv s2 h2=>?_) hs
 obtain ⟨it,fp,tn,J,H2,e,I2,T,st2,f2,W,⟨m0,w0⟩,turn⟩:=h2
 subst e
 have stat:∀ {H':Hp},(∀ b∈fp,H' b=none)→∀ b∈fp,FpOk X pins H' b:=fun hn b hb=>⟨hn b hb,(f2 b hb).2⟩
 refine codeAny_forLoop_any (fun n s'=>∃ i σ' H',Inv X pins σ' H' s'∧tn i s'.heap∧(∀ b∈fp,H' b=none)∧W i n σ' H') ?_ m0 ⟨0,σ,H2,I2,st2,fun b hb=>(f2 b hb).1,w0⟩
 rintro n s3 ⟨i,σ3,H3,I3,st3,fr3,w3⟩
 rcases turn i n σ3 H3 w3 with ⟨stop,qn⟩ | ⟨go,N,hN,step⟩
 · refine wpAny_passesOwn hp (thn (T.done X rfl rfl rfl hc i pins s3 σ3 H3 X.xe I3 (stat fr3) st3 stop) fun r s4 ⟨hr,I4⟩=>?_)
   subst hr
   exact wpAny_execs_nil ⟨σ3,H3,I4,qn⟩
 · refine wpAny_passesOwn hp (thn (T.item X rfl rfl rfl hc i pins s3 σ3 H3 X.xe I3 (stat fr3) st3 go) fun r s4 ⟨u,hr,h4⟩=>?_)
   subst hr
   refine wpAny_passesOwn hp (thn h4 fun _ s5 ⟨x,H5,I5,r5,y5,st5,fr5⟩=>?_)
   have I5':=I5.pinned (stat fr5) (T.obj _ _ st5)
   refine wpAny_passesOwn hp (thn (hg _ s5 σ3 H5 x u _ I5' r5 (step x H5 y5)) fun _ s6 ⟨σ6,H6,I6,q6⟩=>?_)
   refine wpAny_passesOwn hp (thn (hb _ s6 σ6 H6 _ I6 q6) fun f s7 q7=>?_)
   have again:∀ {σ7:St} {H7:Hp},Inv X (pins++pinsAt fp s5.heap) σ7 H7 s7→N σ7 H7→∃ m,m < n∧∃ i σ' H',Inv X pins σ' H' s7∧tn i s7.heap∧(∀ b∈fp,H' b=none)∧W i m σ' H':=fun {σ7 H7} I7 n7=>by
    obtain ⟨m',hm,w7⟩:=hN σ7 H7 n7
    refine ⟨m',hm,i + 1,σ7,H7,I7.unpinned,T.keep _ _ _ st5 fun b hb o e=>(I7.pin (b,o) (List.mem_append_right _ (List.mem_append_right _ (mem_pinsAt hb e)))).1,fun b hb=>?_,w7⟩
    obtain ⟨o,e,d⟩:=T.obj _ _ st5 b hb
    exact (I7.pin (b,o) (List.mem_append_right _ (List.mem_append_right _ (mem_pinsAt hb e)))).2.1
   cases f with
   | next=>obtain ⟨σ7,H7,I7,n7⟩:=q7; exact again I7 n7
   | cont=>obtain ⟨σ7,H7,I7,n7⟩:=q7; exact again I7 n7
   | brk=>obtain ⟨σ7,H7,I7,q7⟩:=q7; exact ⟨σ7,H7,I7.unpinned,q7⟩
   | ret v=>obtain ⟨x7,σ7,H7,I7,r7,q7⟩:=q7; exact ⟨x7,σ7,H7,I7.unpinned,r7,q7⟩
end
theorem for_turns {J:It} {g:TG} {tb:TS} {D:Ends} {σ:St} {H:Hp} (n:Nat) (Pv:Nat→St→Hp→Prop) (h0:Pv 0 σ H) (go:∀ i σ H,Pv i σ H→i < n→J.go i H) (stop:∀ σ H,Pv n σ H→J.stop n H)
 (hs:∀ i v σ H H',Pv i σ H→i < n→J.yld i H v H'→g v σ H' fun σ2 H2=>tb { D with nx:=Pv (i + 1),ct:=Pv (i + 1),bk:=D.nx } σ2 H2) (hd:∀ σ H,Pv n σ H→D.nx σ H):Loop J g tb D σ H:=by
 unfold Loop
 refine ⟨fun i m σ H=>m=n - i∧i≤n∧Pv i σ H,⟨_,rfl,Nat.zero_le _,h0⟩,?_⟩
 rintro i m σ H ⟨rfl,hi,p⟩
 by_cases hlt:i < n
 · exact .inr ⟨go i σ H p hlt,Pv (i + 1),fun σ' H' p'=>⟨n - (i + 1),by omega,rfl,hlt,p'⟩,fun v H' y=>hs i v σ H H' p hlt y⟩
 · obtain rfl:i=n:=by omega
   exact .inl ⟨stop σ H p,hd σ H p⟩
theorem for_list {K:PySem.W.Frag} {a:Addr} {xs:List V} {g:TG} {tb:TS} {D:Ends} {σ:St} {H:Hp} (Pv:Nat→St→Hp→Prop) (h0:Pv 0 σ H) (hl:∀ i σ H,i≤xs.length→Pv i σ H→SqL K H a xs)
 (hs:∀ i x σ H,xs[i]?=some x→Pv i σ H→g x σ H fun σ2 H2=>tb { D with nx:=Pv (i + 1),ct:=Pv (i + 1),bk:=D.nx } σ2 H2) (hd:∀ σ H,Pv xs.length σ H→D.nx σ H):Loop (Itl K a) g tb D σ H:=for_turns xs.length Pv h0 (fun i σ H p hi=>⟨xs,xs[i],hl i σ H (Nat.le_of_lt hi) p,by simp [hi]⟩) (fun σ H p=>⟨xs,hl _ σ H (Nat.le_refl _) p,Nat.le_refl _⟩) (fun i v σ H H' p hi y=>by obtain ⟨rfl,y⟩:=y; exact hs i v σ _ (y xs (hl i σ _ (Nat.le_of_lt hi) p)) p) hd
theorem for_range {lo:Int} {n:Nat} {g:TG} {tb:TS} {D:Ends} {σ:St} {H:Hp} (Pv:Nat→St→Hp→Prop) (h0:Pv 0 σ H)
 (hs:∀ i σ H,i < n→Pv i σ H→g (.int (lo + i)) σ H fun σ2 H2=>tb { D with nx:=Pv (i + 1),ct:=Pv (i + 1),bk:=D.nx } σ2 H2) (hd:∀ σ H,Pv n σ H→D.nx σ H):Loop (Itr lo n) g tb D σ H:=for_turns n Pv h0 (fun i σ H p hi=>hi) (fun σ H p=>Nat.le_refl _) (fun i v σ H H' p hi y=>by obtain ⟨rfl,rfl⟩:=y; exact hs i σ _ hi p) hd
end L2
namespace L2
open PySem PySem.Spec PyProof.Rows
abbrev R2:=V→V→Hp→VK→Prop
def OpR (X:Cx) (f:Value→Value→Sem Value) (r:R2):Prop :=
 ∀ (pins:List (Addr × Obj)) (s:Shared) (σ:St) (H:Hp) (x y:V) (v u:Value) (Q:VK),Inv X pins σ H s→RelV x v→RelV y u→r x y H Q →
  wpAny (model X.prog X.w) X.A (f v u) (EP X pins σ Q) X.xe s
def UnR (X:Cx) (f:Value→Sem Value) (r:V→Hp→VK→Prop):Prop :=
 ∀ (pins:List (Addr × Obj)) (s:Shared) (σ:St) (H:Hp) (x:V) (v:Value) (Q:VK),Inv X pins σ H s→RelV x v→r x H Q →
  wpAny (model X.prog X.w) X.A (f v) (EP X pins σ Q) X.xe s
def CallR (X:Cx) (f:Value) (r:List V→Hp→VK→Prop):Prop :=
 ∀ (pins:List (Addr × Obj)) (s:Shared) (σ:St) (H:Hp) (xs:List V) (us:List Value) (Q:VK),Inv X pins σ H s→Vals xs us→r xs H Q →
  wpAny (model X.prog X.w) X.A (call f us) (EP X pins σ Q) X.xe s
def tOp (r:R2) (ta tb:TE):TE:=fun σ H Q=>ta σ H fun x H1=>tb σ H1 fun y H2=>r x y H2 Q
def tUn (r:V→Hp→VK→Prop) (ta:TE):TE:=fun σ H Q=>ta σ H fun x H1=>r x H1 Q
def rI (C:Int→Int→Prop) (g:Int→Int→V):R2:=fun x y H Q=>∃ i j,x=.int i∧y=.int j∧C i j∧Q (g i j) H
def rI0 (g:Int→Int→V):R2:=fun x y H Q=>∃ i j,x=.int i∧y=.int j∧Q (g i j) H
def rU (g:Int→V):V→Hp→VK→Prop:=fun x H Q=>∃ i,x=.int i∧Q (g i) H
section
variable {X:Cx} {a b c:Expr} {ta tb tc:TE} {pos:Pos}
theorem binT (ha:PE X a ta) (hb:PE X b tb) {pins:List (Addr × Obj)} {s:Shared} {σ:St} {H:Hp} {R:V→V→Hp→Prop} (I:Inv X pins σ H s)
 (h:ta σ H fun x H1=>tb σ H1 fun y H2=>R x y H2) {Q:Value→Shared→Prop} {f:Value→Value→Sem Value}
 (hf:∀ v u s2 x y H2,Inv X pins σ H2 s2→RelV x v→RelV y u→R x y H2→wpAny (model X.prog X.w) X.A (f v u) Q X.xe s2) :
 wpAny (model X.prog X.w) X.A (eval a X.env) (fun v s₁=>wpAny (model X.prog X.w) X.A (eval b X.env) (fun u s₂=>wpAny (model X.prog X.w) X.A (f v u) Q X.xe s₂) X.xe s₁) X.xe s:=by
 refine thn (ha pins s σ H _ I h) fun v s1 ⟨x,H1,I1,r1,q1⟩=>?_
 refine thn (hb pins s1 σ H1 _ I1 q1) fun u s2 ⟨y,H2,I2,r2,q2⟩=>?_
 exact hf v u s2 x y H2 I2 r1 r2 q2
theorem pe_op {op:Operator} {r:R2} (ho:OpR X (binaryOp op) r) (ha:PE X a ta) (hb:PE X b tb):PE X (.BinOp a op b pos) (tOp r ta tb):=by
 intro pins s σ H Q I h
 exact wpAny_BinOp (binT ha hb I h fun v u s2 x y H2 I2 rx ry q=>ho pins s2 σ H2 x y v u Q I2 rx ry q)
theorem pe_un {op:UnaryOp} {r:V→Hp→VK→Prop} (ho:UnR X (unaryOp op) r) (ha:PE X a ta):PE X (.UnaryOp op a pos) (tUn r ta):=by
 intro pins s σ H Q I h
 exact UnaryOp_ (thn (ha pins s σ H _ I h) fun v s1 ⟨x,H1,I1,r1,q1⟩=>ho pins s1 σ H1 x v Q I1 r1 q1)
theorem opI {f:Value→Value→Sem Value} {C:Int→Int→Prop} {g:Int→Int→Int}
 (rule:∀ (i j:Int) (t u:Tok) (s:Shared) (Q:Value→Shared→Prop) (E:Value→Shared→Prop),C i j→Q (.int (g i j) s.toks) { s with toks:=s.toks + 1 }→wpAny (model X.prog X.w) X.A (f (.int i t) (.int j u)) Q E s) :
 OpR X f (rI C fun i j=>.int (g i j)):=by
 intro pins s σ H x y v u Q I rx ry h
 obtain ⟨i,j,rfl,rfl,hc,q⟩:=h
 obtain ⟨t,rfl⟩:=rx
 obtain ⟨t',rfl⟩:=ry
 exact rule i j t t' s _ _ hc ⟨.int (g i j),H,I.tok _,⟨_,rfl⟩,q⟩
theorem opI0 {f:Value→Value→Sem Value} {g:Int→Int→Int}
 (rule:∀ (i j:Int) (t u:Tok) (s:Shared) (Q:Value→Shared→Prop) (E:Value→Shared→Prop),Q (.int (g i j) s.toks) { s with toks:=s.toks + 1 }→wpAny (model X.prog X.w) X.A (f (.int i t) (.int j u)) Q E s) :
 OpR X f (rI0 fun i j=>.int (g i j)):=by
 intro pins s σ H x y v u Q I rx ry h
 obtain ⟨i,j,rfl,rfl,q⟩:=h
 obtain ⟨t,rfl⟩:=rx
 obtain ⟨t',rfl⟩:=ry
 exact rule i j t t' s _ _ ⟨.int (g i j),H,I.tok _,⟨_,rfl⟩,q⟩
theorem opB0 {f:Value→Value→Sem Value} {g:Int→Int→Bool}
 (rule:∀ (i j:Int) (t u:Tok) (s:Shared) (Q:Value→Shared→Prop) (E:Value→Shared→Prop),Q (.bool (g i j)) s→wpAny (model X.prog X.w) X.A (f (.int i t) (.int j u)) Q E s) :
 OpR X f (rI0 fun i j=>.bl (g i j)):=by
 intro pins s σ H x y v u Q I rx ry h
 obtain ⟨i,j,rfl,rfl,q⟩:=h
 obtain ⟨t,rfl⟩:=rx
 obtain ⟨t',rfl⟩:=ry
 exact rule i j t t' s _ _ ⟨.bl (g i j),H,I,rfl,q⟩
def CDiv (i j:Int):Prop:=0 < j∧j < 1073741824
def CPow (i j:Int):Prop:=0≤j∧j≤1000000∧i.natAbs < 2 ^ 64
def CMul (i j:Int):Prop:=(-(2 ^ 64) < i∧i < 2 ^ 64)∨(-(2 ^ 64) < j∧j < 2 ^ 64)
theorem CMul.ok {i j:Int} (h:CMul i j):IntMulOk i j:=by
 rcases h with ⟨h1,h2⟩ | ⟨h1,h2⟩
 · exact .of_left (intBits_le_64 h1 h2)
 · exact .of_right (intBits_le_64 h1 h2)
theorem op_add:OpR X (binaryOp .Add) (rI0 fun i j=>.int (i + j)):=opI0 fun _ _ _ _ _ _ _ q=>add_int q
theorem op_sub:OpR X (binaryOp .Sub) (rI0 fun i j=>.int (i - j)):=opI0 fun _ _ _ _ _ _ _ q=>sub_int q
theorem op_mul:OpR X (binaryOp .Mult) (rI CMul fun i j=>.int (i * j)):=opI fun _ _ _ _ _ _ _ hc q=>mul_int q hc.ok
theorem op_fdiv:OpR X (binaryOp .FloorDiv) (rI CDiv fun i j=>.int (i / j)):=opI fun i j _ _ _ _ _ hc q=>by
 have h1:(0:Int) < j:=hc.1
 have h2:j < 1073741824:=hc.2
 exact floordiv_int (by omega) (by rw [Int.fdiv_eq_ediv_of_nonneg i (by omega)]; exact q) (.inl (PyProof.noPylong_small (by omega)))
theorem op_mod:OpR X (binaryOp .Mod) (rI (fun _ j=>0 < j) fun i j=>.int (i % j)):=opI fun i j _ _ _ _ _ hc q=>by
 have h1:(0:Int) < j:=hc
 exact mod_int' (by omega) (by rw [Int.fmod_eq_emod_of_nonneg i (by omega)]; exact q)
theorem op_pow:OpR X (binaryOp .Pow) (rI CPow fun i j=>.int (i ^ j.toNat)):=opI fun _ _ _ _ _ _ _ hc q=>pow_int_small hc.1 hc.2.1 hc.2.2 q
theorem unI {f:Value→Sem Value} {g:Int→Int}
 (rule:∀ (i:Int) (t:Tok) (s:Shared) (Q:Value→Shared→Prop) (E:Value→Shared→Prop),Q (.int (g i) s.toks) { s with toks:=s.toks + 1 }→wpAny (model X.prog X.w) X.A (f (.int i t)) Q E s) :
 UnR X f (rU fun i=>.int (g i)):=by
 intro pins s σ H x v Q I rx h
 obtain ⟨i,rfl,q⟩:=h
 obtain ⟨t,rfl⟩:=rx
 exact rule i t s _ _ ⟨.int (g i),H,I.tok _,⟨_,rfl⟩,q⟩
theorem un_neg:UnR X (unaryOp .USub) (rU fun i=>.int (-i)):=unI fun _ _ _ _ _ q=>neg_int q
end
def scal:V→V→Bool
 | .non,.non=>true | .non,.int _=>true | .int _,.non=>true | .non,.bl _=>true | .bl _,.non=>true | .non,.str _=>true | .str _,.non=>true
 | .int _,.int _=>true | .bl _,.bl _=>true | .str _,.str _=>true | .byt _,.byt _=>true
 | .int _,.str _=>true | .str _,.int _=>true | .bl _,.str _=>true | .str _,.bl _=>true
 | _,_=>false
def rEq:R2:=fun x y H Q=>scal x y=true∧Q (.bl (decide (x=y))) H
def rNe:R2:=fun x y H Q=>scal x y=true∧Q (.bl (!decide (x=y))) H
theorem dec_int {i j:Int}:decide (V.int i=V.int j)=(i == j):=by
 rw [Bool.eq_iff_iff]
 simp
theorem dec_bl {i j:Bool}:decide (V.bl i=V.bl j)=(i == j):=by
 rw [Bool.eq_iff_iff]
 simp
theorem dec_str {i j:Str}:decide (V.str i=V.str j)=(i == j):=by
 rw [Bool.eq_iff_iff]
 simp
theorem dec_byt {i j:Array UInt8}:decide (V.byt i=V.byt j)=(i.toList == j.toList):=by
 rw [Bool.eq_iff_iff]
 cases i
 cases j
 simp
section
variable {X:Cx} {a b c:Expr} {ta tb tc:TE} {pos:Pos}
theorem fin_bl {pins:List (Addr × Obj)} {σ:St} {H:Hp} {s:Shared} {Q:VK} {k k':Bool} (I:Inv X pins σ H s) (q:Q (.bl k) H) (e:k=k'):EP X pins σ Q (.bool k') s:=by
 subst e
 exact ⟨.bl k,H,I,rfl,q⟩
theorem op_eq:OpR X (compareOp .Eq) rEq:=by
 intro pins s σ H x y v u Q I rx ry h
 obtain ⟨hs,q⟩:=h
 cases x with
 | non =>
   cases rx
   cases y with
   | non=>cases ry; exact PySem.EqNone.eq_none_none (fin_bl I q (by simp))
   | bl j=>cases ry; exact PySem.EqNone.eq_none_bool (fin_bl I q (by simp))
   | int j=>obtain ⟨t',rfl⟩:=ry; exact PySem.EqNone.eq_none_int (fin_bl I q (by simp))
   | str j=>obtain ⟨t',rfl⟩:=ry; exact PySem.EqNone.eq_none_str (fin_bl I q (by simp))
   | _=>exact absurd (show false=true from hs) Bool.false_ne_true
 | bl i =>
   cases rx
   cases y with
   | non=>cases ry; exact PySem.EqNone.eq_bool_none (fin_bl I q (by simp))
   | bl j=>cases ry; exact eq_bool (fin_bl I q dec_bl)
   | str j=>obtain ⟨t',rfl⟩:=ry; exact PySem.EqMixed.eq_bool_str (fin_bl I q (by simp))
   | _=>exact absurd (show false=true from hs) Bool.false_ne_true
 | int i =>
   obtain ⟨t,rfl⟩:=rx
   cases y with
   | non=>cases ry; exact PySem.EqNone.eq_int_none (fin_bl I q (by simp))
   | int j=>obtain ⟨t',rfl⟩:=ry; exact eq_int (fin_bl I q dec_int)
   | str j=>obtain ⟨t',rfl⟩:=ry; exact PySem.EqMixed.eq_int_str (fin_bl I q (by simp))
   | _=>exact absurd (show false=true from hs) Bool.false_ne_true
 | str i =>
   obtain ⟨t,rfl⟩:=rx
   cases y with
   | non=>cases ry; exact PySem.EqNone.eq_str_none (fin_bl I q (by simp))
   | bl j=>cases ry; exact PySem.EqMixed.eq_str_bool (fin_bl I q (by simp))
   | int j=>obtain ⟨t',rfl⟩:=ry; exact PySem.EqMixed.eq_str_int (fin_bl I q (by simp))
   | str j=>obtain ⟨t',rfl⟩:=ry; exact eq_str (fin_bl I q dec_str)
   | _=>exact absurd (show false=true from hs) Bool.false_ne_true
 | byt i =>
   obtain ⟨t,rfl⟩:=rx
   cases y with
   | byt j=>obtain ⟨t',rfl⟩:=ry; exact PySem.W.eq_bytes (fin_bl I q dec_byt)
   | _=>exact absurd (show false=true from hs) Bool.false_ne_true
 | _=>cases y <;> exact absurd (show false=true from hs) Bool.false_ne_true
theorem op_ne:OpR X (compareOp .NotEq) rNe:=by
 intro pins s σ H x y v u Q I rx ry h
 obtain ⟨hs,q⟩:=h
 cases x with
 | non =>
   cases rx
   cases y with
   | non=>cases ry; exact PySem.EqNone.ne_none_none (fin_bl I q (by simp))
   | bl j=>cases ry; exact PySem.EqNone.ne_none_bool (fin_bl I q (by simp))
   | int j=>obtain ⟨t',rfl⟩:=ry; exact PySem.EqNone.ne_none_int (fin_bl I q (by simp))
   | str j=>obtain ⟨t',rfl⟩:=ry; exact PySem.EqNone.ne_none_str (fin_bl I q (by simp))
   | _=>exact absurd (show false=true from hs) Bool.false_ne_true
 | bl i =>
   cases rx
   cases y with
   | non=>cases ry; exact PySem.EqNone.ne_bool_none (fin_bl I q (by simp))
   | bl j=>cases ry; exact ne_bool (fin_bl I q (congrArg not dec_bl))
   | str j=>obtain ⟨t',rfl⟩:=ry; exact PySem.EqMixed.ne_bool_str (fin_bl I q (by simp))
   | _=>exact absurd (show false=true from hs) Bool.false_ne_true
 | int i =>
   obtain ⟨t,rfl⟩:=rx
   cases y with
   | non=>cases ry; exact PySem.EqNone.ne_int_none (fin_bl I q (by simp))
   | int j=>obtain ⟨t',rfl⟩:=ry; exact ne_int (fin_bl I q (congrArg not dec_int))
   | str j=>obtain ⟨t',rfl⟩:=ry; exact PySem.EqMixed.ne_int_str (fin_bl I q (by simp))
   | _=>exact absurd (show false=true from hs) Bool.false_ne_true
 | str i =>
   obtain ⟨t,rfl⟩:=rx
   cases y with
   | non=>cases ry; exact PySem.EqNone.ne_str_none (fin_bl I q (by simp))
   | bl j=>cases ry; exact PySem.EqMixed.ne_str_bool (fin_bl I q (by simp))
   | int j=>obtain ⟨t',rfl⟩:=ry; exact PySem.EqMixed.ne_str_int (fin_bl I q (by simp))
   | str j=>obtain ⟨t',rfl⟩:=ry; exact ne_str (fin_bl I q (congrArg not dec_str))
   | _=>exact absurd (show false=true from hs) Bool.false_ne_true
 | byt i =>
   obtain ⟨t,rfl⟩:=rx
   cases y with
   | byt j=>obtain ⟨t',rfl⟩:=ry; exact PySem.W.ne_bytes (fin_bl I q (congrArg not dec_byt))
   | _=>exact absurd (show false=true from hs) Bool.false_ne_true
 | _=>cases y <;> exact absurd (show false=true from hs) Bool.false_ne_true
theorem op_lt:OpR X (compareOp .Lt) (rI0 fun i j=>.bl (decide (i < j))):=opB0 fun _ _ _ _ _ _ _ q=>lt_int q
theorem op_le:OpR X (compareOp .LtE) (rI0 fun i j=>.bl (decide (i≤j))):=opB0 fun _ _ _ _ _ _ _ q=>le_int q
theorem op_gt:OpR X (compareOp .Gt) (rI0 fun i j=>.bl (decide (j < i))):=opB0 fun _ _ _ _ _ _ _ q=>gt_int q
theorem nomark (b:Expr) {op:CmpOp} (h:op≠.In:=by decide) (h2:op≠.NotIn:=by decide):behindInMarks op b=false:=by
 have e1:(op == CmpOp.In)=false:=by cases op <;> first | rfl | exact absurd rfl h
 have e2:(op == CmpOp.NotIn)=false:=by cases op <;> first | rfl | exact absurd rfl h2
 cases b <;> simp [behindInMarks,e1,e2]
theorem pe_cmpR {op:CmpOp} {r:R2} (ho:OpR X (compareOp op) r) (ha:PE X a ta) (hb:PE X b tb) (hm:behindInMarks op b=false):PE X (.Compare a [op] [b] pos) (tOp r ta tb):=by
 intro pins s σ H Q I h
 exact wpAny_Compare1 (binT ha hb I h fun v u s2 x y H2 I2 rx ry q=>ho pins s2 σ H2 x y v u Q I2 rx ry q) hm
def tTest (t:TE):TT:=fun σ H Q=>t σ H fun x H'=>∃ k,x=.bl k∧Q k H'
theorem pt_cmpR {op:CmpOp} {r:R2} (ho:OpR X (compareOp op) r) (ha:PE X a ta) (hb:PE X b tb) (hm:behindInMarks op b=false):PT X (.Compare a [op] [b] pos) (tTest (tOp r ta tb)):=by
 intro pins s σ H Q I h
 refine wpAny_isTrue_Compare1 (thn (ha pins s σ H _ I h) fun v s1 ⟨x,H1,I1,r1,q1⟩=>thn (hb pins s1 σ H1 _ I1 q1) fun u s2 ⟨y,H2,I2,r2,q2⟩ =>
  thn (ho pins s2 σ H2 x y v u _ I2 r1 r2 q2) fun c s3 ⟨z,H3,I3,r3,k,e,q3⟩=>?_) hm
 subst e
 cases r3
 exact wpAny_truthy_bool ⟨H3,I3,q3⟩
def tChain (r r':R2) (ta tb tc:TE):TE:=fun σ H Q=>ta σ H fun x H1=>tb σ H1 fun y H2=>r x y H2 fun z H3=>∃ k,z=.bl k ∧
 (if k=true then tc σ H3 fun w' H4=>r' y w' H4 Q else Q (.bl false) H3)
theorem pe_chain {op op':CmpOp} {r r':R2} (ho:OpR X (compareOp op) r) (ho':OpR X (compareOp op') r') (ha:PE X a ta) (hb:PE X b tb) (hc:PE X c tc)
 (hm:lastMarks [op,op'] [b,c]=false:=by with_unfolding_all rfl):PE X (.Compare a [op,op'] [b,c] pos) (tChain r r' ta tb tc):=by
 intro pins s σ H Q I h
 refine Compare_chain (thn (ha pins s σ H _ I h) fun v s1 ⟨x,H1,I1,r1,q1⟩=>chain_link (thn (hb pins s1 σ H1 _ I1 q1) fun u s2 ⟨y,H2,I2,r2,q2⟩ =>
  thn (ho pins s2 σ H2 x y v u _ I2 r1 r2 q2) fun d s3 ⟨z,H3,I3,r3,k,e,q3⟩=>?_)) hm
 subst e
 cases r3
 refine wpAny_truthy_bool ?_
 cases k with
 | false=>exact ite_ff ⟨.bl false,H3,I3,rfl,q3⟩
 | true=>exact ite_tt (chain_last (thn (hc pins s3 σ H3 _ I3 q3) fun w' s4 ⟨z',H4,I4,r4,q4⟩=>ho' pins s4 σ H4 y z' u w' Q I4 r2 r4 q4))
theorem pt_chain {op op':CmpOp} {r r':R2} (ho:OpR X (compareOp op) r) (ho':OpR X (compareOp op') r') (ha:PE X a ta) (hb:PE X b tb) (hc:PE X c tc)
 (hm:lastMarks [op,op'] [b,c]=false:=by with_unfolding_all rfl):PT X (.Compare a [op,op'] [b,c] pos) (tTest (tChain r r' ta tb tc)):=by
 intro pins s σ H Q I h
 refine isTrue_chain (thn (ha pins s σ H _ I h) fun v s1 ⟨x,H1,I1,r1,q1⟩=>test_link (thn (hb pins s1 σ H1 _ I1 q1) fun u s2 ⟨y,H2,I2,r2,q2⟩ =>
  thn (ho pins s2 σ H2 x y v u _ I2 r1 r2 q2) fun d s3 ⟨z,H3,I3,r3,k,e,q3⟩=>?_)) hm
 subst e
 cases r3
 refine wpAny_truthy_bool ?_
 cases k with
 | false =>
   obtain ⟨k',e',q'⟩:=q3
   cases e'
   exact ite_ff ⟨H3,I3,q'⟩
 | true =>
   refine ite_tt (test_last (thn (hc pins s3 σ H3 _ I3 q3) fun w' s4 ⟨z',H4,I4,r4,q4⟩=>thn (ho' pins s4 σ H4 y z' u w' _ I4 r2 r4 q4) fun d' s5 ⟨z2,H5,I5,r5,k2,e2,q5⟩=>?_))
   subst e2
   cases r5
   exact wpAny_truthy_bool ⟨H5,I5,q5⟩
theorem line63:(sizeLine:Nat) < 2 ^ 63:=by rw [sizeLine_eq]; decide
theorem op_add_str:OpR X (binaryOp .Add) (fun x y H Q=>∃ i j,x=.str i∧y=.str j∧i.length + j.length≤sizeLine∧Q (.str (i++j)) H):=by
 intro pins s σ H x y v u Q I rx ry h
 obtain ⟨i,j,rfl,rfl,hz,q⟩:=h
 obtain ⟨t,rfl⟩:=rx
 obtain ⟨t',rfl⟩:=ry
 exact add_str (fun t' tk=>⟨.str (i++j),H,I.tok _,⟨_,rfl⟩,q⟩) hz
theorem vals1 {x:V} {us:List Value} (r:Vals [x] us):∃ u,us=[u]∧RelV x u:=by
 cases r with
 | cons r1 r2=>cases r2; exact ⟨_,rfl,r1⟩
theorem vals2 {x y:V} {us:List Value} (r:Vals [x,y] us):∃ u w',us=[u,w']∧RelV x u∧RelV y w':=by
 cases r with
 | cons r1 r2 =>
   cases r2 with
   | cons r3 r4=>cases r4; exact ⟨_,_,rfl,r1,r3⟩
theorem call_min2 (hc:X.calm=true):CallR X (.builtin "min") (fun xs H Q=>∃ i j,xs=[.int i,.int j]∧Q (.int (if j < i then j else i)) H):=by
 intro pins s σ H xs us Q I r h
 obtain ⟨i,j,rfl,q⟩:=h
 obtain ⟨u,w',rfl,⟨t,rfl⟩,⟨t',rfl⟩⟩:=vals2 r
 refine min_two_ints (I.ok.hd hc) fun h' tk k=>⟨_,H,I.kept k,?_,q⟩
 by_cases hj:j < i
 · rw [if_pos hj,if_pos hj]; exact ⟨_,rfl⟩
 · rw [if_neg hj,if_neg hj]; exact ⟨_,rfl⟩
theorem call_int1:CallR X (.type "int") (fun xs H Q=>(∃ i,xs=[.int i]∧Q (.int i) H)∨∃ k,xs=[.bl k]∧Q (.int (if k then 1 else 0)) H):=by
 intro pins s σ H xs us Q I r h
 rcases h with ⟨i,rfl,q⟩ | ⟨k,rfl,q⟩
 · obtain ⟨u,rfl,t,rfl⟩:=vals1 r
   exact call_int_int ⟨.int i,H,I,⟨_,rfl⟩,q⟩
 · obtain ⟨u,rfl,r1⟩:=vals1 r
   cases r1
   exact call_int_bool ⟨.int (if k then 1 else 0),H,I.tok _,⟨_,rfl⟩,q⟩
def LenV (K:PySem.W.Frag) (x:V) (H:Hp) (n:Nat):Prop :=
 match x with
 | .str y=>y.length≤sizeLine∧n=y.length
 | .byt y=>y.size≤sizeLine∧n=y.size
 | .ref p=>(∃ xs,SqL K H p xs∧n=xs.length)∨∃ xs,SqT K H p xs∧n=xs.length
 | _=>False
theorem call_len:CallR X (.builtin "len") (fun xs H Q=>∃ x n,xs=[x]∧LenV X.K x H n∧Q (.int n) H):=by
 intro pins s σ H xs us Q I r h
 obtain ⟨x,n,rfl,e,q⟩:=h
 obtain ⟨u,rfl,rx⟩:=vals1 r
 have hl:=line63
 have hs:sizeLine=16777216:=sizeLine_eq
 cases x with
 | str y =>
   obtain ⟨t,rfl⟩:=rx
   obtain ⟨hy,e'⟩:y.length≤sizeLine∧n=y.length:=e
   subst e'
   exact len_str (by omega) ⟨.int _,H,I.tok _,⟨_,rfl⟩,q⟩
 | byt y =>
   obtain ⟨t,rfl⟩:=rx
   obtain ⟨hy,e'⟩:y.size≤sizeLine∧n=y.size:=e
   subst e'
   exact PySem.W.len_bytes (by omega) ⟨.int _,H,I.tok _,⟨_,rfl⟩,q⟩
 | ref p =>
   cases rx
   have e':(∃ xs,SqL X.K H p xs∧n=xs.length)∨∃ xs,SqT X.K H p xs∧n=xs.length:=e
   rcases e' with ⟨xs,hx,e'⟩ | ⟨xs,hx,e'⟩
   · subst e'
     obtain ⟨its,r',pl,hz⟩:=I.list hx
     have hlen:=r'.length
     exact Calls.call_len_list pl.isList (by simp only [List.size_toArray]; omega) ⟨.int xs.length,H,I.tok _,⟨_,by simp only [List.size_toArray]; rw [hlen]⟩,q⟩
   · subst e'
     obtain ⟨its,r',pl,hz⟩:=I.tuple hx
     have hlen:=r'.length
     exact len_tuple pl (by simp only [List.size_toArray]; omega) ⟨.int xs.length,H,I.tok _,⟨_,by simp only [List.size_toArray]; rw [hlen]⟩,q⟩
 | _=>exact (show False from e).elim
end
end L2
namespace L2
open PySem PySem.Spec PyProof.Rows
structure ObjM (h:Heap) (x dx C:Addr) (mA:Str→Option Value):Prop where
 obj:h.get? x=some (PySem.W.instObj C dx)
 ns:h.Ns1 dx mA
 ne:dx≠x
theorem lookIn_ns {h:Heap} {dx:Addr} {mA:Str→Option Value} (n:h.Ns1 dx mA):∃ od,h.get? dx=some od∧∀ name,PySem.W.lookIn name od=some (mA name):=by
 obtain ⟨o,es,ep,ho,hd,hk,_,hm⟩:=n
 refine ⟨o,ho,fun name=>?_⟩
 have e:=hm name
 unfold nsFind findBy at e
 rw [←Array.find?_toList] at e
 unfold PySem.W.lookIn
 rw [hd]
 dsimp only
 split
 · rename_i y q
   rw [q] at e
   exact congrArg some e
 · rename_i q
   rw [q] at e
   have a:es.toList.any (·.refKey)=false:=by
    rw [List.any_eq_false]
    intro y hy
    obtain ⟨z,t,hkey⟩:=hk y (Array.mem_toList_iff.mp hy)
    simp [DictEntry.refKey,hkey]
   have a':¬ es.toList.any (·.refKey)=true:=by rw [a]; exact Bool.false_ne_true
   rw [if_neg a']
   exact congrArg some e
theorem ObjM.look {h:Heap} {x dx C:Addr} {mA:Str→Option Value} (I:ObjM h x dx C mA):∃ od,PySem.W.InstAt h x (PySem.W.instObj C dx) C (some od)∧∀ name,PySem.W.lookIn name od=some (mA name) :=
 let ⟨od,ho,hl⟩:=lookIn_ns I.ns
 ⟨od,⟨I.obj,rfl,rfl,ho⟩,hl⟩
section
variable {prog:Program} {w:World} {A:Around} {E:Value→Shared→Prop} {s:Shared} {K:PySem.W.Frag} {x dx C f:Addr} {mA:Str→Option Value} {name:Str} {v:Value}
theorem get_map {expr:Bool} {Q:Value→Shared→Prop} (X:K.In s.heap) (I:ObjM s.heap x dx C mA) (hg:PySem.W.plainGet K C name=true) (hh:PySem.W.hasDictIn K C=true)
 (ha:PySem.W.findIn K (.ref C) name=some none) (hv:mA name=some v) (hv':PySem.W.handedIn v=true) (h:Q v { s with toks:=s.toks + 1 }) :
 wpAny (model prog w) A (getAttr (.ref x) name expr) Q E s:=by
 obtain ⟨od,J,hl⟩:=I.look
 exact PySem.W.get_value X J (PySem.W.plainGet_of hg).1 (PySem.W.findObj_own hh ha rfl (by rw [hl,hv])) hv' h
theorem get_meth {pl:Sem Bool} {Q:Value × List Value→Shared→Prop} (X:K.In s.heap) (I:ObjM s.heap x dx C mA) (hg:PySem.W.plainGet K C name=true)
 (hf:PySem.W.findIn K (.ref C) name=some (some (.ref f))) (ht:PySem.W.isFn K (.ref f)=true) (hv:mA name=none) (h:Q (.ref f,[.ref x]) s) :
 wpAny (model prog w) A (getMethod (.ref x) name pl) Q E s:=by
 obtain ⟨od,J,hl⟩:=I.look
 exact PySem.W.method_fn X J (PySem.W.plainGet_of hg).1 (PySem.W.plainGet_of hg).2 hf (beq_iff_eq.mp ht) (by show (PySem.W.lookIn name od).map (·.isSome)=some false; rw [hl,hv]; rfl) h
theorem set_map {ns:List Str} {Q:Unit→Shared→Prop} (X:K.In s.heap) (I:ObjM s.heap x dx C mA)
 (hs:PySem.W.findIn K (.ref C) "__setattr__" = some (some (.builtin "object.__setattr__"))) (hp:PySem.W.plainOver K C=true) (ht:PySem.W.takerIn K C name=some none) (hh:PySem.W.hasDictIn K C=true)
 (hw:PySem.Within mA ns) (hsz:ns.length≤sizeLine)
 (h:∀ h',ObjM h' x dx C (fun y=>if y=name then some v else mA y)→Heap.SameBut dx s.heap h'→Q () { s with heap:=h',toks:=s.toks + 2 }) :
 wpAny (model prog w) A (setAttr (.ref x) name v) Q E s:=by
 obtain ⟨od,J,hl⟩:=I.look
 refine PySem.W.set_plain X J hs (PySem.W.osa_open (s:={ s with toks:=s.toks + 1 }) (r:=none) X J hp ht fun b=>?_)
 obtain ⟨cd,hc,hd'⟩:=PySem.W.any_some hh
 have hx:s.heap.get? x=some ⟨.ref C,some dx,.plain,#[]⟩:=I.obj
 refine wpAny_bind (wpAny_pure (wpAny_bind (wpAny_bind (wpAny_loadPart hx (wpAny_bind (PySem.W.Looks.here (s:={ s with toks:=s.toks + 1 }) (PySem.W.looks_clsIn X hc) ?_))))))
 rw [hd']
 refine wpAny_pure (a:=some dx) (wpAny_bind (wpAny_pure (wpAny_bind ?_)))
 refine wpAny_nsSet1 (s:={ s with toks:=s.toks + 1 }) I.ns fun h' hn2 hs2=>?_
 obtain ⟨oD,esD,epD,hoD,hdD,hcD⟩:=hn2.count (PySem.Within.cons name v hw)
 refine wpAny_bind (wpAny_lookBehind hoD (by rw [hdD]; exact pastItsLine_dict (Nat.le_trans hcD (by rw [List.length_cons]; omega))) ?_)
 exact wpAny_pure (h _ ⟨(hs2.2 _ (Ne.symm I.ne)).trans I.obj,hn2,I.ne⟩ hs2)
theorem make_map {R:Result→Shared→Prop} {vs:List Value} {kw:List (Str × Value)} (X:K.In s.heap) (hm:PySem.W.makesIn K C=true)
 (hi:PySem.W.findIn K (.ref C) "__init__" = some (some (.ref f))) (hf:PySem.W.typeIn K (.ref f)=some (.type "function"))
 (h:codeAny (model prog w) (A.under (.builtin "type.__call__" ⟨.ref C :: vs,kw⟩)) (.call (.ref f) ⟨.ref (s.heap.objs.size + 1) :: vs,kw⟩) (PySem.W.InitBack (s.heap.objs.size + 1) R)
  { s with heap:=(s.heap.push PySem.W.emptyDict).push (PySem.W.instObj C s.heap.objs.size) }) :
 codeAny (model prog w) A (.call (.ref C) ⟨vs,kw⟩) R s:=by
 obtain ⟨hh,g,d,t,os⟩:=s
 exact PySem.W.make_core (PySem.W.makes_of X hm) (PySem.W.looks_findIn X hi) (fun self=>PySem.W.bind_fn X self hf) (.inl rfl) h
end
def putF (f:Str) (v:V):List (Str × V)→List (Str × V)
 | []=>[(f,v)]
 | (g,x) :: r=>if g=f then (g,v) :: r else (g,x) :: putF f v r
theorem lookup_putF (f g:Str) (v:V):∀ fs:List (Str × V),(putF f v fs).lookup g=if g=f then some v else fs.lookup g
 | []=>by
   show List.lookup g [(f,v)]=_
   by_cases h:g=f
   · have hb:(g == f)=true:=beq_iff_eq.mpr h
     simp only [List.lookup,hb,if_pos h]
   · have hb:(g == f)=false:=beq_eq_false_iff_ne.mpr h
     simp only [List.lookup,hb,if_neg h]
 | (k, x) :: r => by
   have ih:=lookup_putF f g v r
   rw [show putF f v ((k,x) :: r)=(if k=f then (k,v) :: r else (k,x) :: putF f v r) from rfl]
   by_cases hk:k=f
   · rw [if_pos hk]
     by_cases h:g=k
     · have hb:(g == k)=true:=beq_iff_eq.mpr h
       simp only [List.lookup,hb,if_pos (h.trans hk)]
     · have hb:(g == k)=false:=beq_eq_false_iff_ne.mpr h
       simp only [List.lookup,hb,if_neg (fun e:g=f=>h (e.trans hk.symm))]
   · rw [if_neg hk]
     by_cases h:g=k
     · have hb:(g == k)=true:=beq_iff_eq.mpr h
       simp only [List.lookup,hb,if_neg (fun e:g=f=>hk (h.symm.trans e))]
     · have hb:(g == k)=false:=beq_eq_false_iff_ne.mpr h
       simp only [List.lookup,hb]
       exact ih
theorem keys_putF (f:Str) (v:V):∀ fs:List (Str × V),f∈(putF f v fs).map (·.1)∧∀ g,g∈fs.map (·.1)→g∈(putF f v fs).map (·.1)
 | []=>⟨by simp [putF],fun g h=>by simp at h⟩
 | (k, x) :: r => by
   obtain ⟨i1,i2⟩:=keys_putF f v r
   rw [show putF f v ((k,x) :: r)=(if k=f then (k,v) :: r else (k,x) :: putF f v r) from rfl]
   by_cases hk:k=f
   · rw [if_pos hk]
     subst hk
     exact ⟨by simp,fun g h=>by simpa using h⟩
   · rw [if_neg hk]
     refine ⟨?_,fun g h=>?_⟩
     · rw [List.map_cons]
       exact List.mem_cons_of_mem _ i1
     · rw [List.map_cons] at h ⊢
       rcases List.mem_cons.mp h with e | e
       · exact List.mem_cons.mpr (.inl e)
       · exact List.mem_cons_of_mem _ (i2 g e)
theorem length_putF (f:Str) (v:V):∀ fs:List (Str × V),(putF f v fs).length≤fs.length + 1
 | []=>by simp [putF]
 | (k,x) :: r=>by
   have ih:=length_putF f v r
   rw [show putF f v ((k,x) :: r)=(if k=f then (k,v) :: r else (k,x) :: putF f v r) from rfl]
   by_cases hk:k=f
   · rw [if_pos hk,List.length_cons,List.length_cons]; omega
   · rw [if_neg hk,List.length_cons,List.length_cons]; omega
theorem RelO.some_of {v:V} {o:Option Value} (r:RelO (some v) o):∃ u,o=some u∧RelV v u:=by
 cases o with
 | none=>exact (show False from r).elim
 | some u=>exact ⟨u,rfl,r⟩
theorem RelO.none_of {o:Option Value} (r:RelO none o):o=none:=by
 cases o with
 | none=>rfl
 | some u=>exact (show False from r).elim
theorem handed_of {v:V} {u:Value} (r:RelV v u):PySem.W.handedIn u=true:=by
 cases v with
 | non=>cases (show u=Value.none from r); rfl
 | bl b=>cases (show u=Value.bool b from r); rfl
 | int i=>obtain ⟨t,e⟩:=(show ∃ t,u=Value.int i t from r); cases e; rfl
 | str x=>obtain ⟨t,e⟩:=(show ∃ t,u=Value.str x t from r); cases e; rfl
 | byt b=>obtain ⟨t,e⟩:=(show ∃ t,u=Value.bytes b t from r); cases e; rfl
 | flt b=>obtain ⟨t,e⟩:=(show ∃ t,u=Value.float b t from r); cases e; rfl
 | ref a=>cases (show u=Value.ref a from r); rfl
 | ty n=>cases (show u=Value.type n from r); rfl
section
variable {P:Program} {w:World} {H H':Hp} {h h':Heap} {a C dx:Addr} {fs fs':List (Str × V)}
theorem ins_get (hok:HOk P w H h) (e:H a=some (.ins C dx fs)):∃ mA,ObjM h a dx C mA∧(∀ f,RelO (fs.lookup f) (mA f))∧PySem.Within mA (fs.map (·.1))∧fs.length≤1000∧H dx=some (.own a):=by
 obtain ⟨d,z,ne,ob,mA,n,r,q⟩:=(show ObjOk P w H h a (.ins C dx fs) from hok a _ e)
 exact ⟨mA,⟨ob,n,ne⟩,r,q,z,d⟩
end
structure Cls (K:PySem.W.Frag) (C:Addr):Prop where
 pg:PySem.W.plainGet K C Str.empty=true
 hd:PySem.W.hasDictIn K C=true
 po:PySem.W.plainOver K C=true
 sa:PySem.W.findIn K (.ref C) "__setattr__" = some (some (.builtin "object.__setattr__"))
theorem Cls.get {K:PySem.W.Frag} {C:Addr} (c:Cls K C) (f:Str):PySem.W.plainGet K C f=true:=c.pg
def NoAttr (K:PySem.W.Frag) (C:Addr) (f:Str):Prop:=PySem.W.findIn K (.ref C) f=some none
theorem NoAttr.taker {K:PySem.W.Frag} {C:Addr} {f:Str} (n:NoAttr K C f):PySem.W.takerIn K C f=some none:=by
 unfold PySem.W.takerIn
 rw [show PySem.W.findIn K (.ref C) f=some none from n]
 rfl
structure Meth (K:PySem.W.Frag) (C:Addr) (m:Str) (f:Addr):Prop where
 at_:PySem.W.findIn K (.ref C) m=some (some (.ref f))
 fn:PySem.W.isFn K (.ref f)=true
 kp:PySem.W.keepIn K (.ref f)=true
section
variable {X:Cx} {pins:List (Addr × Obj)} {σ:St} {H:Hp} {s:Shared} {a C dx:Addr} {fs:List (Str × V)} {f:Str} {v:V} {A:Around} {E:Value→Shared→Prop}
theorem getattr_ok {b:Bool} {Q:Value→Shared→Prop} (I:Inv X pins σ H s) (e:H a=some (.ins C dx fs)) (c:Cls X.K C) (n:NoAttr X.K C f) (l:fs.lookup f=some v)
 (h:∀ u s',Inv X pins σ H s'→RelV v u→Q u s'):wpAny (model X.prog X.w) A (getAttr (.ref a) f b) Q E s:=by
 obtain ⟨mA,O,r,_,_,_⟩:=ins_get I.hok e
 obtain ⟨u,hu,ru⟩:=RelO.some_of (v:=v) (o:=mA f) (by rw [←l]; exact r f)
 exact get_map I.kIn O (c.get f) c.hd n hu (handed_of ru) (h u _ (I.tok _) ru)
theorem getmeth_ok {m:Str} {g:Addr} {pl:Sem Bool} {Q:Value × List Value→Shared→Prop} (I:Inv X pins σ H s) (e:H a=some (.ins C dx fs)) (c:Cls X.K C) (k:Meth X.K C m g) (l:fs.lookup m=none)
 (h:Q (.ref g,[.ref a]) s):wpAny (model X.prog X.w) A (getMethod (.ref a) m pl) Q E s:=by
 obtain ⟨mA,O,r,_,_,_⟩:=ins_get I.hok e
 have hn:mA m=none:=RelO.none_of (by rw [←l]; exact r m)
 exact get_meth I.kIn O (c.get m) k.at_ k.fn hn h
theorem setattr_ok {y:V} {u:Value} {Q:Unit→Shared→Prop} (I:Inv X pins σ H s) (e:H a=some (.ins C dx fs)) (c:Cls X.K C) (n:NoAttr X.K C f) (hl:fs.length < 1000) (ry:RelV y u)
 (h:∀ s',Inv X pins σ (upd H a (.ins C dx (putF f y fs))) s'→Q () s'):wpAny (model X.prog X.w) A (setAttr (.ref a) f u) Q E s:=by
 obtain ⟨mA,O,r,wi,_,ho⟩:=ins_get I.hok e
 have hz:(fs.map (·.1)).length≤sizeLine:=by rw [List.length_map,sizeLine_eq]; omega
 refine set_map I.kIn O c.sa c.po n.taker c.hd wi hz fun h' O' sb=>h _ ?_
 have hd:∃ o,h'.get? dx=some o:=let ⟨o,_,_,e',_⟩:=O'.ns; ⟨o,e'⟩
 refine I.write (x:=a) (e:=dx) (by rw [e]; exact True.intro) (.inr ho) (fun b q hb z=>(sb.2 b hb).trans z) hd ?_
 refine ⟨by rw [upd_ne O.ne]; exact ho,?_,O.ne,O'.obj,_,O'.ns,fun g=>?_,fun g hg=>?_⟩
 · have:=length_putF f y fs; omega
 · show RelO ((putF f y fs).lookup g) (if g=f then some u else mA g)
   rw [lookup_putF]
   by_cases q:g=f
   · rw [if_pos q,if_pos q]; exact ry
   · rw [if_neg q,if_neg q]; exact r g
 · by_cases q:g=f
   · rw [q]; exact (keys_putF f y fs).1
   · refine (keys_putF f y fs).2 g (wi g fun z=>hg ?_)
     show (if g=f then some u else mA g)=none
     rw [if_neg q]; exact z
theorem Inv.made (I:Inv X pins σ H s):Inv X pins σ (upd (upd H s.heap.objs.size (.own (s.heap.objs.size + 1))) (s.heap.objs.size + 1) (.ins C s.heap.objs.size []))
 { s with heap:=(s.heap.push PySem.W.emptyDict).push (PySem.W.instObj C s.heap.objs.size) }:=by
 have e1:(s.heap.push PySem.W.emptyDict).get? s.heap.objs.size=some PySem.W.emptyDict:=Heap.get?_push_size s.heap rfl
 have e2:((s.heap.push PySem.W.emptyDict).push (PySem.W.instObj C s.heap.objs.size)).get? (s.heap.objs.size + 1)=some (PySem.W.instObj C s.heap.objs.size):=by
  have:=Heap.get?_push_size (s.heap.push PySem.W.emptyDict) (o:=PySem.W.instObj C s.heap.objs.size) rfl
  rwa [Heap.size_push] at this
 have e3:(s.heap.push PySem.W.emptyDict).Ns s.heap.objs.size (fun _=>none):=⟨PySem.W.emptyDict,#[],_,e1,rfl,(fun e he=>absurd he (by simp)),fun _=>rfl⟩
 have I1:=I.laid (a:=s.heap.objs.size) (o:=.own (s.heap.objs.size + 1)) (h':=s.heap.push PySem.W.emptyDict) (t':=s.toks) (fun b u q=>Heap.get?_push_of_some _ q) (Nat.le_refl _) ⟨_,e1⟩
 refine I1.laid (a:=s.heap.objs.size + 1) (o:=.ins C s.heap.objs.size []) (t':=s.toks) (fun b u q=>Heap.get?_push_of_some _ q) (Nat.le_of_eq (Heap.size_push _ _)) ?_
 have ne:s.heap.objs.size≠s.heap.objs.size + 1:=Nat.ne_of_lt (Nat.lt_succ_self _)
 refine ⟨by rw [upd_ne ne,upd_same],Nat.zero_le _,ne,e2,fun _=>none,(Heap.Ns1.of_empty e3).at fun o q=>Heap.get?_push_of_some _ q,fun _=>True.intro,fun y hy=>absurd rfl hy⟩
theorem attr_of {prog:Program} {w:World} {env:Env} {e:Expr} {f:Str} {pos:Pos} {s:Shared} {Q:Value→Shared→Prop} (hb:attributeBase e f env (eval e env)=eval e env)
 (h:wpAny (model prog w) A (eval e env) (fun o s₁=>wpAny (model prog w) A (getAttr o f true) Q E s₁) E s):wpAny (model prog w) A (eval (.Attribute e f pos) env) Q E s :=
 Attribute_any_ h (by rw [arm_eval_Attribute,hb])
end
def tFld (K:PySem.W.Frag) (ta:TE) (f:Str):TE:=fun σ H Q=>ta σ H fun x H1=>∃ a C dx fs v,x=.ref a∧H1 a=some (.ins C dx fs)∧Cls K C∧NoAttr K C f∧fs.lookup f=some v∧Q v H1
def sFld (K:PySem.W.Frag) (ta tv:TE) (f:Str):TS:=fun D σ H=>tv σ H fun y H1=>ta σ H1 fun x H2=>∃ a C dx fs,x=.ref a∧H2 a=some (.ins C dx fs)∧Cls K C∧NoAttr K C f∧fs.length < 1000 ∧
 D.nx σ (upd H2 a (.ins C dx (putF f y fs)))
def InOp (X:Cx) (op:Operator) (rd:V→V→Hp→VK→Prop):Prop :=
 ∀ (pins:List (Addr × Obj)) (s:Shared) (σ:St) (H:Hp) (x y:V) (u v:Value) (Q:VK),Inv X pins σ H s→RelV x u→RelV y v→rd x y H Q→wpAny (model X.prog X.w) X.A (inplaceOp op u v) (EP X pins σ Q) X.xe s
def sFldAug (K:PySem.W.Frag) (ta tv:TE) (rd:V→V→Hp→VK→Prop) (f:Str):TS:=fun D σ H=>ta σ H fun x H1=>∃ a C dx fs v,x=.ref a∧H1 a=some (.ins C dx fs)∧Cls K C∧NoAttr K C f∧fs.lookup f=some v ∧
 tv σ H1 fun y H2=>rd v y H2 fun z H3=>∃ dx' fs',H3 a=some (.ins C dx' fs')∧fs'.length < 1000∧D.nx σ (upd H3 a (.ins C dx' (putF f z fs')))
section
variable {X:Cx} {o e value:Expr} {f:Str} {pos pos' tpos:Pos} {ta tv:TE}
theorem pe_fld (he:PE X e ta) (hb:attributeBase e f X.env (eval e X.env)=eval e X.env):PE X (.Attribute e f pos) (tFld X.K ta f):=by
 intro pins s σ H Q I h
 refine attr_of hb (thn (he pins s σ H _ I h) fun u s1 ⟨x,H1,I1,rx,a,C,dx,fs,v,ex,ea,c,n,l,q⟩=>?_)
 subst ex
 obtain rfl:u=Value.ref a:=rx
 exact getattr_ok I1 ea c n l fun u' s2 I2 ru=>⟨v,H1,I2,ru,q⟩
theorem ps_fld (ha:PE X o ta) (hv:PE X value tv) (hs:swapsWith value (some (.Attribute o f pos')) pos.line X.env=pure false):PS X (.Assign [.Attribute o f pos'] value pos) (sFld X.K ta tv f):=by
 intro pins s σ H D I h
 refine plainObj_wpAny_Assign_Attribute (thn (hv pins s σ H _ I h) fun u s1 ⟨y,H1,I1,ry,q⟩=>thn (ha pins s1 σ H1 _ I1 q) fun ov s2 ⟨x,H2,I2,rx,a,C,dx,fs,ex,ea,c,n,l,q2⟩=>?_) hs
 subst ex
 obtain rfl:ov=Value.ref a:=rx
 exact setattr_ok I2 ea c n l ry fun s3 I3=>⟨σ,_,I3,q2⟩
theorem ps_fldaug {op:Operator} {rd:V→V→Hp→VK→Prop} (ha:PE X o ta) (hv:PE X value tv) (hop:InOp X op rd):PS X (.AugAssign (.Attribute o f tpos) op value pos) (sFldAug X.K ta tv rd f):=by
 intro pins s σ H D I h
 refine wpAny_AugAssign_AttributeAny (thn (ha pins s σ H _ I h) fun ov s1 ⟨x,H1,I1,rx,a,C,dx,fs,v,ex,ea,c,n,l,q⟩=>?_)
 subst ex
 obtain rfl:ov=Value.ref a:=rx
 refine getattr_ok I1 ea c n l fun u s2 I2 ru=>thn (hv pins s2 σ H1 _ I2 q) fun w3 s3 ⟨y,H2,I3,ry,q3⟩=>thn (hop pins s3 σ H2 v y u w3 _ I3 ru ry q3) fun w4 s4 ⟨z,H3,I4,rz,dx',fs',ea',l',q4⟩=>?_
 exact setattr_ok I4 ea' c n l' rz fun s5 I5=>⟨σ,_,I5,q4⟩
def rAdd:V→V→Hp→VK→Prop:=fun x y H Q=>∃ i j,x=.int i∧y=.int j∧Q (.int (i + j)) H
theorem in_add:InOp X .Add rAdd:=by
 rintro pins s σ H x y u v Q I rx ry ⟨i,j,rfl,rfl,q⟩
 obtain ⟨t,rfl⟩:=(show ∃ t,u=Value.int i t from rx)
 obtain ⟨t',rfl⟩:=(show ∃ t',v=Value.int j t' from ry)
 exact PyProof.Rows.iadd_int ⟨.int (i + j),H,I.tok _,⟨_,rfl⟩,q⟩
end
section
variable {X:Cx} {pins:List (Addr × Obj)} {σ:St} {H:Hp} {s:Shared} {A:Around} {E:Value→Shared→Prop} {Q:Value→Shared→Prop} {c:Value} {b:Bool}
end
end L2
namespace L2
open PySem PySem.Spec PyProof.Rows
structure Room (k:Nat) (A:Around):Prop where
 hd:A.handled=none
 dp:A.depth + 3 * k + 5 < recursionLimit
 un:A.units + 16 * k + 200 < cLine
 gd:A.guards=some []
theorem Room.mono {j k:Nat} {A:Around} (r:Room k A) (h:j≤k):Room j A:=⟨r.hd,by have:=r.dp; omega,by have:=r.un; omega,r.gd⟩
theorem Room.deeper {k:Nat} {A:Around} (r:Room (k + 1) A) (env:Env):Room k (A.deeper env) :=
 ⟨r.hd,by have:=r.dp; show A.depth + 1 + 3 * k + 5 < _; omega,by have:=r.un; show A.units + 3 + 16 * k + 200 < _; omega,by first | exact r.gd | (simpa [Around.deeper] using r.gd)⟩
theorem make_depth {A:Around} {C:Addr} {us:List Value} {kw:List (Str × Value)}:(A.under (.builtin "type.__call__" ⟨.ref C :: us,kw⟩)).depth=A.depth + 1:=by
 first | rfl | simp [Around.under,Code.weight,Code.isCreation,Code.isGuard,Code.isCaller,Code.frames,Code.isFrame,guardIds]
theorem make_units {A:Around} {C:Addr} {us:List Value} {kw:List (Str × Value)}:(A.under (.builtin "type.__call__" ⟨.ref C :: us,kw⟩)).units=A.units + 1:=by
 first | rfl | simp [Around.under,Code.cUnits,Code.frames,Code.isFrame]
theorem Room.make {k:Nat} {A:Around} (r:Room (k + 1) A) (C:Addr) (us:List Value) (kw:List (Str × Value)):Room k (A.under (.builtin "type.__call__" ⟨.ref C :: us,kw⟩)) :=
 ⟨r.hd,by have:=r.dp; rw [make_depth]; omega,by have:=r.un; rw [make_units]; omega,by first | exact r.gd | (simpa [Around.under,Code.isGuard,guardIds] using r.gd)⟩
theorem Room.depth {k:Nat} {A:Around} (r:Room k A):A.depth < recursionLimit:=by have:=r.dp; omega
theorem Room.units {k:Nat} {A:Around} (r:Room k A):A.units + 64 < cLine:=by have:=r.un; omega
def tNil:TA:=fun _ H Q=>Q [] H
def tCons (ta:TE) (tr:TA):TA:=fun σ H Q=>ta σ H fun x H1=>tr σ H1 fun xs H2=>Q (x :: xs) H2
section
variable {X:Cx} {e:Expr} {es:List Expr} {te:TE} {t:TA} {pos:Pos}
theorem pa_nil:PA X [] tNil:=fun _ _ _ _ H Q I h=>Calls.spliced_nil ⟨[],H,I,.nil,h⟩
theorem pa_cons (ha:PE X e te) (hr:PA X es t) (hs:starEach (e :: es) X.env=(false,eval e X.env) :: starEach es X.env:=by rfl):PA X (e :: es) (tCons te t):=by
 intro pos pins s σ H Q I h
 rw [hs]
 show wpAny _ _ (spliced ((false,eval e X.env) :: backTo pos (starEach es X.env))) _ _ s
 refine Calls.spliced_cons (thn (ha pins s σ H _ I h) fun u s1 ⟨x,H1,I1,r1,q1⟩=>?_)
 exact thn (hr pos pins s1 σ H1 _ I1 q1) fun us s2 ⟨xs,H2,I2,r2,q2⟩=>⟨x :: xs,H2,I2,.cons r1 r2,q2⟩
def tTup (t:TA):TE:=fun σ H Q=>t σ H fun xs H1=>xs.length≤sizeLine∧∀ p,H1 p=none→Q (.ref p) (upd H1 p (.tup xs))
def tLst (t:TA):TE:=fun σ H Q=>t σ H fun xs H1=>xs.length≤sizeLine∧∀ p,H1 p=none→Q (.ref p) (upd H1 p (.lst xs))
theorem pe_tup {x1} (h:PA X es t):PE X (.Tuple es x1 pos) (tTup t):=by
 intro pins s σ H Q I hq
 refine wpAny_Tuple_spliced (thn (h pos pins s σ H _ I hq) fun us s1 ⟨xs,H1,I1,r,z,q⟩=>⟨by rw [←r.length]; exact z,?_⟩)
 have hf:H1 s1.heap.objs.size=none:=I1.hok.fresh (Nat.le_refl _)
 refine ⟨.ref s1.heap.objs.size,upd H1 s1.heap.objs.size (.tup xs),I1.laid (t':=s1.toks) (fun b u e=>Heap.get?_push_of_some _ e) (Nat.le_refl _) ?_,rfl,q _ hf⟩
 exact ⟨z,us,r,⟨_,Heap.get?_push_size _ rfl,rfl,_,rfl⟩⟩
theorem pe_lst (h:PA X es t):PE X (.List es pos) (tLst t):=by
 intro pins s σ H Q I hq
 refine wpAny_List_spliced (thn (h pos pins s σ H _ I hq) fun us s1 ⟨xs,H1,I1,r,z,q⟩=>⟨by rw [←r.length]; exact z,?_⟩)
 have hf:H1 s1.heap.objs.size=none:=I1.hok.fresh (Nat.le_refl _)
 refine ⟨.ref s1.heap.objs.size,upd H1 s1.heap.objs.size (.lst xs),I1.laid (t':=s1.toks) (fun b u e=>Heap.get?_push_of_some _ e) (Nat.le_refl _) ?_,rfl,q _ hf⟩
 exact ⟨z,us,0,r,Heap.get?_push_size _ rfl⟩
end
abbrev Sp:=List V→Hp→VK→XK→Prop
abbrev CXT:=List Env→Hp→Shared→XK→Value→Shared→Prop
structure Env0 (P:Program) (w:World) (K:PySem.W.Frag) (mg:Str→Option Value) (base:Heap) (A:Around) (outer:List Env) (s:Shared) (H:Hp):Prop where
 frames:A.frames=some outer
 mod:Mod K mg base
 bs:∀ b o,base.get? b=some o→s.heap.get? b=some o∧H b=none
 bsz:base.objs.size≤s.heap.objs.size
 funs:s.heap.FunFrames base outer
 frf:∀ b∈frs outer,H b=none
 hok:HOk P w H s.heap
 bare:AllBare s.gens
def CE (outer:List Env) (P:Program) (w:World) (H:Hp) (s:Shared) (Q:VK) (u:Value) (s':Shared):Prop :=
 ∃ v H',s'.os=s.os∧AllBare s'.gens∧Un (frs outer) [] H H' s.heap s'.heap∧HOk P w H' s'.heap∧RelV v u∧Q v H'
def CR (CX:CXT) (outer:List Env) (P:Program) (w:World) (H:Hp) (s:Shared) (Q:VK) (E:XK) (r:Result) (s':Shared):Prop :=
 match r with
 | .ok (.ret u)=>CE outer P w H s Q u s'
 | .ok _=>False
 | .error e=>CX outer H s E e s'
structure FnOk (P:Program) (w:World) (K:PySem.W.Frag) (mg:Str→Option Value) (base:Heap) (CX:CXT) (k:Nat) (f:Addr) (fd:FuncData) (ps:List Str) (sp:Sp):Prop where
 len:∀ vs H Q E,sp vs H Q E→vs.length=ps.length
 run:∀ (A:Around) (outer:List Env) (s:Shared) (H:Hp) (args:Args) (us:List Value) (vs:List V) (Q:VK) (E:XK),Room k A→Env0 P w K mg base A outer s H→BindsTo s fd args (ps.zip us)→Vals vs us→sp vs H Q E →
  codeAny (model P w) A (.call (.ref f) args) (CR CX outer P w H s Q E) s
theorem Env0.make {P:Program} {w:World} {K:PySem.W.Frag} {mg:Str→Option Value} {base:Heap} {A:Around} {outer:List Env} {s:Shared} {H:Hp} (e:Env0 P w K mg base A outer s H) (C:Addr) (us:List Value) (kw:List (Str × Value)) :
 Env0 P w K mg base (A.under (.builtin "type.__call__" ⟨.ref C :: us,kw⟩)) outer s H:=⟨by first | exact e.frames | (simpa [Around.under,Code.envs,Code.isFrame,pushEnvs] using e.frames),e.mod,e.bs,e.bsz,e.funs,e.frf,e.hok,e.bare⟩
section
variable {X:Cx} {pins:List (Addr × Obj)} {σ:St} {H:Hp} {s s':Shared}
theorem Inv.env0 (I:Inv X pins σ H s):Env0 X.prog X.w X.K X.mg X.base X.A X.stack s H :=
 ⟨I.ok.frames,I.ok.mod,I.bs,Nat.le_trans I.ok.bsz I.sz,I.stack,I.stkFree,I.hok,I.bare⟩
theorem Inv.after {Q:VK} {u:Value} (I:Inv X pins σ H s) (h:CE X.stack X.prog X.w H s Q u s'):EP X pins σ Q u s':=by
 obtain ⟨v,H',os,bare,un,hok,r,q⟩:=h
 obtain ⟨hh,g,d,t,os'⟩:=s'
 obtain rfl:os'=s.os:=os
 exact ⟨v,H',I.call (h':=hh) (g':=g) (d':=d) (t':=t) (ch:=[]) un hok bare (fun b z=>absurd z (by simp)),r,q⟩
end
def tCall (sp:Sp) (dvs:List V) (E:XK) (t:TA):TE:=fun σ H Q=>t σ H fun vs H1=>sp (vs++dvs) H1 Q E
def tMeth (C:Addr) (m:Str) (sp:Sp) (dvs:List V) (E:XK) (ta:TE) (t:TA):TE:=fun σ H Q=>ta σ H fun x H1=>∃ a dx fs,x=.ref a∧H1 a=some (.ins C dx fs)∧fs.lookup m=none ∧
 t σ H1 fun vs H2=>sp (x :: (vs++dvs)) H2 Q E
def tMake (C:Addr) (sp:Sp) (dvs:List V) (E:XK) (t:TA):TE:=fun σ H Q=>t σ H fun vs H1=>∀ x dx,H1 x=none→H1 dx=none→dx≠x →
 sp (.ref x :: (vs++dvs)) (upd (upd H1 dx (.own x)) x (.ins C dx [])) (fun v H2=>v=.non∧Q (.ref x) H2) E
def Binds (K:PySem.W.Frag) (fd:FuncData) (ps:List Str) (ds:List Value):Prop :=
 ∀ (s:Shared) (us:List Value),K.In s.heap→(us++ds).length=ps.length→BindsTo s fd ⟨us,[]⟩ (ps.zip (us++ds))
theorem Binds.all {K:PySem.W.Frag} {fd:FuncData} {ps:List Str} (h:∀ us:List Value,us.length=ps.length→bindArgs fd ⟨us,[]⟩=pure (ps.zip us)):Binds K fd ps []:=fun s us _ hl=>by
 rw [List.append_nil] at hl ⊢
 exact .of_eq (h us hl)
def Passes (CX:CXT) (X:Cx) (E:XK):Prop:=∀ (pins:List (Addr × Obj)) (σ:St) (H:Hp) (s:Shared) (e:Value) (s':Shared),Inv X pins σ H s→CX X.stack H s E e s'→X.xe e s'
section
variable {X:Cx} {CX:CXT} {k:Nat} {f C:Addr} {fd:FuncData} {ps:List Str} {sp:Sp} {dvs:List V} {ds:List Value} {E:XK} {x m:Str} {p pos apos:Pos} {e o:Expr} {es:List Expr} {ta:TE} {t:TA}
theorem run_fn {pins:List (Addr × Obj)} {σ:St} {H:Hp} {s:Shared} {Q:VK} {us:List Value} {vs:List V} (F:FnOk X.prog X.w X.K X.mg X.base CX k f fd ps sp) (hr:Room k X.A) (hb:Binds X.K fd ps ds) (hd:Vals dvs ds) (hx:Passes CX X E)
 (I:Inv X pins σ H s) (r:Vals vs us) (h:sp (vs++dvs) H Q E):wpAny (model X.prog X.w) X.A (call (.ref f) us) (EP X pins σ Q) X.xe s:=by
 have r2:Vals (vs++dvs) (us++ds):=r.append hd
 have hl:(us++ds).length=ps.length:=by rw [←r2.length]; exact F.len _ _ _ _ h
 refine wpAny_call (codeAny_mono (F.run X.A X.stack s H ⟨us,[]⟩ (us++ds) (vs++dvs) Q E hr I.env0 (hb s us I.kIn hl) r2 h) fun r s' hq=>?_)
 cases r with
 | error e=>exact hx pins σ H s e s' I hq
 | ok fl =>
   cases fl with
   | ret u=>exact I.after hq
   | next=>exact False.elim hq
   | brk=>exact False.elim hq
   | cont=>exact False.elim hq
theorem pe_call (F:FnOk X.prog X.w X.K X.mg X.base CX k f fd ps sp) (hr:Room k X.A) (hg:Gl X x) (hm:X.mg x=some (.ref f)) (hk:PySem.W.keepIn X.K (.ref f)=true) (hb:Binds X.K fd ps ds) (hd:Vals dvs ds) (hx:Passes CX X E)
 (ha:PA X (e :: es) t) (hdb:(x == ("__debug__" : Str))=false:=by decide) (he:starEach (e :: es) X.env=(false,eval e X.env) :: starEach es X.env:=by rfl) (hpl:(backTo pos (starEach es X.env)).any (·.1)=false:=by rfl) :
 PE X (.Call (.Name x p) (e :: es) [] pos) (tCall sp dvs E t):=by
 intro pins s σ H Q I h
 refine wpAny_Call_Name_kw (ld_glob I hg hm ?_ hdb)
 refine PySem.W.callWith_K (h₀:=X.base) I.ok.mod.kin hk (thn (ha pos pins s σ H _ I h) fun us s1 ⟨vs,H1,I1,r,q⟩=>⟨I1.kIn,?_⟩) he hpl
 exact run_fn F hr hb hd hx I1 r q
theorem pe_meth {pl:Sem Bool} (he:PE X o ta) (c:Cls X.K C) (hm:Meth X.K C m f) (F:FnOk X.prog X.w X.K X.mg X.base CX k f fd ps sp) (hr:Room k X.A) (hb:Binds X.K fd ps ds) (hd:Vals dvs ds) (hx:Passes CX X E) (ha:PA X (e :: es) t)
 (hst:starEach (e :: es) X.env=(false,eval e X.env) :: starEach es X.env:=by rfl) (hpl:(backTo pos (starEach es X.env)).any (·.1)=false:=by rfl)
 (ht:eval (.Call (.Attribute o m apos) (e :: es) [] pos) X.env=(do
  let ov ←eval o X.env
  standAt apos.atName
  let (f,first) ←holding [ov] (getMethod ov m pl)
  callWith pos f first (backTo pos (starEach (e :: es) X.env)) (backToKw pos (keywordEach [] X.env))):=by rfl) :
 PE X (.Call (.Attribute o m apos) (e :: es) [] pos) (tMeth C m sp dvs E ta t):=by
 intro pins s σ H Q I h
 refine PySem.W.methodCall_KW (pl:=pl) (thn (he pins s σ H _ I h) fun u s1 ⟨x,H1,I1,rx,a,dx,fs,ex,ea,l,q⟩=>?_) ht
 subst ex
 obtain rfl:u=Value.ref a:=rx
 refine getmeth_ok I1 ea c hm l ?_
 refine PySem.W.callWith_K (first:=[.ref a]) (h₀:=X.base) I.ok.mod.kin hm.kp (thn (ha pos pins s1 σ H1 _ I1 q) fun us s2 ⟨vs,H2,I2,r,q2⟩=>⟨I2.kIn,?_⟩) hst hpl
 exact run_fn (us:=.ref a :: us) (vs:=.ref a :: vs) F hr hb hd hx I2 (.cons rfl r) q2
theorem pe_meth0 {pl:Sem Bool} (he:PE X o ta) (c:Cls X.K C) (hm:Meth X.K C m f) (F:FnOk X.prog X.w X.K X.mg X.base CX k f fd ps sp) (hr:Room k X.A) (hb:Binds X.K fd ps ds) (hd:Vals dvs ds) (hx:Passes CX X E)
 (ht:eval (.Call (.Attribute o m apos) [] [] pos) X.env=(do
  let ov ←eval o X.env
  standAt apos.atName
  let (f,first) ←holding [ov] (getMethod ov m pl)
  callWith pos f first (backTo pos (starEach [] X.env)) (backToKw pos (keywordEach [] X.env))):=by rfl) :
 PE X (.Call (.Attribute o m apos) [] [] pos) (tMeth C m sp dvs E ta tNil):=by
 intro pins s σ H Q I h
 refine PySem.W.methodCall_KW (pl:=pl) (thn (he pins s σ H _ I h) fun u s1 ⟨x,H1,I1,rx,a,dx,fs,ex,ea,l,q⟩=>?_) ht
 subst ex
 obtain rfl:u=Value.ref a:=rx
 refine getmeth_ok I1 ea c hm l ?_
 exact PySem.W.callWith_K0 (first:=[.ref a]) I1.kIn hm.kp (run_fn (us:=[.ref a]) (vs:=[.ref a]) F hr hb hd hx I1 (.cons rfl .nil) q)
structure Mk (K:PySem.W.Frag) (C f:Addr):Prop where
 makes:PySem.W.makesIn K C=true
 init:PySem.W.findIn K (.ref C) "__init__" = some (some (.ref f))
 fn:PySem.W.isFn K (.ref f)=true
 kp:PySem.W.keepIn K (.ref C)=true
theorem run_make {pins:List (Addr × Obj)} {σ:St} {H:Hp} {s:Shared} {Q:VK} {us:List Value} {vs:List V} (M:Mk X.K C f) (F:FnOk X.prog X.w X.K X.mg X.base CX k f fd ps sp) (hr:Room (k + 1) X.A) (hb:Binds X.K fd ps ds) (hd:Vals dvs ds)
 (hx:Passes CX X E) (I:Inv X pins σ H s) (r:Vals vs us)
 (h:∀ x dx,H x=none→H dx=none→dx≠x→sp (.ref x :: (vs++dvs)) (upd (upd H dx (.own x)) x (.ins C dx [])) (fun v H2=>v=.non∧Q (.ref x) H2) E) :
 wpAny (model X.prog X.w) X.A (call (.ref C) us) (EP X pins σ Q) X.xe s:=by
 have hq:=h (s.heap.objs.size + 1) s.heap.objs.size (I.hok.fresh (Nat.le_succ _)) (I.hok.fresh (Nat.le_refl _)) (Nat.ne_of_lt (Nat.lt_succ_self _))
 have I2:=Inv.made (C:=C) I
 have r2:Vals (V.ref (s.heap.objs.size + 1) :: (vs++dvs)) (Value.ref (s.heap.objs.size + 1) :: (us++ds)):=.cons rfl (r.append hd)
 have hl:(Value.ref (s.heap.objs.size + 1) :: us++ds).length=ps.length:=by
  have e:=r2.length
  rw [F.len _ _ _ _ hq] at e
  exact e.symm
 refine wpAny_call (make_map (f:=f) I.kIn M.makes M.init (beq_iff_eq.mp M.fn) (codeAny_mono (F.run _ X.stack _ _ ⟨Value.ref (s.heap.objs.size + 1) :: us,[]⟩ (Value.ref (s.heap.objs.size + 1) :: (us++ds)) _ _ E (hr.make C us [])
  (I2.env0.make C us []) (hb _ (Value.ref (s.heap.objs.size + 1) :: us) I2.kIn hl) r2 hq) fun r s' hq'=>?_))
 cases r with
 | error e=>exact hx pins σ _ _ e s' I2 hq'
 | ok fl =>
   cases fl with
   | ret u =>
     obtain ⟨v,H',I3,rv,ev,q3⟩:=I2.after hq'
     subst ev
     exact ⟨rv,⟨V.ref (s.heap.objs.size + 1),H',I3,rfl,q3⟩⟩
   | next=>exact False.elim hq'
   | brk=>exact False.elim hq'
   | cont=>exact False.elim hq'
theorem pe_make (M:Mk X.K C f) (F:FnOk X.prog X.w X.K X.mg X.base CX k f fd ps sp) (hr:Room (k + 1) X.A) (hg:Gl X x) (hm:X.mg x=some (.ref C)) (hb:Binds X.K fd ps ds) (hd:Vals dvs ds) (hx:Passes CX X E)
 (ha:PA X (e :: es) t) (hdb:(x == ("__debug__" : Str))=false:=by decide) (he:starEach (e :: es) X.env=(false,eval e X.env) :: starEach es X.env:=by rfl) (hpl:(backTo pos (starEach es X.env)).any (·.1)=false:=by rfl) :
 PE X (.Call (.Name x p) (e :: es) [] pos) (tMake C sp dvs E t):=by
 intro pins s σ H Q I h
 refine wpAny_Call_Name_kw (ld_glob I hg hm ?_ hdb)
 refine PySem.W.callWith_K (h₀:=X.base) I.ok.mod.kin M.kp (thn (ha pos pins s σ H _ I h) fun us s1 ⟨vs,H1,I1,r,q⟩=>⟨I1.kIn,?_⟩) he hpl
 exact run_make M F hr hb hd hx I1 r q
end
section
variable {X:Cx} {CX:CXT} {k:Nat} {f C:Addr} {fd:FuncData} {ps ks:List Str} {sp:Sp} {E:XK} {x m:Str} {p pos apos kpos:Pos} {e o:Expr} {es:List Expr} {kws:List Keyword} {te ta:TE} {t tk:TA} {nm:Option Str}
variable {g:List Value→List Value→List Value} {gV:List V→List V→List V}
end
structure FnScope (N P:List Str) (sc:Scope):Prop where
 kind:sc.kind=.function
 co:sc.isCoroutine=false
 gen:sc.isGenerator=false
 nd:N.Nodup
 pre:N.take P.length=P
 par:∀ x∈P,sc.names.lookup x=some .local∨sc.names.lookup x=some .cell
 nofree:∀ y∈sc.names,y.2≠.free
theorem bindL_out {kindOf:Str→Option NameKind} {x:Str}:∀ {binds:List (Str × Value)} {m:Str→Option Value},(∀ v,(x,v) ∉ binds)→bindL kindOf binds m x=m x
 | [],_,_=>rfl
 | (n,v) :: r,m,h=>by
   unfold bindL
   rw [bindL_out fun w hw=>h w (List.mem_cons_of_mem _ hw)]
   split
   · have:x≠n:=by rintro rfl; exact h v List.mem_cons_self
     simp [this]
   · rfl
theorem bindC_out {kindOf:Str→Option NameKind} {x:Str}:∀ {binds:List (Str × Value)} {m:Str→Option Value},(∀ v,(x,v) ∉ binds)→bindC kindOf binds m x=m x
 | [],_,_=>rfl
 | (n,v) :: r,m,h=>by
   unfold bindC
   rw [bindC_out fun w hw=>h w (List.mem_cons_of_mem _ hw)]
   split
   · rfl
   · have:x≠n:=by rintro rfl; exact h v List.mem_cons_self
     simp [this]
theorem bindL_get {kindOf:Str→Option NameKind} {x:Str} {v:Value}:∀ {P:List Str} {vs:List Value} {i:Nat} {m:Str→Option Value},P.Nodup→P[i]?=some x→vs[i]?=some v→kindOf x=some .local →
 bindL kindOf (P.zip vs) m x=some v
 | [],_,_,_,_,h,_,_=>by simp at h
 | _ :: _,[],_,_,_,_,h,_=>by simp at h
 | p :: P,w :: vs,0,m,nd,h1,h2,hk=>by
   simp at h1 h2; subst h1; subst h2
   show bindL kindOf ((p,w) :: P.zip vs) m p=_
   unfold bindL
   rw [bindL_out fun v hv=>(List.nodup_cons.mp nd).1 (List.of_mem_zip hv).1,if_pos hk]
   simp
 | p :: P,w :: vs,i + 1,m,nd,h1,h2,hk=>by
   show bindL kindOf ((p,w) :: P.zip vs) m x=_
   unfold bindL
   exact bindL_get (i:=i) (List.nodup_cons.mp nd).2 (by simpa using h1) (by simpa using h2) hk
theorem bindC_get {kindOf:Str→Option NameKind} {x:Str} {v:Value}:∀ {P:List Str} {vs:List Value} {i:Nat} {m:Str→Option Value},P.Nodup→P[i]?=some x→vs[i]?=some v→kindOf x≠some .local →
 bindC kindOf (P.zip vs) m x=some v
 | [],_,_,_,_,h,_,_=>by simp at h
 | _ :: _,[],_,_,_,_,h,_=>by simp at h
 | p :: P,w :: vs,0,m,nd,h1,h2,hk=>by
   simp at h1 h2; subst h1; subst h2
   show bindC kindOf ((p,w) :: P.zip vs) m p=_
   unfold bindC
   rw [bindC_out fun v hv=>(List.nodup_cons.mp nd).1 (List.of_mem_zip hv).1,if_neg hk]
   simp
 | p :: P,w :: vs,i + 1,m,nd,h1,h2,hk=>by
   show bindC kindOf ((p,w) :: P.zip vs) m x=_
   unfold bindC
   exact bindC_get (i:=i) (List.nodup_cons.mp nd).2 (by simpa using h1) (by simpa using h2) hk
def start (N:List Str) (vs:List V):St:=vs.map some++List.replicate (N.length - vs.length) none
def cxOf (CX:CXT) (P:Program) (w:World) (K:PySem.W.Frag) (mg:Str→Option Value) (base:Heap) (N:List Str) (qual:Str) (scope:Scope) (f:Addr) (cd:Value) (A:Around) (outer:List Env) (s:Shared) (H:Hp) (E:XK):Cx where
 prog:=P
 w:=w
 K:=K
 mg:=mg
 base:=base
 A:=A.deeper (envOfC qual scope s.heap.objs.size f cd)
 N:=N
 s₀:=s
 H₀:=H
 env:=envOfC qual scope s.heap.objs.size f cd
 outer:=outer
 stack:=envOfC qual scope s.heap.objs.size f cd :: outer
 ex:=[]
 calm:=true
 fn:=fun _=>true
 pn:=[]
 xe:=fun e s'=>wpAny (model P w) (A.deeper (envOfC qual scope s.heap.objs.size f cd)) («leaving» (envOfC qual scope s.heap.objs.size f cd) e) (fun _ s''=>CX outer H s E e s'') (fun e' s''=>CX outer H s E e' s'') s'
theorem cell_has {sc:Scope} {n:Nat} {x:Str} (h:sc.names.lookup x=some .cell):∃ c,(cellsFrom n sc.names []).lookup x=some c:=by
 have q:=PySem.W.cellsFrom_some sc.names n [] (.inl h)
 exact Option.isSome_iff_exists.mp q
theorem inv_start {CX:CXT} {P:Program} {w:World} {K:PySem.W.Frag} {mg:Str→Option Value} {base:Heap} {N ps:List Str} {qual:Str} {scope:Scope} {f:Addr} {cd:Value} {A:Around} {outer:List Env} {s s1:Shared} {H:Hp} {E:XK} {us:List Value} {vs:List V}
 (S:FnScope N ps scope) (hd:A.handled=none) (e0:Env0 P w K mg base A outer s H) (hl:vs.length=ps.length) (r:Vals vs us)
 (x:InCallC s s.heap.objs.size (bindL (envOfC qual scope s.heap.objs.size f cd).kindOf (ps.zip us) fun _=>none) (cellsFrom (s.heap.objs.size + 1) scope.names []) (bindC (envOfC qual scope s.heap.objs.size f cd).kindOf (ps.zip us) fun _=>none) s1) :
 Inv (cxOf CX P w K mg base N qual scope f cd A outer s H E) [] (start N vs) H s1:=by
 have hpl:ps.length≤N.length:=by have:=congrArg List.length S.pre; rw [List.length_take] at this; omega
 obtain ⟨h1,tk,rfl,hk⟩:=x.done
 have noA:∀ b:Addr,b ∉ (cxOf CX P w K mg base N qual scope f cd A outer s H E).ex:=fun b z=>absurd (show b∈([]:List Addr) from z) (by simp)
 refine ⟨⟨e0.mod,S.kind,rfl,rfl,Nat.le_refl _,fun y z c h1 h2=>?_,fun y hy=>?_,fun y c _ h=>?_,fun _=>hd,Around.frames_deeper e0.frames,.inr ⟨rfl,rfl⟩,fun b z=>absurd z (noA b),e0.bs,e0.bsz,fun b _ _=>noA b,fun b z=>absurd z (noA b),e0.funs,e0.frf⟩,
  rfl,e0.bare,Un.kept hk,⟨_,x.toInCall.ns,fun i y v h1 h2 h3=>?_⟩,fun y c h=>⟨_,x.cell y c h⟩,e0.hok.fresh (Nat.le_refl _),fun y c h=>?_,fun p hp=>absurd (show p∈([]:List (Addr × Obj)) from hp) (by simp),e0.hok.kept hk,?_⟩
 · exact name_of_addr x.apart (PySem.mem_of_lookup h1) (PySem.mem_of_lookup h2)
 · have hy:scope.names.lookup y=some .cell∨scope.names.lookup y=some .free:=hy
   rcases hy with hy | hy
   · exact cell_has hy
   · exact absurd rfl (S.nofree _ (PySem.mem_of_lookup hy))
 · exact Nat.le_of_lt (x.above y c (PySem.mem_of_lookup h))
 · have hi:i < vs.length:=by
    unfold start at h2
    by_cases hi:i < vs.length
    · exact hi
    · rw [List.getElem?_append_right (by simpa using hi)] at h2
      rw [List.getElem?_replicate] at h2
      split at h2 <;> cases h2
   have ha:vs[i]?=some v:=by
    unfold start at h2
    rw [List.getElem?_append_left (by simpa using hi),List.getElem?_map] at h2
    cases e:vs[i]? with
    | none=>rw [e] at h2; cases h2
    | some a=>rw [e] at h2; cases h2; rfl
   obtain ⟨u,hu,rv⟩:=r.get ha
   have hp:ps[i]?=some y:=by
    rw [←S.pre,List.getElem?_take_of_lt (by omega)]; exact h1
   have ndP:ps.Nodup:=by rw [←S.pre]; exact S.nd.sublist (List.take_sublist _ _)
   refine ⟨u,rv,?_⟩
   rcases S.par y (List.mem_of_getElem? hp) with k | k
   · exact .inl ⟨k,bindL_get ndP hp hu k⟩
   · obtain ⟨c,e⟩:=cell_has (n:=s.heap.objs.size + 1) k
     refine .inr ⟨.inl k,c,e,?_⟩
     have q:=x.cell y c e
     rw [bindC_get ndP hp hu (by show scope.names.lookup y≠_; rw [k]; decide)] at q
     exact q
 · exact e0.hok.fresh (Nat.le_of_lt (x.above y c (PySem.mem_of_lookup h)))
 · unfold start
   show _=N.length
   rw [List.length_append,List.length_map,List.length_replicate]
   omega
theorem fn_of {CX:CXT} {P:Program} {w:World} {K:PySem.W.Frag} {mg:Str→Option Value} {base:Heap} {k:Nat} {f:Addr} {name qual:Str} {params:Arguments} {body:List Stmt} {scope:Scope} {dV kV doc pm cdv ct oc:Value} {an od:Option Addr}
 {osl:Array (Option Value)} {N ps:List Str} {sp:Sp} (lk:K.lookup f=some ⟨oc,od,.func (PySem.W.fnOf name qual params body scope dV kV doc pm an cdv ct),osl⟩) (hcd:PySem.W.codeIn K cdv qual=true) (S:FnScope N ps scope)
 (len:∀ vs H Q E,sp vs H Q E→vs.length=ps.length)
 (hbody:∀ (A:Around) (outer:List Env) (s:Shared) (H:Hp) (vs:List V) (Q:VK) (E:XK),Room k (A.deeper (envOfC qual scope s.heap.objs.size f cdv))→sp vs H Q E →
  ∃ t,PSs (cxOf CX P w K mg base N qual scope f cdv A outer s H E) body t∧t { nx:=fun _ H'=>Q .non H',rt:=Q } (start N vs) H) :
 FnOk P w K mg base CX (k + 1) f (PySem.W.fnOf name qual params body scope dV kV doc pm an cdv ct) ps sp:=by
 refine ⟨len,fun A outer s H args us vs Q E hr e0 hb r hsp=>?_⟩
 have hl:=len _ _ _ _ hsp
 have KX:K.In s.heap:=e0.mod.kin.keeps fun b o e=>(e0.bs b o e).1
 have lim:s.heap.NoLimit:=e0.mod.nolimit.keeps fun b o e=>(e0.bs b o e).1
 have hkind:∀ y∈ps.zip us,scope.names.lookup y.1=some .local∨(scope.names.lookup y.1=some .cell∧((cellsFrom (s.heap.objs.size + 1) scope.names []).lookup y.1).isSome=true):=fun ⟨n,v⟩ hy=>by
  rcases S.par n (List.of_mem_zip hy).1 with q | q
  · exact .inl q
  · exact .inr ⟨q,PySem.W.cellsFrom_some _ _ _ (.inl q)⟩
 refine codeAny_call_function hr.depth (KX _ _ lk) rfl S.co S.gen rfl (PySem.W.codeRec_of KX hcd) (hb _ _ _ _ ?_)
 refine wpAny_newFunctionEnv_cells S.kind hkind fun env he s1 x=>?_
 subst he
 refine ⟨lim.keeps x.toInCall.keep,codeAny_func ?_⟩
 obtain ⟨t,ht,hq⟩:=hbody A outer s H vs Q E (hr.deeper _) hsp
 have I:Inv (cxOf CX P w K mg base N qual scope f cdv A outer s H E) [] (start N vs) H s1:=inv_start S hr.hd e0 hl r x
 refine wpAny_mono (ht [] s1 (start N vs) H _ I hq) (fun fl s' hs=>?_) fun e s' hs=>hs
 have fin:∀ {σ':St} {H':Hp} {v:V} {u:Value},Inv (cxOf CX P w K mg base N qual scope f cdv A outer s H E) [] σ' H' s'→RelV v u→Q v H'→CE outer P w H s Q u s' :=
  fun {σ' H' v u} J rv q=>⟨v,H',J.os,J.bare,J.base,J.hok,rv,q⟩
 cases fl with
 | ret u =>
   obtain ⟨v,σ',H',J,rv,q⟩:=hs
   exact fin J rv q
 | next =>
   obtain ⟨σ',H',J,q⟩:=hs
   exact fin (v:=V.non) (u:=Value.none) J rfl q
 | brk =>
   obtain ⟨_,_,_,q⟩:=hs
   exact False.elim q
 | cont =>
   obtain ⟨_,_,_,q⟩:=hs
   exact False.elim q
end L2
namespace L2
open PySem PySem.Spec PyProof.Rows
section
variable {X:Cx} {x:Str} {p pos:Pos} {e:Expr} {es:List Expr} {t:TA} {id T:String} {r:List V→Hp→VK→Prop}
def tCB (r:List V→Hp→VK→Prop) (t:TA):TE:=fun σ H Q=>t σ H fun vs H1=>r vs H1 Q
theorem pe_callB (hc:CallR X (.builtin id) r) (hm:X.mg x=none) (ha:PA X (e :: es) t) (hg:Gl X x:=by rfl) (hv:bootBuiltins x=some (.builtin id):=by decide +kernel) (hn:x ≠ "__name__" := by decide) (hdb:(x == ("__debug__" : Str))=false:=by decide)
 (he:starEach (e :: es) X.env=(false,eval e X.env) :: starEach es X.env:=by rfl) (hpl:(backTo pos (starEach es X.env)).any (·.1)=false:=by rfl):PE X (.Call (.Name x p) (e :: es) [] pos) (tCB r t):=by
 intro pins s σ H Q I h
 refine wpAny_Call_Name_kw (ld_blt I hg hm hv ?_ hn hdb)
 exact PyProof.Rows.callWith_builtin1 (thn (ha pos pins s σ H _ I h) fun us s1 ⟨vs,H1,I1,r1,q1⟩=>hc pins s1 σ H1 vs us Q I1 r1 q1) he hpl
theorem pe_callTy (hc:CallR X (.type T) r) (hm:X.mg x=none) (ha:PA X (e :: es) t) (hg:Gl X x:=by rfl) (hv:bootBuiltins x=some (.type T):=by decide +kernel) (hn:x ≠ "__name__" := by decide) (hdb:(x == ("__debug__" : Str))=false:=by decide)
 (he:starEach (e :: es) X.env=(false,eval e X.env) :: starEach es X.env:=by rfl) (hpl:(backTo pos (starEach es X.env)).any (·.1)=false:=by rfl):PE X (.Call (.Name x p) (e :: es) [] pos) (tCB r t):=by
 intro pins s σ H Q I h
 refine wpAny_Call_Name_kw (ld_blt I hg hm hv ?_ hn hdb)
 exact PyProof.Rows.callWith_type1 (thn (ha pos pins s σ H _ I h) fun us s1 ⟨vs,H1,I1,r1,q1⟩=>hc pins s1 σ H1 vs us Q I1 r1 q1) he hpl
end
end L2
namespace HT
open PySem PyProof.Rows
section
open PySem.SeqAt
open PySem.AutoSeq1 (wpAny_loadPart')
open PySem.MeetsSeq PySem.MeetsSeq2 PySem.MeetsSeq3
end
section
variable {prog:Program} {w:World} {A:Around} {E:Value→Shared→Prop} {s:Shared}
def sIx (n d:Nat):Option Int→Nat
 | none=>d
 | some v=>if v < 0 then (v + (n:Int)).toNat else min v.toNat n
theorem sIx_none (n d:Nat):sIx n d none=d:=rfl
theorem sIx_nat (n d k:Nat):sIx n d (some (k:Int))=min k n:=by
 show (if (k:Int) < 0 then ((k:Int) + (n:Int)).toNat else min (k:Int).toNat n)=min k n
 rw [if_neg (by omega),Int.toNat_natCast]
end
end HT
namespace L2
open PySem PySem.Spec PyProof.Rows
abbrev TO:=St→Hp→(Option Int→Hp→Prop)→Prop
def PO (X:Cx) (e:Option Expr) (t:TO):Prop :=
 ∀ (pins:List (Addr × Obj)) (s:Shared) (σ:St) (H:Hp) (Q:Option Int→Hp→Prop),Inv X pins σ H s→t σ H Q →
  wpAny (model X.prog X.w) X.A (evalPart e X.env) (fun u s'=>∃ o H',Inv X pins σ H' s'∧IsPart u o∧Q o H') X.xe s
def tNoPart:TO:=fun _ H Q=>Q none H
def tPart (t:TE):TO:=fun σ H Q=>t σ H fun x H1=>∃ i,x=.int i∧Q (some i) H1
section
variable {X:Cx} {e:Expr} {te:TE} {lo hi:Option Expr} {tl th:TO} {pos p2:Pos}
theorem po_none:PO X none tNoPart:=by
 intro pins s σ H Q I h
 rw [evalPart_none]
 exact wpAny_pure ⟨none,H,I,.none,h⟩
theorem po_some (h:PE X e te):PO X (some e) (tPart te):=by
 intro pins s σ H Q I hw
 rw [evalPart_some]
 refine thn (h pins s σ H _ I hw) fun u s1 ⟨x,H1,I1,r1,q1⟩=>?_
 obtain ⟨i,rfl,q⟩:=q1
 obtain ⟨t,rfl⟩:=r1
 exact ⟨some i,H1,I1,.int i t,q⟩
def SlR (X:Cx) (r:V→Option Int→Option Int→Hp→VK→Prop):Prop :=
 ∀ (pins:List (Addr × Obj)) (s:Shared) (σ:St) (H:Hp) (x:V) (v vl vu:Value) (lo hi:Option Int) (sl:Addr) (Q:VK),Inv X pins σ H s→RelV x v→s.heap.IsSliceOf sl vl vu .none→IsPart vl lo→IsPart vu hi→r x lo hi H Q →
  ∃ T id,typeLookup (.type T) "__getitem__" = pure (some (.builtin id))∧s.TypeIs v T∧wpAny (model X.prog X.w) X.A (getItem v (.ref sl)) (EP X pins σ Q) X.xe s
def tSl (r:V→Option Int→Option Int→Hp→VK→Prop) (te:TE) (tl th:TO):TE:=fun σ H Q=>te σ H fun x H1=>tl σ H1 fun l H2=>th σ H2 fun u H3=>r x l u H3 Q
theorem pe_slice {r:V→Option Int→Option Int→Hp→VK→Prop} (hr:SlR X r) (he:PE X e te) (hl:PO X lo tl) (hu:PO X hi th):PE X (.Subscript e (.Slice lo hi none p2) pos) (tSl r te tl th):=by
 intro pins s σ H Q I h
 refine Subscript_ (thn (he pins s σ H _ I h) fun v s1 ⟨x,H1,I1,r1,q1⟩=>?_)
 refine wpAny_Slice (thn (hl pins s1 σ H1 _ I1 q1) fun vl s2 ⟨l,H2,I2,pl,q2⟩=>thn (hu pins s2 σ H2 _ I2 q2) fun vu s3 ⟨u,H3,I3,pu,q3⟩=>?_)
 rw [evalPart_none]
 refine wpAny_pure ?_
 have I4:Inv X pins σ H3 { s3 with heap:=s3.heap.push { cls:=.type "slice",data:=.fields #[vl,vu,.none] } }:=I3.kept (t':=s3.toks) fun b ob q=>Heap.get?_push_of_some _ q
 obtain ⟨T,id,hT,ht,hg⟩:=hr pins { s3 with heap:=s3.heap.push { cls:=.type "slice",data:=.fields #[vl,vu,.none] } } σ H3 x v vl vu l u s3.heap.objs.size Q I4 r1 (Heap.IsSliceOf.new ..) pl pu q3
 show wpAny (model X.prog X.w) X.A (subscriptTail e (.Slice lo hi none p2) v (.ref s3.heap.objs.size)) (EP X pins σ Q) X.xe { s3 with heap:=s3.heap.push { cls:=.type "slice",data:=.fields #[vl,vu,.none] } }
 exact tail_any (ops:=[.ref s3.heap.objs.size,v]) ht hT hg (by with_unfolding_all rfl)
def cutV (xs:List V) (lo hi:Option Int):List V:=(xs.drop (HT.sIx xs.length 0 lo)).take (HT.sIx xs.length xs.length hi - HT.sIx xs.length 0 lo)
theorem cutV_length (xs:List V) (lo hi:Option Int):(cutV xs lo hi).length≤xs.length:=by
 unfold cutV
 rw [List.length_take,List.length_drop]
 omega
end
end L2
namespace L2
open PySem PySem.Spec PyProof.Rows
def ixN (n:Nat) (i:Int):Option Nat:=if 0≤i then (if i < n then some i.toNat else none) else if -(n:Int)≤i then some (i + n).toNat else none
def atI {α:Type} (xs:List α) (i:Int):Option α:=(ixN xs.length i).bind fun j=>xs[j]?
theorem ixN_seq {n:Nat} {i:Int} {j:Nat} (h:ixN n i=some j):seqIndex? i n=some j∧j < n∧-(n:Int)≤i∧i < n:=by
 unfold ixN at h
 by_cases h0:0≤i
 · rw [if_pos h0] at h
   by_cases h1:i < n
   · rw [if_pos h1] at h
     have e:i.toNat=j:=Option.some.inj h
     exact ⟨by rw [seqIndex_of h0 h1,e],by omega,by omega,h1⟩
   · rw [if_neg h1] at h; cases h
 · rw [if_neg h0] at h
   by_cases h1:-(n:Int)≤i
   · rw [if_pos h1] at h
     have e:(i + n).toNat=j:=Option.some.inj h
     exact ⟨by rw [seqIndex_neg (by omega) h1,e],by omega,h1,by omega⟩
   · rw [if_neg h1] at h; cases h
theorem atI_get {α:Type} {xs:List α} {i:Int} {v:α} (h:atI xs i=some v):∃ j,seqIndex? i xs.length=some j∧xs[j]?=some v∧j < xs.length∧-(xs.length:Int)≤i∧i < xs.length:=by
 unfold atI at h
 cases e:ixN xs.length i with
 | none=>rw [e] at h; cases h
 | some j =>
   rw [e] at h
   obtain ⟨h1,h2,h3,h4⟩:=ixN_seq e
   exact ⟨j,h1,h,h2,h3,h4⟩
theorem atI_nat {α:Type} {xs:List α} {j:Nat} {v:α} (h:xs[j]?=some v):atI xs (j:Int)=some v:=by
 have hj:j < xs.length:=(List.getElem?_eq_some_iff.mp h).1
 have e:ixN xs.length (j:Int)=some j:=by
  unfold ixN
  rw [if_pos (by omega),if_pos (by omega)]; simp
 unfold atI; rw [e]; exact h
theorem atI_last {α:Type} (xs:List α) (v:α):atI (xs++[v]) (-1)=some v:=by
 have hl:(xs++[v]).length=xs.length + 1:=by simp
 have e:ixN (xs++[v]).length (-1)=some xs.length:=by
  unfold ixN
  rw [hl,if_neg (by decide),if_pos (by omega)]
  congr 1
  omega
 unfold atI
 rw [e]
 show (xs++[v])[xs.length]?=some v
 simp
def PlainIx (b:Expr):Prop:=∀ o i,subscripted b false o i=operate [o,i] (getItem o i)
def IxR (X:Cx) (r:R2):Prop :=
 ∀ (value slice:Expr) (pins:List (Addr × Obj)) (s:Shared) (σ:St) (H:Hp) (x y:V) (v u:Value) (Q:VK),Inv X pins σ H s→RelV x v→RelV y u→r x y H Q →
  subscripted slice false v u=operate [v,u] (getItem v u)→wpAny (model X.prog X.w) X.A (subscriptTail value slice v u) (EP X pins σ Q) X.xe s
def MtR (X:Cx) (id:String) (r:V→List V→Hp→VK→Prop):Prop :=
 ∀ (pins:List (Addr × Obj)) (s:Shared) (σ:St) (H:Hp) (x:V) (xs:List V) (v:Value) (us:List Value) (Q:VK),Inv X pins σ H s→RelV x v→Vals xs us→r x xs H Q →
  wpAny (model X.prog X.w) X.A (call (.builtin id) (v :: us)) (EP X pins σ Q) X.xe s
section
variable {X:Cx} {a b:Expr} {ta tb:TE} {pos:Pos}
theorem IxR.or {r r':R2} (h:IxR X r) (h':IxR X r'):IxR X (fun x y H Q=>r x y H Q∨r' x y H Q):=by
 intro value slice pins s σ H x y v u Q I rx ry q hs
 rcases q with q | q
 · exact h value slice pins s σ H x y v u Q I rx ry q hs
 · exact h' value slice pins s σ H x y v u Q I rx ry q hs
theorem pe_ix {r:R2} (hr:IxR X r) (ha:PE X a ta) (hb:PE X b tb) (hs:PlainIx b:=by exact fun _ _=>rfl):PE X (.Subscript a b pos) (tOp r ta tb):=by
 intro pins s σ H Q I h
 exact Subscript_ (binT ha hb I h fun v u s2 x y H2 I2 rx ry q=>hr a b pins s2 σ H2 x y v u Q I2 rx ry q (hs _ _))
def rIxL (K:PySem.W.Frag):R2:=fun x y H Q=>∃ p xs i v,x=.ref p∧y=.int i∧SqL K H p xs∧atI xs i=some v∧Q v H
def rIxT (K:PySem.W.Frag):R2:=fun x y H Q=>∃ p xs i v,x=.ref p∧y=.int i∧SqT K H p xs∧atI xs i=some v∧Q v H
def rIxS:R2:=fun x y H Q=>∃ z i c,x=.str z∧y=.int i∧z.length≤sizeLine∧atI z.cps.toList i=some c∧Q (.str ⟨#[c]⟩) H
theorem ix_list:IxR X (rIxL X.K):=by
 intro value slice pins s σ H x y v u Q I rx ry h hs
 obtain ⟨p,xs,i,z,rfl,rfl,hq,he,q⟩:=h
 cases rx
 obtain ⟨t,rfl⟩:=ry
 obtain ⟨its,r,pl,hz⟩:=I.list hq
 obtain ⟨j,h1,h2,h3,h4,h5⟩:=atI_get he
 obtain ⟨w,ew,rw'⟩:=r.get h2
 have hl:=r.length
 have hn:=line63
 have fin:EP X pins σ Q w s:=⟨z,H,I,rw',q⟩
 by_cases h0:0≤i
 · have hj:i.toNat=j:=by
    rw [seqIndex_of h0 h5] at h1
    exact Option.some.inj h1
   exact item_listR pl.isList h0 (by omega) (by rw [hj]; simpa using ew) fin hs
 · have hj:(i + (its.toArray.size:Int)).toNat=j:=by
    rw [seqIndex_neg (by omega) h4] at h1
    rw [List.size_toArray,←hl]
    exact Option.some.inj h1
   exact subscriptTail_builtinR (x:=w) pl.isList.typeIs slot_list_getitem.lookup
    (wpAny_getItem_list_neg (Q:=fun r s'=>r=w∧EP X pins σ Q r s') pl.isList (by omega) (by rw [List.size_toArray] <;> omega) (by omega) (by rw [hj]; simpa using ew) ⟨rfl,fin⟩) hs
theorem ix_tup:IxR X (rIxT X.K):=by
 intro value slice pins s σ H x y v u Q I rx ry h hs
 obtain ⟨p,xs,i,z,rfl,rfl,hq,he,q⟩:=h
 cases rx
 obtain ⟨t,rfl⟩:=ry
 obtain ⟨its,r,pl,hz⟩:=I.tuple hq
 obtain ⟨j,h1,h2,h3,h4,h5⟩:=atI_get he
 obtain ⟨w,ew,rw'⟩:=r.get h2
 have hl:=r.length
 have hn:=line63
 have fin:EP X pins σ Q w s:=⟨z,H,I,rw',q⟩
 exact subscriptTail_builtinR (x:=w) pl.typeIs slot_tuple_getitem.lookup
  (getItem_tuple (j:=j) (Q:=fun r s'=>r=w∧EP X pins σ Q r s') pl (by omega) (by omega) (by rw [List.size_toArray,←hl]; exact h1) (by simpa using ew) ⟨rfl,fin⟩) hs
theorem ix_str:IxR X rIxS:=by
 intro value slice pins s σ H x y v u Q I rx ry h hs
 obtain ⟨z,i,c,rfl,rfl,hz,he,q⟩:=h
 obtain ⟨t,rfl⟩:=rx
 obtain ⟨t',rfl⟩:=ry
 obtain ⟨j,h1,h2,h3,h4,h5⟩:=atI_get he
 have hl:z.cps.toList.length=z.length:=by simp [Str.length]
 rw [hl] at h1 h4 h5
 have hn:=line63
 exact tail_any (typeIs_str s z t) slot_str_getitem.lookup (getItem_str (c:=c) (by
  have e1:decide (i < -(2 ^ 63:Int))=false:=decide_eq_false (by omega)
  have e2:decide (i ≥ 2 ^ 63)=false:=decide_eq_false (by omega)
  rw [e1,e2,Bool.or_false]) (by rw [h1]; simpa using h2) ⟨.str ⟨#[c]⟩,H,I.tok _,⟨_,rfl⟩,q⟩) hs
def rIx (K:PySem.W.Frag):R2:=fun x y H Q=>rIxL K x y H Q∨rIxT K x y H Q∨rIxS x y H Q
theorem ix_seq:IxR X (rIx X.K):=ix_list.or (ix_tup.or ix_str)
theorem mapSeq_set (its:List Value) (n j:Nat) (u:Value):Obj.mapSeq (·.setIfInBounds j u) { cls:=.type "list",data:=.seq its.toArray n }={ cls:=.type "list",data:=.seq (its.set j u).toArray n }:=by
 simp [Obj.mapSeq]
theorem Inv.lst {pins:List (Addr × Obj)} {σ:St} {H:Hp} {s:Shared} {p:Addr} {xs:List V} (I:Inv X pins σ H s) (h:H p=some (.lst xs)) :
 ∃ (its:List Value) (n:Nat),Vals xs its∧s.heap.get? p=some { cls:=.type "list",data:=.seq its.toArray n }∧xs.length≤sizeLine:=by
 obtain ⟨z,its,n,r,e⟩:=I.hok p _ h
 exact ⟨its,n,r,e,z⟩
theorem Inv.lstUpd {pins:List (Addr × Obj)} {σ:St} {H:Hp} {s:Shared} {p:Addr} {xs ys:List V} {its its':List Value} {n n':Nat} {f:Obj→Obj} (I:Inv X pins σ H s) (h:H p=some (.lst xs))
 (ho:s.heap.get? p=some { cls:=.type "list",data:=.seq its.toArray n }) (hf:f { cls:=.type "list",data:=.seq its.toArray n }={ cls:=.type "list",data:=.seq its'.toArray n' }) (r:Vals ys its') (hz:ys.length≤sizeLine) (t:Nat) :
 Inv X pins σ (upd H p (.lst ys)) { s with heap:=s.heap.update p f,toks:=t }:=by
 have e:(s.heap.update p f).get? p=some { cls:=.type "list",data:=.seq its'.toArray n' }:=by
  rw [Heap.get?_update_self f ho (by rw [hf] <;> rfl),hf]
 refine I.write (x:=p) (e:=p) (by rw [h]; trivial) (.inl rfl) (fun b u hb q=>(Heap.get?_update_other _ _ (Ne.symm hb)).trans q) ⟨_,e⟩ ?_
 exact ⟨hz,its',n',r,e⟩
def rSetL:V→V→V→Hp→(Hp→Prop)→Prop:=fun o i v H Q=>∃ p xs k j,o=.ref p∧i=.int k∧H p=some (.lst xs)∧ixN xs.length k=some j∧Q (upd H p (.lst (xs.set j v)))
theorem set_list:PSet X rSetL:=by
 intro pins s σ H o i v ov iv u Q I ro ri rv h
 obtain ⟨p,xs,k,j,rfl,rfl,hp,hj,q⟩:=h
 cases ro
 obtain ⟨t,rfl⟩:=ri
 obtain ⟨its,n,r,ho,hz⟩:=I.lst hp
 obtain ⟨h1,h2,h3,h4⟩:=ixN_seq hj
 have hl:=r.length
 have hn:=line63
 have I':Inv X pins σ (upd H p (.lst (xs.set j v))) { s with heap:=s.heap.update p (Obj.mapSeq (·.setIfInBounds j u)) } :=
  I.lstUpd hp ho (mapSeq_set its n j u) (r.set rv j) (by rw [List.length_set]; exact hz) s.toks
 by_cases h0:0≤k
 · have hk:k.toNat=j:=by
    rw [seqIndex_of h0 h4] at h1
    exact Option.some.inj h1
   exact PySem.W.ki_setAt ho h0 (by omega) (by rw [List.size_toArray,←hl]; exact h4) (by rw [hk]; exact ⟨_,I',q⟩)
 · have hk:(k + (its.toArray.size:Int)).toNat=j:=by
    rw [seqIndex_neg (by omega) h3] at h1
    rw [List.size_toArray,←hl]
    exact Option.some.inj h1
   exact PySem.W.ki_setBack ho (by omega) (by rw [List.size_toArray,←hl]; exact h3) (by omega) (by rw [hk]; exact ⟨_,I',q⟩)
theorem slice_bounds (lo hi:Option Int) (n:Nat):(sliceBounds lo hi none n).1=((HT.sIx n 0 lo:Nat):Int)∧(sliceBounds lo hi none n).2.1=((HT.sIx n n hi:Nat):Int)∧(sliceBounds lo hi none n).2.2=1:=by
 refine ⟨?_,?_,rfl⟩
 · cases lo with
   | none=>simp [sliceBounds,HT.sIx]
   | some i =>
     simp only [sliceBounds,HT.sIx,Option.getD_none,show (1:Int) > 0 by decide,if_true]
     by_cases h:i < 0
     · simp only [h,if_true] <;> omega
     · simp only [h,if_false] <;> omega
 · cases hi with
   | none=>simp [sliceBounds,HT.sIx]
   | some i =>
     simp only [sliceBounds,HT.sIx,Option.getD_none,show (1:Int) > 0 by decide,if_true]
     by_cases h:i < 0
     · simp only [h,if_true] <;> omega
     · simp only [h,if_false] <;> omega
theorem slicePick_cut (its:List Value) (lo hi:Option Int):slicePick its.toArray lo hi none=((its.drop (HT.sIx its.length 0 lo)).take (HT.sIx its.length its.length hi - HT.sIx its.length 0 lo)).toArray:=by
 obtain ⟨h1,h2,h3⟩:=slice_bounds lo hi its.toArray.size
 unfold slicePick
 rw [h1,h2,h3]
 simp only [sliceRange_one,pick_run,List.size_toArray] <;> rfl
def rSlL (K:PySem.W.Frag):V→Option Int→Option Int→Hp→VK→Prop:=fun x lo hi H Q=>∃ a xs,x=.ref a∧SqL K H a xs∧∀ p,H p=none→Q (.ref p) (upd H p (.lst (cutV xs lo hi)))
theorem sl_list:SlR X (rSlL X.K):=by
 intro pins s σ H x v vl vu lo hi sl Q I rx hs pl pu h
 obtain ⟨a,xs,rfl,hx,q⟩:=h
 cases rx
 obtain ⟨its,r,ht,hz⟩:=I.list hx
 have hlen:=r.length
 refine ⟨"list",_,slot_list_getitem.lookup,ht.isList.typeIs,?_⟩
 refine wpAny_getItem_list_slice ht.isList hs pl pu .none (by simp) ?_ (by rw [List.size_toArray] <;> omega)
 rw [slicePick_cut,←hlen]
 refine ⟨.ref s.heap.objs.size,_,I.laid (t':=s.toks) (o:=.lst (cutV xs lo hi)) (fun b ob q=>Heap.get?_push_of_some _ q) (Nat.le_refl _) ?_,rfl,q _ (I.hok.fresh (Nat.le_refl _))⟩
 exact ⟨Nat.le_trans (cutV_length xs lo hi) hz,_,0,(r.drop (HT.sIx xs.length 0 lo)).take (HT.sIx xs.length xs.length hi - HT.sIx xs.length 0 lo),Heap.get?_push_size _ rfl⟩
def flatV:V→Bool
 | .non=>true
 | .bl _=>true
 | .int _=>true
 | .str _=>true
 | _=>false
def eqV:V→V→Bool
 | .non,.non=>true
 | .bl a,.bl b=>a == b
 | .bl a,.int b=>(if a then 1 else 0) == b
 | .int a,.bl b=>a == (if b then 1 else 0)
 | .int a,.int b=>a == b
 | .str a,.str b=>a == b
 | _,_=>false
theorem eqAt_V {A:Around} {s:Shared} {y x:V} {u v:Value} (ry:RelV y u) (rx:RelV x v) (fy:flatV y=true) (fx:flatV x=true):SeqAt.EqAt A s u v (eqV y x):=by
 cases y with
 | non =>
   cases ry
   cases x with
   | non=>cases rx; exact SeqAt.EqAt.same _
   | bl b=>cases rx; exact SeqAt.EqAt.none_bool b
   | int b=>obtain ⟨t,rfl⟩:=rx; exact SeqAt.EqAt.none_int b t
   | str b=>obtain ⟨t,rfl⟩:=rx; exact SeqAt.EqAt.none_str b t
   | _=>exact absurd (show false=true from fx) Bool.false_ne_true
 | bl a =>
   cases ry
   cases x with
   | non=>cases rx; exact SeqAt.EqAt.bool_none a
   | bl b=>cases rx; exact SeqAt.EqAt.bool_bool a b
   | int b=>obtain ⟨t,rfl⟩:=rx; exact SeqAt.EqAt.bool_int a b t
   | str b=>obtain ⟨t,rfl⟩:=rx; exact SeqAt.EqAt.bool_str a b t
   | _=>exact absurd (show false=true from fx) Bool.false_ne_true
 | int a =>
   obtain ⟨t',rfl⟩:=ry
   cases x with
   | non=>cases rx; exact SeqAt.EqAt.int_none a t'
   | bl b=>cases rx; exact SeqAt.EqAt.int_bool a t' b
   | int b=>obtain ⟨t,rfl⟩:=rx; exact SeqAt.EqAt.int_int a t' b t
   | str b=>obtain ⟨t,rfl⟩:=rx; exact SeqAt.EqAt.int_str a t' b t
   | _=>exact absurd (show false=true from fx) Bool.false_ne_true
 | str a =>
   obtain ⟨t',rfl⟩:=ry
   cases x with
   | non=>cases rx; exact SeqAt.EqAt.str_none a t'
   | bl b=>cases rx; exact SeqAt.EqAt.str_bool a t' b
   | int b=>obtain ⟨t,rfl⟩:=rx; exact SeqAt.EqAt.str_int a t' b t
   | str b=>obtain ⟨t,rfl⟩:=rx; exact SeqAt.EqAt.str_str a t' b t
   | _=>exact absurd (show false=true from fx) Bool.false_ne_true
 | _=>exact absurd (show false=true from fy) Bool.false_ne_true
def eqU (x:V) (u:Value):Bool:=match u with
 | .none=>eqV .non x
 | .bool b=>eqV (.bl b) x
 | .int i _=>eqV (.int i) x
 | .str z _=>eqV (.str z) x
 | _=>false
theorem eqU_of {x y:V} {u:Value} (r:RelV y u) (f:flatV y=true):eqU x u=eqV y x:=by
 cases y with
 | non=>cases r; rfl
 | bl b=>cases r; rfl
 | int i=>obtain ⟨t,rfl⟩:=r; rfl
 | str z=>obtain ⟨t,rfl⟩:=r; rfl
 | _=>exact absurd (show false=true from f) Bool.false_ne_true
theorem any_eqU {x:V}:∀ {xs:List V} {us:List Value},Vals xs us→xs.all flatV=true→us.any (eqU x)=xs.any fun y=>eqV y x
 | _,_,.nil,_=>rfl
 | y :: xs,u :: us,.cons r t,f=>by
   rw [List.all_cons,Bool.and_eq_true] at f
   rw [List.any_cons,List.any_cons,eqU_of r f.1,any_eqU t f.2]
theorem mem_eqAt {A:Around} {s:Shared} {x:V} {v:Value} (rx:RelV x v) (fx:flatV x=true):∀ {xs:List V} {us:List Value},Vals xs us→xs.all flatV=true→∀ u∈us,SeqAt.EqAt A s u v (eqU x u)
 | _,_,.nil,_=>fun u hu=>by cases hu
 | y :: xs,u :: us,.cons r t,f=>fun u' hu=>by
   rw [List.all_cons,Bool.and_eq_true] at f
   rcases List.mem_cons.mp hu with rfl | hu
   · rw [eqU_of r f.1]; exact eqAt_V r rx f.1 fx
   · exact mem_eqAt rx fx t f.2 u' hu
def inV (x:V) (xs:List V):Bool:=xs.any fun y=>eqV y x
def rIn (K:PySem.W.Frag) (neg:Bool):R2:=fun x y H Q=>∃ p xs,y=.ref p∧(SqL K H p xs∨SqT K H p xs)∧flatV x=true∧xs.all flatV=true∧Q (.bl (if neg then !inV x xs else inV x xs)) H
theorem op_in_seq:OpR X (compareOp .In) (rIn X.K false):=by
 intro pins s σ H x y v u Q I rx ry h
 obtain ⟨p,xs,rfl,hq,fx,fs,q⟩:=h
 cases ry
 rcases hq with hq | hq
 · obtain ⟨its,r,pl,hz⟩:=I.list hq
   refine SeqAt.in_listAt (eqU x) pl.isList (fun w hw=>mem_eqAt rx fx r fs w (by simpa using hw)) ⟨.bl _,H,I,rfl,?_⟩
   rw [show its.toArray.any (eqU x)=its.any (eqU x) by simp,any_eqU r fs]
   exact q
 · obtain ⟨its,r,pl,hz⟩:=I.tuple hq
   refine SeqAt.in_tupleAt (eqU x) pl (fun w hw=>mem_eqAt rx fx r fs w (by simpa using hw)) ⟨.bl _,H,I,rfl,?_⟩
   rw [show its.toArray.any (eqU x)=its.any (eqU x) by simp,any_eqU r fs]
   exact q
theorem op_notIn_seq:OpR X (compareOp .NotIn) (rIn X.K true):=by
 intro pins s σ H x y v u Q I rx ry h
 obtain ⟨p,xs,rfl,hq,fx,fs,q⟩:=h
 cases ry
 rcases hq with hq | hq
 · obtain ⟨its,r,pl,hz⟩:=I.list hq
   refine SeqAt.notIn_listAt (eqU x) pl.isList (fun w hw=>mem_eqAt rx fx r fs w (by simpa using hw)) ⟨.bl _,H,I,rfl,?_⟩
   rw [show its.toArray.any (eqU x)=its.any (eqU x) by simp,any_eqU r fs]
   exact q
 · obtain ⟨its,r,pl,hz⟩:=I.tuple hq
   refine SeqAt.notIn_tupleAt (eqU x) pl (fun w hw=>mem_eqAt rx fx r fs w (by simpa using hw)) ⟨.bl _,H,I,rfl,?_⟩
   rw [show its.toArray.any (eqU x)=its.any (eqU x) by simp,any_eqU r fs]
   exact q
theorem op_notIn_str:OpR X (compareOp .NotIn) (fun x y H Q=>∃ i j,x=.str i∧y=.str j∧Q (.bl (!(!(Builtin.Str.occurrences j i 0 j.length 1).isEmpty))) H):=by
 intro pins s σ H x y v u Q I rx ry h
 obtain ⟨i,j,rfl,rfl,q⟩:=h
 obtain ⟨t,rfl⟩:=rx
 obtain ⟨t',rfl⟩:=ry
 exact notIn_str ⟨.bl _,H,I,rfl,q⟩
theorem call_list_of:CallR X (.type "list") (fun xs H Q=>∃ p ys,xs=[.ref p]∧(SqL X.K H p ys∨SqT X.K H p ys)∧∀ l,H l=none→Q (.ref l) (upd H l (.lst ys))):=by
 intro pins s σ H xs us Q I r h
 obtain ⟨p,ys,rfl,hq,q⟩:=h
 obtain ⟨u,rfl,rx⟩:=vals1 r
 cases rx
 have fin:∀ (its:List Value),Vals ys its→ys.length≤sizeLine→∀ (h':Heap) (c':Nat),(∀ b o',s.heap.get? b=some o'→h'.get? b=some o') →
  h'.get? s.heap.objs.size=some { cls:=.type "list",dict:=none,data:=.seq its.toArray c',slots:=#[] }→EP X pins σ Q (.ref s.heap.objs.size) { s with heap:=h' }:=fun its r' hz h' c' kp e =>
  ⟨.ref s.heap.objs.size,_,I.laid (t':=s.toks) kp (Nat.le_refl _) (show ObjOk X.prog X.w _ h' _ (.lst ys) from ⟨hz,its,c',r',e⟩),rfl,q _ (I.hok.fresh (Nat.le_refl _))⟩
 rcases hq with hq | hq
 · obtain ⟨its,r',pl,hz⟩:=I.list hq
   have hlen:=r'.length
   obtain ⟨o,ho,hc,n,hd⟩:=pl.isList
   exact call_list_seq p (.inl rfl) ho hc hd (fun h' c' kp e=>fin its r' hz h' c' kp e) (by simp only [List.size_toArray] <;> omega)
 · obtain ⟨its,r',pl,hz⟩:=I.tuple hq
   have hlen:=r'.length
   obtain ⟨o,ho,hc,n,hd⟩:=pl
   exact call_list_seq p (.inr rfl) ho hc hd (fun h' c' kp e=>fin its r' hz h' c' kp e) (by simp only [List.size_toArray] <;> omega)
theorem call_tuple_of:CallR X (.type "tuple") (fun xs H Q=>∃ p ys,xs=[.ref p]∧((SqL X.K H p ys∧∀ l,H l=none→Q (.ref l) (upd H l (.tup ys)))∨(SqT X.K H p ys∧Q (.ref p) H))):=by
 intro pins s σ H xs us Q I r h
 obtain ⟨p,ys,rfl,h⟩:=h
 obtain ⟨u,rfl,rx⟩:=vals1 r
 cases rx
 rcases h with ⟨hq,q⟩ | ⟨hq,q⟩
 · obtain ⟨its,r',pl,hz⟩:=I.list hq
   have hlen:=r'.length
   refine call_tuple_list pl.isList (fun h' kp=>?_) (by simp only [List.size_toArray] <;> omega)
   have I1:Inv X pins σ H { s with heap:=h' }:=I.kept (t':=s.toks) kp
   have I2:Inv X pins σ (upd H h'.objs.size (.tup ys)) { s with heap:=h'.push { cls:=.type "tuple",data:=.seq its.toArray } } :=
    I1.laid (t':=s.toks) (fun b o e=>Heap.get?_push_of_some _ e) (Nat.le_refl _) (show ObjOk X.prog X.w _ _ _ (.tup ys) from ⟨hz,its,r',IsTup.new _ _⟩)
   exact ⟨.ref h'.objs.size,_,I2,rfl,q _ (I1.hok.fresh (Nat.le_refl _))⟩
 · obtain ⟨its,r',pl,hz⟩:=I.tuple hq
   exact call_tuple_same pl ⟨.ref p,H,I,rfl,q⟩
def tyV (K:PySem.W.Frag) (T:String) (x:V) (H:Hp):Prop:=match x with
 | .str _=>T = "str"
 | .int _=>T = "int"
 | .ref p=>(T = "list" ∧ ∃ xs,SqL K H p xs)∨(T = "tuple" ∧ ∃ o,K.lookup p=some o∧o.cls=.type "tuple" ∧ o.dict=none) ∨
  (T = "dict" ∧ ((∃ kvs,H p=some (.dK kvs))∨∃ kvs,H p=some (.dT kvs)))∨(T = "set" ∧ ∃ S n,H p=some (.set S n))
 | _=>False
theorem tyV_is {pins : List (Addr × Obj)} {σ : St} {H : Hp} {s : Shared} {T : String} {x : V} {v : Value} (I : Inv X pins σ H s) (r : RelV x v) (ty : tyV X.K T x H) :
 s.TypeIs v T∧∀ a,v=.ref a→∃ ob,s.heap.get? a=some ob∧ob.dict=none:=by
 cases x with
 | str z =>
   obtain ⟨t,rfl⟩:=r
   cases (show T = "str" from ty)
   exact ⟨typeIs_str s z t,fun _ e=>nomatch e⟩
 | int i =>
   obtain ⟨t,rfl⟩:=r
   cases (show T = "int" from ty)
   exact ⟨typeIs_int s i t,fun _ e=>nomatch e⟩
 | ref p =>
   cases r
   rcases ty with ⟨rfl,xs,hq⟩ | ⟨rfl,o,hk,hc,hd⟩ | ⟨rfl,hk⟩ | ⟨rfl,S,n,hk⟩
   · obtain ⟨its,_,pl,_⟩:=I.list hq
     refine ⟨pl.isList.typeIs,fun a e=>?_⟩
     cases e
     obtain ⟨o,n,e,c,hd,_⟩:=pl
     exact ⟨o,e,hd⟩
   · refine ⟨⟨o,I.kIn p o hk,hc⟩,fun a e=>?_⟩
     cases e
     exact ⟨o,I.kIn _ o hk,hd⟩
   · have z:∃ o,s.heap.get? p=some o∧o.ExactDict:=by
      rcases hk with ⟨kvs,hk⟩ | ⟨kvs,hk⟩
      · obtain ⟨_,_,_,_,o,_,_,e,ex,_⟩:=I.hok p _ hk
        exact ⟨o,e,ex⟩
      · obtain ⟨_,_,_,_,o,_,_,e,ex,_⟩:=I.hok p _ hk
        exact ⟨o,e,ex⟩
     obtain ⟨o,e,ex⟩:=z
     refine ⟨⟨o,e,ex.1⟩,fun a e2=>?_⟩
     cases e2
     exact ⟨o,e,ex.2.1⟩
   · obtain ⟨o,_,_,_,e,ex,_⟩:=I.hok p _ hk
     refine ⟨⟨o,e,ex.1⟩,fun a e2=>?_⟩
     cases e2
     exact ⟨o,e,ex.2.1⟩
 | _=>exact False.elim ty
def tBM0 (K:PySem.W.Frag) (T:String) (r:V→List V→Hp→VK→Prop) (to:TE):TE:=fun σ H Q=>to σ H fun x H1=>tyV K T x H1∧r x [] H1 Q
def tBM (K:PySem.W.Frag) (T:String) (r:V→List V→Hp→VK→Prop) (to:TE) (t:TA):TE:=fun σ H Q=>to σ H fun x H1=>tyV K T x H1∧t σ H1 fun xs H2=>r x xs H2 Q
variable {o e:Expr} {es:List Expr} {to:TE} {t:TA} {name:Str} {apos cpos:Pos} {T id:String} {r:V→List V→Hp→VK→Prop}
theorem pe_bm0 (pa:PlainAttrs T) (slot:Slot T name id) (hty:typeOf (.builtin id)=pure (.type "method_descriptor")) (hm:MtR X id r) (ho:PE X o to)
 (hbase:attributeBase o name X.env (eval o X.env)=eval o X.env:=by rfl) (hline:(apos.endLine == cpos.line)=true:=by rfl):PE X (.Call (.Attribute o name apos) [] [] cpos) (tBM0 X.K T r to):=by
 intro pins s σ H Q I h
 refine wpAny_Call_method0_late hbase hline (thn (ho pins s σ H _ I h) fun v s1 ⟨x,H1,I1,r1,ty,q1⟩=>?_)
 obtain ⟨h1,h2⟩:=tyV_is I1 r1 ty
 exact ⟨T,id,pa,slot,hty,h1,h2,Calls.callWith_builtin rfl (PySem.evalArgs_none (hm pins s1 σ H1 x [] v [] Q I1 r1 .nil q1))⟩
theorem pe_bm (pa:PlainAttrs T) (slot:Slot T name id) (hty:typeOf (.builtin id)=pure (.type "method_descriptor")) (hm:MtR X id r) (ho:PE X o to) (ha:PA X (e :: es) t)
 (hbase:attributeBase o name X.env (eval o X.env)=eval o X.env:=by rfl)
 (hfew:((backTo cpos (starEach (e :: es) X.env)).all (fun x=>!x.1) && (backToKw cpos (keywordEach [] X.env)).all (fun x=>x.1.isSome)
  && decide ((e :: es).length + ([]:List Keyword).length + (if ([]:List Keyword).isEmpty then 0 else 1) < 30))=true:=by rfl)
 (hline:(apos.endLine == cpos.line)=true:=by rfl) (hs:starEach (e :: es) X.env=(false,eval e X.env) :: starEach es X.env:=by rfl) (hplain:(backTo cpos (starEach es X.env)).any (·.1)=false:=by rfl) :
 PE X (.Call (.Attribute o name apos) (e :: es) [] cpos) (tBM X.K T r to t):=by
 intro pins s σ H Q I h
 refine wpAny_Call_method_late hbase hfew hline rfl (thn (ho pins s σ H _ I h) fun v s1 ⟨x,H1,I1,r1,ty,q1⟩=>?_)
 obtain ⟨h1,h2⟩:=tyV_is I1 r1 ty
 refine ⟨T,id,pa,slot,hty,h1,h2,?_⟩
 have hA:=ha cpos pins s1 σ H1 _ I1 q1
 rw [hs] at hA ⊢
 refine Calls.callWith_builtin (by show (false || (backTo cpos (starEach es X.env)).any (·.1))=false; rw [hplain] <;> rfl) (Calls.evalArgs_plain ?_)
 exact thn hA fun us s2 ⟨vs,H2,I2,r2,q2⟩=>hm pins s2 σ H2 x vs v us Q I2 r1 r2 q2
end
end L2
namespace L2
open PySem PySem.Spec PyProof.Rows
def MtM (X:Cx) (id:String) (r:V→List V→Hp→VK→Prop):Prop :=
 ∀ (pins:List (Addr × Obj)) (s:Shared) (σ:St) (H:Hp) (x:V) (xs:List V) (v:Value) (us:List Value) (Q:VK),Inv X pins σ H s→RelV x v→Vals xs us→r x xs H Q →
  wpAny (model X.prog X.w) X.A (call (.builtin id) (v :: us)) (EP X pins σ Q) X.xe s
theorem Vals.one:∀ {x:V} {us:List Value},Vals [x] us→∃ u,us=[u]∧RelV x u
 | _,_,.cons r .nil=>⟨_,rfl,r⟩
theorem Vals.zero:∀ {us:List Value},Vals [] us→us=[]
 | _,.nil=>rfl
theorem Vals.dropLast {xs:List V} {us:List Value} (h:Vals xs us):Vals xs.dropLast us.dropLast:=by
 induction h with
 | nil=>exact .nil
 | cons r t ih =>
   cases t with
   | nil=>exact .nil
   | cons q t'=>exact .cons r ih
theorem erase_last {α:Type} (l:List α):l.eraseIdx (l.length - 1)=l.dropLast:=by
 induction l with
 | nil=>rfl
 | cons a r ih =>
   cases r with
   | nil=>rfl
   | cons b r =>
     have e:(a :: b :: r).length - 1=((b :: r).length - 1) + 1:=by
      have h1:(a :: b :: r).length=r.length + 2:=rfl
      have h2:(b :: r).length=r.length + 1:=rfl
      omega
     rw [e,List.eraseIdx_cons_succ,ih]
     all_goals rfl
section
variable {X:Cx} {pins:List (Addr × Obj)} {σ:St} {H:Hp} {s:Shared} {l b:Addr} {xs ys zs:List V}
theorem Inv.lset {its its':List Value} {n:Nat} {f:Array Value→Array Value} {t':Nat} (I:Inv X pins σ H s) (hH:H l=some (.lst xs))
 (e:s.heap.get? l=some { cls:=.type "list",data:=.seq its.toArray n }) (hf:f its.toArray=its'.toArray) (hv:Vals ys its') (hz:ys.length≤sizeLine) :
 Inv X pins σ (upd H l (.lst ys)) { s with heap:=s.heap.update l (Obj.mapSeq f),toks:=t' }:=by
 have q:=PySem.IsL.update e f
 rw [hf] at q
 refine I.write (x:=l) (e:=l) (by rw [hH]; exact trivial) (.inl rfl) (fun b' u hb hu=>(Heap.get?_update_other s.heap (Obj.mapSeq f) (Ne.symm hb)).trans hu) ⟨_,q⟩ ?_
 exact ⟨hz,its',_,hv,q⟩
theorem Inv.lnew {its:List Value} {t':Nat} (I:Inv X pins σ H s) (hv:Vals ys its) (hz:ys.length≤sizeLine) :
 Inv X pins σ (upd H s.heap.objs.size (.lst ys)) { s with heap:=s.heap.push { cls:=.type "list",data:=.seq its.toArray },toks:=t' } :=
 I.laid (fun _ _ q=>Heap.get?_push_of_some _ q) (Nat.le_refl _) ⟨hz,its,0,hv,Heap.get?_push_size _ rfl⟩
theorem Inv.fresh (I:Inv X pins σ H s):H s.heap.objs.size=none:=I.hok.fresh (Nat.le_refl _)
theorem Inv.lstM (I:Inv X pins σ H s) (hH:H l=some (.lst xs)):xs.length≤sizeLine∧∃ (its:List Value) (n:Nat),Vals xs its∧xs.length=its.length∧s.heap.get? l=some { cls:=.type "list",data:=.seq its.toArray n }:=by
 obtain ⟨z,its,n,r,e⟩:=I.hok l _ hH
 exact ⟨z,its,n,r,r.length,e⟩
theorem notLongL {n:Nat} (h:n≤sizeLine):Builtin.List.listTooLong n=false:=by
 unfold Builtin.List.listTooLong
 exact decide_eq_false (by omega)
end
section
variable {X:Cx}
def rAppend:V→List V→Hp→VK→Prop:=fun x vs H Q=>∃ l xs y,x=.ref l∧vs=[y]∧H l=some (.lst xs)∧xs.length < sizeLine∧Q .non (upd H l (.lst (xs++[y])))
theorem mt_append:MtM X "list.append" rAppend:=by
 intro pins s σ H x vs v us Q I rx rv h
 obtain ⟨l,xs,y,rfl,rfl,hH,hz,q⟩:=h
 cases rx
 obtain ⟨u,rfl,ru⟩:=rv.one
 obtain ⟨z,its,n,r,hl,e⟩:=I.lstM hH
 refine call_meets F.slot_list_append ⟨_,e,rfl⟩ F.entry_list_append (F.args_list_append_2 _ _) (PySem.list_append l its.toArray n u (by rw [List.size_toArray]; omega)) ⟨e,?_⟩
 refine ⟨.non,_,I.lset (its':=its++[u]) hH e (by simp) (r.append (.cons ru .nil)) ?_,rfl,q⟩
 rw [List.length_append,List.length_singleton]
 omega
def rExtend:V→List V→Hp→VK→Prop:=fun x vs H Q=>∃ l b xs zs,x=.ref l∧vs=[.ref b]∧H l=some (.lst xs)∧H b=some (.lst zs)∧xs.length + zs.length≤sizeLine∧Q .non (upd H l (.lst (xs++zs)))
theorem mt_extend:MtM X "list.extend" rExtend:=by
 intro pins s σ H x vs v us Q I rx rv h
 obtain ⟨l,b,xs,zs,rfl,rfl,hH,hB,hz,q⟩:=h
 cases rx
 obtain ⟨u,rfl,ru⟩:=rv.one
 cases ru
 obtain ⟨z,its,n,r,hl,e⟩:=I.lstM hH
 obtain ⟨z2,its2,n2,r2,hl2,e2⟩:=I.lstM hB
 have hsz:its.toArray.size + its2.toArray.size≤sizeLine:=by rw [List.size_toArray,List.size_toArray]; omega
 have hlong:¬ (!its.toArray.isEmpty && Builtin.List.listTooLong (its.toArray.size + its2.toArray.size))=true:=by
  rw [notLongL hsz,Bool.and_false]
  exact Bool.false_ne_true
 refine call_meets F.slot_list_extend ⟨_,e,rfl⟩ F.entry_list_extend (F.args_list_extend_2 _ _)
  (AutoSeq1.list_extend_list_list_0 l its.toArray n b its2.toArray n2 hlong (by rw [List.size_toArray]; omega) (by omega)) ⟨e,e2,?_⟩
 refine ⟨.non,_,I.lset (its':=its++its2) hH e (by simp) (r.append r2) ?_,rfl,q⟩
 rw [List.length_append]
 omega
def rPop:V→List V→Hp→VK→Prop:=fun x vs H Q=>∃ l xs y,x=.ref l∧vs=[]∧H l=some (.lst xs)∧xs[xs.length - 1]?=some y∧Q y (upd H l (.lst xs.dropLast))
theorem mt_pop:MtM X "list.pop" rPop:=by
 intro pins s σ H x vs v us Q I rx rv h
 obtain ⟨l,xs,y,rfl,rfl,hH,hy,q⟩:=h
 cases rx
 have hus:=rv.zero
 subst hus
 obtain ⟨z,its,n,r,hl,e⟩:=I.lstM hH
 obtain ⟨u,hu,ru⟩:=r.get hy
 have hy':its.toArray[its.toArray.size - 1]?=some u:=by
  show its.toArray[its.length - 1]?=some u
  rw [←Array.getElem?_toList,←hl]
  exact hu
 refine call_meets F.slot_list_pop ⟨_,e,rfl⟩ F.entry_list_pop (F.args_list_pop_1 _) (MeetsSeq.list_pop_last l its.toArray n u hy' (by rw [List.size_toArray]; omega)) ⟨e,?_⟩
 refine ⟨y,_,I.lset (its':=its.dropLast) hH e ?_ r.dropLast ?_,ru,q⟩
 · show its.toArray.eraseIdxIfInBounds (its.toArray.size - 1)=its.dropLast.toArray
   rw [List.size_toArray,List.eraseIdxIfInBounds_toArray,erase_last]
 · rw [List.length_dropLast]
   omega
def rCat:R2:=fun x y H Q=>∃ l b xs zs,x=.ref l∧y=.ref b∧H l=some (.lst xs)∧H b=some (.lst zs)∧xs.length + zs.length≤sizeLine∧∀ p,H p=none→Q (.ref p) (upd H p (.lst (xs++zs)))
theorem op_cat:OpR X (binaryOp .Add) rCat:=by
 intro pins s σ H x y v u Q I rx ry h
 obtain ⟨l,b,xs,zs,rfl,rfl,hH,hB,hz,q⟩:=h
 cases rx
 cases ry
 obtain ⟨z,its,n,r,hl,e⟩:=I.lstM hH
 obtain ⟨z2,its2,n2,r2,hl2,e2⟩:=I.lstM hB
 refine PySem.P.add_list e e2 ?_ (by rw [List.size_toArray,List.size_toArray]; omega)
 have ea:its.toArray++its2.toArray=(its++its2).toArray:=by simp
 rw [ea]
 exact ⟨.ref _,_,I.lnew (t':=s.toks) (r.append r2) (by rw [List.length_append]; omega),rfl,q _ I.fresh⟩
end
section
variable {prog:Program} {w:World} {A:Around} {E:Value→Shared→Prop} {s:Shared}
end
section
variable {X:Cx}
end
end L2
namespace L2
open PySem PySem.Spec PyProof.Rows
section
variable {κ:Type} [DecidableEq κ]
end
section
variable {P:Program} {w:World} {H:Hp} {h:Heap} {a:Addr}
end
section
variable {X:Cx} {pins:List (Addr × Obj)} {σ:St} {H:Hp} {s:Shared} {a:Addr} {y v:V} {u r:Value} {o:Option V} {A:Around} {E:Value→Shared→Prop}
end
section
variable {X:Cx} {pins:List (Addr × Obj)} {σ:St} {H:Hp} {s:Shared} {a:Addr} {kvs:List (Key × V)} {k:Key} {u:Value} {A:Around} {E:Value→Shared→Prop}
end
section
variable {X:Cx} {o i e value:Expr} {pos pos' tpos:Pos} {td ty tv:TE}
end
section
variable {X:Cx} {pos:Pos}
end
section
variable {X:Cx} {pins:List (Addr × Obj)} {σ:St} {H:Hp} {s:Shared} {a:Addr} {y d:V} {u r:Value} {o:Option V} {A:Around} {E:Value→Shared→Prop}
end
section
variable {X:Cx} {o e f:Expr} {apos cpos:Pos} {td ty tx:TE}
end
section
variable {X:Cx} {pins:List (Addr × Obj)} {σ:St} {H:Hp} {s:Shared} {a:Addr} {kvs:List (Key × V)} {A:Around} {E:Value→Shared→Prop}
end
section
variable {X:Cx} {pins:List (Addr × Obj)} {σ:St} {H:Hp} {s:Shared} {a:Addr} {y:V} {u:Value} {A:Around} {E:Value→Shared→Prop}
end
end L2
namespace Att
open PySem PySem.W PySem.Calls PyProof.Rows
theorem ints_of_wellAll {P:Params} {h:Heap}:∀ (ns:List Int) (vs:List Value),WellAll P h vs (ns.map WData.int)→IntsAre vs ns:=by
 intro ns
 induction ns with
 | nil =>
   intro vs w
   rw [List.map_nil] at w
   cases w
   exact .nil
 | cons n ns ih =>
   intro vs w
   rw [List.map_cons] at w
   cases w with
   | cons a b =>
     cases a
     exact .cons _ _ (ih _ b)
theorem script_of {l:OpenLaw} {n:Nat} (hn:l.most=some n) {P:Params} {h:Heap} {args:List WData} {vals:List Value}
 (hpre:l.row.toRowW.claim.pre args=true) (hwl:WellAll P h vals args) :
 ∃ a vs ns,vals=[Value.ref a]∧args=[WData.list (ns.map WData.int)]∧h.get? a=some { cls:=.type "list",data:=.seq vs.toArray }∧IntsAre vs ns∧ns.length≤n:=by
 have hsh:WShape.hasAll [] args [.list .int]=true:=(pre_splitW hpre).1
 have hc:l.pre.holds [] { args:=args }=true:=(pre_splitW hpre).2
 obtain ⟨d,r,rfl,h1,h2⟩:=hasAllW_cons hsh
 obtain rfl:=hasAllW_nil h2
 obtain ⟨xs,rfl,h3⟩:=hasW_list h1
 obtain ⟨ns,rfl⟩:=items_int h3
 have hlen:ns.length≤n:=by
  unfold OpenLaw.pre at hc
  have h4:(WTm.not (.lt (.lit (.int (n:Int))) (.len (.arg 0)))).holds [] { args:=[.list (ns.map .int)] }=true:=by
   have h4:=(holds_andW hc).1
   rw [hn] at h4
   exact h4
  have h5:=condW_of h4 (w_not (w_lt w_lit (w_len_list (w_arg rfl))))
  rw [List.length_map] at h5
  refine Nat.le_of_not_lt fun q=>?_
  have q':(n:Int) < ((ns.length:Nat):Int):=by omega
  first
   | (rw [decide_eq_true q'] at h5; exact absurd h5 (by decide))
   | (simp at h5; omega)
 cases hwl with
 | cons w1 w2 =>
   cases w2
   cases w1 with
   | list ho hall=>exact ⟨_,_,ns,rfl,rfl,ho,ints_of_wellAll ns _ hall,hlen⟩
theorem post_true (l:OpenLaw) (args:List WData):l.row.toRowW.claim.post args (.bool true) args=true :=
 postW_of (r:=l.row.toRowW) (X:=(true == true))
  (show WShape.has [] (.bool true) .bool=true by first | rfl | decide | simp [WShape.has,WShape.arms,WShape.armsAll])
  (show (WTm.eq .res (.lit (.bool true))).value [] { args:=args,res:=some (.bool true),after:=args }=some (.bool (true == true)) from w_eq_bool (w_res rfl) w_lit) rfl
theorem attach_call {l:OpenLaw} {n:Nat} {q:Program} {loose:List Str} {XP:(Str→Option Value)→Heap→Prop} {YP:World→Heap→Prop} {d:DefRec}
 (hn:l.most=some n) (hdf:d.params.defaults=[])
 (call:∀ (w:World) (s₀ s₁:Shared) (mg mb:Str→Option Value) (fa:Addr) (o:Obj) (pm cd doc:Value) (a:Addr) (vs:List Value) (ns:List Int),
  Ground q loose [] XP w s₀ mg mb s₁.heap→YP w s₁.heap →
  s₁.heap.get? fa=some o→o.data=.func (docDef d.name d.params d.body d.scope pm cd doc)→s₁.heap.CodeRec cd d.name→mg d.name=some (.ref fa) →
  s₁.heap.get? a=some { cls:=.type "list",data:=.seq vs.toArray }→IntsAre vs ns→ns.length≤n→s₁.gens=#[] →
  codeAny (model l.prog w) callerA (.call (.ref fa) ⟨[.ref a],[]⟩) (fun r s'=>r=.ok (.ret (.bool true))∧OldK s₁.heap s'.heap∧s'.os=s₁.os∧AllBare s'.gens) s₁) :
 WalkO q loose XP YP l.row.toRowW d [] (fun f vs=>PySem.call f vs):=by
 intro w s₀ s₁ mg mb G Y fa o pm cd doc dV kV ho hd hcd hD hmg hg args vals as hpre hlay hrd hwl hlo
 obtain rfl:dV=.none:=Dflts.none hD hdf
 obtain rfl:kV=.none:=Dflts.noKw hD
 obtain ⟨a,vs,ns,rfl,rfl,hobj,hints,hlen⟩:=script_of hn hpre hwl
 refine enter_call (codeAny_mono (call w s₀ s₁ mg mb fa o pm cd doc a vs ns G Y ho (fd_plain hd) hcd hmg hobj hints hlen hg) fun r s' hq=>?_)
 obtain ⟨rfl,h2,h3,h4⟩:=hq
 exact ⟨.inl ⟨.bool true,.bool true,[],rfl,fun _=>rfl,.bool true,post_true l _,fun _=>⟨List.Pairwise.nil,fun _ hm=>(nomatch hm)⟩⟩,h2,h3,h4⟩
section
variable {prog:Program} {w:World} {A:Around} {E:Value→Shared→Prop} {s:Shared} {K:Frag}
end
end Att
namespace L2
open PySem PySem.Spec PyProof.Rows
theorem vals_ints:∀ {vs:List Value} {ns:List Int},IntsAre vs ns→Vals (ns.map V.int) vs
 | _,_,.nil=>.nil
 | _,_,.cons n t h=>.cons ⟨t,rfl⟩ (vals_ints h)
def Only (H:Hp):Prop:=∀ b,H b=none∨∃ o xs,H b=some (.frz o (.lst xs))
theorem law_call {P : Program} {w : World} {K : PySem.W.Frag} {mg mb : Str → Option Value} {CX : CXT} {k : Nat} {fa a : Addr} {fd : FuncData} {x : Str} {sp : Sp} {s₁ : Shared} {vs : List Value} {ns : List Int}
 (KX:K.In s₁.heap) (hns:s₁.heap.Ns mainGlobals mg) (hb:s₁.heap.Ns builtinsNs mb) (hbb:∀ x:Str,x ≠ "__name__" → mb x=bootBuiltins x) (hlim:s₁.heap.NoLimit) (hg:s₁.gens=#[])
 (ha:s₁.heap.get? a=some { cls:=.type "list",data:=.seq vs.toArray }) (hi:IntsAre vs ns) (hl:ns.length≤sizeLine) (hr:Room k callerA)
 (F:∀ base:Heap,K.In base→base.Ns mainGlobals mg→FnOk P w K mg base CX k fa fd [x] sp) (hbind:∀ (s:Shared) (u:Value),BindsTo s fd ⟨[u],[]⟩ [(x,u)])
 (hsp:∀ H:Hp,Only H→SqL K H a (ns.map V.int)→sp [.ref a] H (fun v _=>v=.bl true) fun _ _ _=>False)
 (hCX:∀ H e s',CX [] H s₁ (fun _ _ _=>False) e s'→False) :
 codeAny (model P w) callerA (.call (.ref fa) ⟨[.ref a],[]⟩) (fun r s'=>r=.ok (.ret (.bool true))∧OldK s₁.heap s'.heap∧s'.os=s₁.os∧AllBare s'.gens) s₁:=by
 have rv:=vals_ints hi
 have lenV:=hi.length
 have core : ∀ H : Hp, Only H → SqL K H a (ns.map V.int) → HOk P w H s₁.heap → (∀ b, H b ≠ none → b = a) → (H a ≠ none → K.lookup a = none) →
  codeAny (model P w) callerA (.call (.ref fa) ⟨[.ref a],[]⟩) (fun r s'=>r=.ok (.ret (.bool true))∧OldK s₁.heap s'.heap∧s'.os=s₁.os∧AllBare s'.gens) s₁:=by
  intro H hO hS hok hA hK
  have base_of:∀ {b:Addr} {o:Obj},s₁.heap.get? b=some o→H b=none→(hidT s₁.heap H).get? b=some o:=fun e n=>hidT_get e n
  have noA:∀ {b:Addr} {o:Obj} {es:Array DictEntry} {ep:Nat},s₁.heap.get? b=some o→o.data=.dict es ep→H b=none:=fun {b o es ep} e d=>by
   cases q:H b with
   | none=>rfl
   | some u =>
     have e':b=a:=hA b (by rw [q]; simp)
     subst e'
     rw [ha] at e; cases e
     have d':Data.seq vs.toArray _=Data.dict es ep:=d
     cases d'
  have nsK:∀ {b:Addr} {m:Str→Option Value},s₁.heap.Ns b m→(hidT s₁.heap H).Ns b m:=fun {b m} ⟨o,es,ep,e,d,r⟩=>⟨o,es,ep,base_of e (noA e d),d,r⟩
  have hKb:K.In (hidT s₁.heap H):=fun b o e=>base_of (KX b o e) (by
   cases q:H b with
   | none=>rfl
   | some u =>
     have e':b=a:=hA b (by rw [q]; simp)
     subst e'
     rw [hK (by rw [q]; simp)] at e; cases e)
  have hM:Mod K mg (hidT s₁.heap H):=⟨hKb,nsK hns,⟨mb,nsK hb,hbb⟩,let ⟨mc,h1,h2⟩:=hlim; ⟨mc,nsK h1,h2⟩⟩
  have e0:Env0 P w K mg (hidT s₁.heap H) callerA [] s₁ H:=⟨rfl,hM,fun b o e=>of_hidT e,Nat.le_of_eq (hidT_size _ _),trivial,fun b hb=>absurd (show b∈([]:List Addr) from hb) (by simp),hok,.of_eq hg⟩
  refine codeAny_mono ((F _ hKb (nsK hns)).run callerA [] s₁ H ⟨[.ref a],[]⟩ [.ref a] [.ref a] _ _ hr e0 (hbind s₁ (.ref a)) (.cons rfl .nil) (hsp H hO hS)) fun r s' h=>?_
  cases r with
  | error e=>exact (hCX H e s' h).elim
  | ok fl =>
    cases fl with
    | next=>exact False.elim h
    | brk=>exact False.elim h
    | cont=>exact False.elim h
    | ret u =>
      obtain ⟨v,H',os,bare,un,hok',r',q⟩:=h
      have q':v=.bl true:=q
      subst q'
      obtain rfl:u=Value.bool true:=r'
      refine ⟨rfl,OldK.of_keep fun b o e=>?_,os,bare⟩
      cases q:H b with
      | none=>exact un.keep b o e q (by intro z; exact absurd (show b∈([]:List Addr) from z) (by simp)) (by simp)
      | some u =>
        rcases hO b with z | ⟨ob,xs,z⟩
        · rw [q] at z; cases z
        · have z2:=un.frzs b ob _ z
          obtain ⟨e1,_⟩:=hok b _ z
          obtain ⟨e2,_⟩:=hok' b _ z2
          rw [e] at e1; cases e1
          exact e2
 cases hk:K.lookup a with
 | some o =>
   have e:=KX a o hk
   rw [ha] at e
   cases e
   refine core (fun _=>none) (fun _=>.inl rfl) (.inr ⟨_,vs.toArray,_,hk,rfl,rfl,rfl,by rw [List.size_toArray,lenV]; exact hl,by simpa using rv⟩) (fun b u z=>by have z':(none:Option HO)=some u:=z; cases z') (fun b z=>absurd rfl z) fun z=>absurd rfl z
 | none =>
   refine core (fun b=>if b=a then some (.frz { cls:=.type "list",data:=.seq vs.toArray } (.lst (ns.map V.int))) else none) (fun b=>?_) (.inl (.inr ⟨{ cls:=.type "list",data:=.seq vs.toArray },if_pos rfl⟩)) (fun b u z=>?_) (fun b z=>?_) fun _=>hk
   · by_cases hb:b=a
     · exact .inr ⟨_,_,if_pos hb⟩
     · exact .inl (if_neg hb)
   · by_cases hb:b=a
     · have z':=(if_pos hb).symm.trans z
       cases z'
       subst hb
       exact ⟨ha,by rw [List.length_map]; exact hl,vs,_,rv,ha⟩
     · have z':=(if_neg hb).symm.trans z
       cases z'
   · by_cases hb:b=a
     · exact hb
     · exact absurd (if_neg hb) z
end L2
namespace L2
open PySem PySem.Spec PyProof.Rows
theorem walk_of {l:PySem.W.OpenLaw} {n k:Nat} {q:Program} {loose:List Str} {XP:(Str→Option Value)→Heap→Prop} {YP:World→Heap→Prop} {d:DefRec} {K:Params→PySem.W.Frag} {CX:World→CXT} {sp:World→Sp} {x:Str}
 (hn:l.most=some n) (hn2:n≤sizeLine) (hdf:d.params.defaults=[]) (hr:Room k callerA)
 (hY:∀ (w:World) (h:Heap),YP w h→(K w.params).In h)
 (F:∀ (w:World) (mg:Str→Option Value) (fa:Addr) (h:Heap),(K w.params).In h→h.Ns mainGlobals mg→mg d.name=some (.ref fa) →
  ∃ fd:FuncData,(∀ (s:Shared) (u:Value),BindsTo s fd ⟨[u],[]⟩ [(x,u)]) ∧
   ∀ base:Heap,(K w.params).In base→base.Ns mainGlobals mg→FnOk l.prog w (K w.params) mg base (CX w) k fa fd [x] (sp w))
 (hsp:∀ (w:World) (H:Hp) (a:Addr) (ns:List Int),ns.length≤n→Only H→SqL (K w.params) H a (ns.map V.int)→sp w [.ref a] H (fun v _=>v=.bl true) fun _ _ _=>False)
 (hCX:∀ (w:World) (H:Hp) (s:Shared) (e:Value) (s':Shared),CX w [] H s (fun _ _ _=>False) e s'→False) :
 PySem.W.WalkO q loose XP YP l.row.toRowW d [] (fun f vs=>PySem.call f vs):=by
 refine Att.attach_call hn hdf fun w s₀ s₁ mg mb fa o pm cd doc a vs ns G Y ho hd hcd hmg hobj hints hlen hg=>?_
 have KX:=hY w _ Y
 obtain ⟨fd,hb,hF⟩:=F w mg fa _ KX G.T.g hmg
 exact law_call KX G.T.g G.T.b G.T.builtins G.T.nolimit hg hobj hints (Nat.le_trans hlen hn2) hr hF hb (fun H hO hS=>hsp w H a ns hlen hO hS) fun H e s'=>hCX w H s₁ e s'
end L2
namespace L2
open PySem PySem.Spec PyProof.Rows
abbrev CX0:CXT:=fun _ _ _ _ _ _=>False
abbrev E0:XK:=fun _ _ _=>False
theorem pass0 {X:Cx}:Passes CX0 X E0:=fun _ _ _ _ _ _ _ h=>h.elim
structure Fun (K:PySem.W.Frag) (x qual:Str) (st:Stmt) (f:Addr) (fd:FuncData):Prop where
 ex:∃ (oc:Value) (od:Option Addr) (kV doc pm:Value) (an:Option Addr) (cdv ct:Value) (osl:Array (Option Value)),
  fd=PySem.W.fnOf x qual (defArgs st) (defBody st) (defScope st) .none kV doc pm an cdv ct∧K.lookup f=some ⟨oc,od,.func fd,osl⟩∧PySem.W.codeIn K cdv qual=true
 kp:PySem.W.keepIn K (.ref f)=true
section
variable {P:Program} {w:World} {K:PySem.W.Frag} {mg:Str→Option Value} {base:Heap}
theorem Fun.ok {x qual:Str} {st:Stmt} {f:Addr} {fd:FuncData} {N ps:List Str} {k:Nat} {sp:Sp} (F:Fun K x qual st f fd) (S:FnScope N ps (defScope st)) (len:∀ vs H Q E,sp vs H Q E→vs.length=ps.length)
 (hbody:∀ (cdv:Value) (A:Around) (outer:List Env) (s:Shared) (H:Hp) (vs:List V) (Q:VK) (E:XK),Room k (A.deeper (envOfC qual (defScope st) s.heap.objs.size f cdv))→sp vs H Q E →
  ∃ t,PSs (cxOf CX0 P w K mg base N qual (defScope st) f cdv A outer s H E).nox (defBody st) t∧t { nx:=fun _ H'=>Q .non H',rt:=Q } (start N vs) H):FnOk P w K mg base CX0 (k + 1) f fd ps sp:=by
 obtain ⟨oc,od,kV,doc,pm,an,cdv,ct,osl,rfl,lk,hcd⟩:=F.ex
 refine fn_of lk hcd S len fun A outer s H vs Q E hr hsp=>?_
 obtain ⟨t,h,q⟩:=hbody cdv A outer s H vs Q E hr hsp
 exact ⟨t,h.nox,q⟩
theorem Fun.binds {x qual:Str} {st:Stmt} {f:Addr} {fd:FuncData} {ps:List Str} (F:Fun K x qual st f fd)
 (h:∀ (kV doc pm:Value) (an:Option Addr) (cdv ct:Value) (us:List Value),us.length=ps.length→bindArgs (PySem.W.fnOf x qual (defArgs st) (defBody st) (defScope st) .none kV doc pm an cdv ct) ⟨us,[]⟩=pure (ps.zip us)):Binds K fd ps []:=by
 obtain ⟨oc,od,kV,doc,pm,an,cdv,ct,osl,rfl,lk,hcd⟩:=F.ex
 exact .all (h kV doc pm an cdv ct)
theorem fun_mk {x qual:Str} {st:Stmt} {f:Addr} {oc:Value} {od an:Option Addr} {osl:Array (Option Value)} {kV doc pm cdv ct:Value} (l:K.lookup f=some ⟨oc,od,.func (PySem.W.fnOf x qual (defArgs st) (defBody st) (defScope st) .none kV doc pm an cdv ct),osl⟩)
 (c:PySem.W.codeIn K cdv qual=true) (k:PySem.W.keepIn K (.ref f)=true):Fun K x qual st f (PySem.W.fnOf x qual (defArgs st) (defBody st) (defScope st) .none kV doc pm an cdv ct):=⟨⟨oc,od,kV,doc,pm,an,cdv,ct,osl,rfl,l,c⟩,k⟩
end
theorem small1000 {n:Nat} (h:n≤1000):n < sizeLine:=Nat.lt_of_le_of_lt h (by decide)
section
variable {X:Cx}
theorem pv (i:Nat) {x:Str} {pos:Pos} (hN:X.N[i]?=some x:=by rfl) (hv:Vis X.env.scope x:=by first | exact Or.inl rfl | exact Or.inr (Or.inl rfl) | exact Or.inr (Or.inr rfl)) (hd:(x == ("__debug__" : Str))=false:=by decide)
 (hcd:(x == ("__classdict__" : Str))=false:=by decide):PE X (.Name x pos) (tVar i):=pe_var hN hv hd hcd
end
theorem iteF {A B:Prop} (h:B):if false=true then A else B:=by
 rw [if_neg Bool.false_ne_true]
 exact h
theorem iteT {A B:Prop} (h:A):if true=true then A else B:=by
 rw [if_pos rfl]
 exact h
theorem ite2 {c A B:Prop} [Decidable c] (h1:c→A) (h2:¬ c→B):if c then A else B:=by
 by_cases h:c
 · rw [if_pos h]
   exact h1 h
 · rw [if_neg h]
   exact h2 h
theorem iteNS {c A B:Prop} [Decidable c] (hc:c) (h:B):if (!decide c)=true then A else B:=by
 rw [decide_eq_true hc]
 exact iteF h
def Same (H H':Hp):Prop:=∀ b o,H b=some o→H' b=some o
theorem Same.refl (H:Hp):Same H H:=fun _ _ h=>h
theorem Same.trans {H H1 H2:Hp} (a:Same H H1) (b:Same H1 H2):Same H H2:=fun c o h=>b c o (a c o h)
theorem Same.free {H H':Hp} (e:Same H H') {l:Addr} (h:H' l=Option.none):H l=Option.none:=by
 cases q:H l with
 | none=>rfl
 | some o =>
   rw [e l o q] at h
   cases h
theorem Same.seq {K:PySem.W.Frag} {H H':Hp} {a:Addr} {xs:List V} (e:Same H H') (h:SqL K H a xs):SqL K H' a xs:=by
 rcases h with (h | ⟨o,h⟩) | h
 · exact .inl (.inl (e _ _ h))
 · exact .inl (.inr ⟨o,e _ _ h⟩)
 · exact .inr h
section
variable {κ:Type} [DecidableEq κ]
end
end L2
namespace L2
open PySem PySem.Spec PyProof.Rows
inductive Ty where
 | int | bool | str | non | lst | tup | dct
 deriving DecidableEq
def Ty.name:Ty→String
 | .int => "int" | .bool => "bool" | .str => "str" | .non => "NoneType" | .lst => "list" | .tup => "tuple" | .dct => "dict"
inductive TyN (K:PySem.W.Frag) (H:Hp):V→Ty→Prop where
 | int (i:Int):TyN K H (.int i) .int
 | bl (b:Bool):TyN K H (.bl b) .bool
 | str (x:Str):TyN K H (.str x) .str
 | non:TyN K H .non .non
 | lst {a:Addr} {xs:List V} (h:SqL K H a xs):TyN K H (.ref a) .lst
 | tup {a:Addr} {xs:List V} (h:SqT K H a xs):TyN K H (.ref a) .tup
 | dk {a:Addr} {kvs:List (Key × V)} (h:H a=some (.dK kvs)):TyN K H (.ref a) .dct
def isiB:Ty→Ty→Bool
 | .int,.int=>true | .bool,.bool=>true | .bool,.int=>true | .str,.str=>true | .non,.non=>true | .lst,.lst=>true | .tup,.tup=>true | .dct,.dct=>true | _,_=>false
def rIsi (K:PySem.W.Frag):List V→Hp→VK→Prop:=fun vs H Q=>∃ x T T',vs=[x,.ty (Ty.name T)]∧TyN K H x T'∧Q (.bl (isiB T' T)) H
theorem call_isi {X:Cx}:CallR X (.builtin "isinstance") (rIsi X.K):=by
 intro pins s σ H vs us Q I r h
 obtain ⟨x,T,T',rfl,ty,q⟩:=h
 obtain ⟨u,u2,rfl,ru,ru2⟩:=vals2 r
 have e2:u2=Value.type (Ty.name T):=ru2
 subst e2
 cases ty with
 | int i =>
   obtain ⟨t,rfl⟩:=ru
   cases T with
   | int=>exact IsiPair.int_int ⟨.bl true,H,I,rfl,q⟩
   | bool=>exact IsiPair.int_bool ⟨.bl false,H,I.tok _,rfl,q⟩
   | str=>exact IsiPair.int_str ⟨.bl false,H,I.tok _,rfl,q⟩
   | non=>exact IsiPair.int_NoneType ⟨.bl false,H,I.tok _,rfl,q⟩
   | lst=>exact IsiPair.int_list ⟨.bl false,H,I.tok _,rfl,q⟩
   | tup=>exact IsiPair.int_tuple ⟨.bl false,H,I.tok _,rfl,q⟩
   | dct=>exact IsiPair.int_dict ⟨.bl false,H,I.tok _,rfl,q⟩
 | bl b =>
   obtain rfl:u=Value.bool b:=ru
   cases T with
   | int=>exact IsiPair.bool_int ⟨.bl true,H,I,rfl,q⟩
   | bool=>exact IsiPair.bool_bool ⟨.bl true,H,I,rfl,q⟩
   | str=>exact IsiPair.bool_str ⟨.bl false,H,I.tok _,rfl,q⟩
   | non=>exact IsiPair.bool_NoneType ⟨.bl false,H,I.tok _,rfl,q⟩
   | lst=>exact IsiPair.bool_list ⟨.bl false,H,I.tok _,rfl,q⟩
   | tup=>exact IsiPair.bool_tuple ⟨.bl false,H,I.tok _,rfl,q⟩
   | dct=>exact IsiPair.bool_dict ⟨.bl false,H,I.tok _,rfl,q⟩
 | str y =>
   obtain ⟨t,rfl⟩:=ru
   cases T with
   | int=>exact IsiPair.str_int ⟨.bl false,H,I.tok _,rfl,q⟩
   | bool=>exact IsiPair.str_bool ⟨.bl false,H,I.tok _,rfl,q⟩
   | str=>exact IsiPair.str_str ⟨.bl true,H,I,rfl,q⟩
   | non=>exact IsiPair.str_NoneType ⟨.bl false,H,I.tok _,rfl,q⟩
   | lst=>exact IsiPair.str_list ⟨.bl false,H,I.tok _,rfl,q⟩
   | tup=>exact IsiPair.str_tuple ⟨.bl false,H,I.tok _,rfl,q⟩
   | dct=>exact IsiPair.str_dict ⟨.bl false,H,I.tok _,rfl,q⟩
 | non =>
   obtain rfl:u=Value.none:=ru
   cases T with
   | int=>exact IsiPair.NoneType_int ⟨.bl false,H,I.tok _,rfl,q⟩
   | bool=>exact IsiPair.NoneType_bool ⟨.bl false,H,I.tok _,rfl,q⟩
   | str=>exact IsiPair.NoneType_str ⟨.bl false,H,I.tok _,rfl,q⟩
   | non=>exact IsiPair.NoneType_NoneType ⟨.bl true,H,I,rfl,q⟩
   | lst=>exact IsiPair.NoneType_list ⟨.bl false,H,I.tok _,rfl,q⟩
   | tup=>exact IsiPair.NoneType_tuple ⟨.bl false,H,I.tok _,rfl,q⟩
   | dct=>exact IsiPair.NoneType_dict ⟨.bl false,H,I.tok _,rfl,q⟩
 | lst hq =>
   obtain rfl:u=Value.ref _:=ru
   obtain ⟨its,rv,⟨o,n,e,hc,hd,hs⟩,hz⟩:=I.list hq
   cases T with
   | int=>exact IsiPair.list_int e hc ⟨.bl false,H,I.tok _,rfl,q⟩
   | bool=>exact IsiPair.list_bool e hc ⟨.bl false,H,I.tok _,rfl,q⟩
   | str=>exact IsiPair.list_str e hc ⟨.bl false,H,I.tok _,rfl,q⟩
   | non=>exact IsiPair.list_NoneType e hc ⟨.bl false,H,I.tok _,rfl,q⟩
   | lst=>exact IsiPair.list_list e hc ⟨.bl true,H,I,rfl,q⟩
   | tup=>exact IsiPair.list_tuple e hc ⟨.bl false,H,I.tok _,rfl,q⟩
   | dct=>exact IsiPair.list_dict e hc ⟨.bl false,H,I.tok _,rfl,q⟩
 | tup hq =>
   obtain rfl:u=Value.ref _:=ru
   obtain ⟨its,rv,⟨o,e,hc,n,hs⟩,hz⟩:=I.tuple hq
   cases T with
   | int=>exact IsiPair.tuple_int e hc ⟨.bl false,H,I.tok _,rfl,q⟩
   | bool=>exact IsiPair.tuple_bool e hc ⟨.bl false,H,I.tok _,rfl,q⟩
   | str=>exact IsiPair.tuple_str e hc ⟨.bl false,H,I.tok _,rfl,q⟩
   | non=>exact IsiPair.tuple_NoneType e hc ⟨.bl false,H,I.tok _,rfl,q⟩
   | lst=>exact IsiPair.tuple_list e hc ⟨.bl false,H,I.tok _,rfl,q⟩
   | tup=>exact IsiPair.tuple_tuple e hc ⟨.bl true,H,I,rfl,q⟩
   | dct=>exact IsiPair.tuple_dict e hc ⟨.bl false,H,I.tok _,rfl,q⟩
 | dk hq =>
   obtain rfl:u=Value.ref _:=ru
   obtain ⟨hz,hm,vs,rel,o,es,ep,e,ex,hr⟩:=I.hok _ _ hq
   have hc:=ex.1
   cases T with
   | int=>exact IsiPair.dict_int e hc ⟨.bl false,H,I.tok _,rfl,q⟩
   | bool=>exact IsiPair.dict_bool e hc ⟨.bl false,H,I.tok _,rfl,q⟩
   | str=>exact IsiPair.dict_str e hc ⟨.bl false,H,I.tok _,rfl,q⟩
   | non=>exact IsiPair.dict_NoneType e hc ⟨.bl false,H,I.tok _,rfl,q⟩
   | lst=>exact IsiPair.dict_list e hc ⟨.bl false,H,I.tok _,rfl,q⟩
   | tup=>exact IsiPair.dict_tuple e hc ⟨.bl false,H,I.tok _,rfl,q⟩
   | dct=>exact IsiPair.dict_dict e hc ⟨.bl true,H,I,rfl,q⟩
theorem truth_bl {P:Program} {w:World} {A:Around} {bs:List Bool} {its:List Value} (r:Vals (bs.map V.bl) its):TruthOf P w A (fun i v=>its.toArray[i]?=some v) (fun i=>bs.getD i false):=by
 intro i v s Q E hv hq
 have hv':its[i]?=some v:=by simpa using hv
 have hl:=r.length
 rw [List.length_map] at hl
 have hi:i < its.length:=(List.getElem?_eq_some_iff.mp hv').1
 have hb:(bs.map V.bl)[i]?=some (V.bl (bs.getD i false)):=by
  rw [List.getElem?_map,List.getD_eq_getElem?_getD]
  have:bs[i]?=some bs[i]:=List.getElem?_eq_getElem (by omega)
  rw [this]; rfl
 obtain ⟨u,hu,ru⟩:=r.get hb
 rw [hv'] at hu
 cases hu
 have e:v=Value.bool (bs.getD i false):=ru
 subst e
 exact wpAny_truthy_bool hq
theorem range_all {bs:List Bool}:(List.range bs.length).all (fun i=>bs.getD i false)=bs.all id:=by
 rw [Bool.eq_iff_iff,List.all_eq_true,List.all_eq_true]
 constructor
 · intro h b hb
   obtain ⟨i,hi,e⟩:=List.mem_iff_getElem.mp hb
   have:=h i (List.mem_range.mpr hi)
   rw [List.getD_eq_getElem?_getD,List.getElem?_eq_getElem hi] at this
   rw [←e]; exact this
 · intro h i hi
   have hi':=List.mem_range.mp hi
   rw [List.getD_eq_getElem?_getD,List.getElem?_eq_getElem hi']
   exact h _ (List.getElem_mem hi')
def rAll (K:PySem.W.Frag):List V→Hp→VK→Prop:=fun vs H Q=>∃ (a:Addr) (bs:List Bool),vs=[.ref a]∧SqL K H a (bs.map V.bl)∧Q (.bl (bs.all id)) H
theorem call_allL {X:Cx} (hc:X.calm=true):CallR X (.builtin "all") (rAll X.K):=by
 intro pins s σ H vs us Q I r h
 obtain ⟨a,bs,rfl,hq,q⟩:=h
 obtain ⟨u,rfl,ru⟩:=vals1 r
 obtain rfl:u=Value.ref a:=ru
 obtain ⟨its,rv,p,hz⟩:=I.list hq
 have hl:=rv.length
 rw [List.length_map] at hl
 have hlt:a < s.heap.objs.size:=by obtain ⟨_,e,_⟩:=p.isList; exact Heap.lt_size e
 refine call_all_walk (wpAny_pyIter_list p.isList ?_)
 refine ⟨s.heap.objs.size,[s.heap.objs.size,a],[s.heap.objs.size],its.toArray.size,(fun i v=>its.toArray[i]?=some v),(fun i h=>h.IsListIter s.heap.objs.size a i∧h.IsList a its.toArray),(fun i=>bs.getD i false),rfl,Walks.list (A:=X.A.in1) (I.ok.hd hc) s.heap.objs.size a (Nat.ne_of_lt hlt) its.toArray,⟨⟨_,Heap.get?_push_size _ rfl,rfl,rfl⟩,p.isList.push _⟩,truth_bl rv,fun h' tk hk=>?_⟩
 refine ⟨.bl (bs.all id),H,I.kept fun b o e=>hk b o (fun z=>?_) (Heap.get?_push_of_some _ e),?_,q⟩
 · have z':b=s.heap.objs.size:=by simpa using z
   exact absurd (Heap.lt_size e) (by rw [z']; exact Nat.lt_irrefl _)
 · have e:its.toArray.size=bs.length:=by rw [List.size_toArray,hl]
   show Value.bool _=Value.bool _
   rw [e,range_all]
def rS (g:Str→Str→Bool):R2:=fun x y H Q=>∃ a b,x=.str a∧y=.str b∧Q (.bl (g a b)) H
theorem op_leS {X:Cx}:OpR X (compareOp .LtE) (rS fun a b=>!decide (b.cps.toList < a.cps.toList)):=by
 intro pins s σ H x y v u Q I rx ry h
 obtain ⟨a,b,rfl,rfl,q⟩:=h
 obtain ⟨t,rfl⟩:=rx
 obtain ⟨t',rfl⟩:=ry
 exact P.le_str ⟨.bl _,H,I,rfl,q⟩
theorem vals_strs:∀ {xs:List Str} {its:List Value},Vals (xs.map V.str) its→∃ l:List (Str × Tok),its=strValues l∧l.map (·.1)=xs
 | [],_,.nil=>⟨[],rfl,rfl⟩
 | x :: xs,_,.cons r t=>by
   obtain ⟨tk,rfl⟩:=r
   obtain ⟨l,rfl,rfl⟩:=vals_strs t
   exact ⟨(x,tk) :: l,rfl,rfl⟩
def rJoin (K:PySem.W.Frag):V→List V→Hp→VK→Prop:=fun x vs H Q=>∃ sep a xs,x=.str sep∧vs=[.ref a]∧SqL K H a (xs.map V.str)∧JoinOk sep xs=true∧Q (.str (Txt.join sep xs)) H
theorem mt_join {X:Cx}:MtR X "str.join" (rJoin X.K):=by
 intro pins s σ H x vs v us Q I rx rv h
 obtain ⟨sep,a,xs,rfl,rfl,hq,hok,q⟩:=h
 obtain ⟨t,rfl⟩:=rx
 obtain ⟨u,rfl,ru⟩:=vals1 rv
 obtain rfl:u=Value.ref a:=ru
 obtain ⟨its,r,p,hz⟩:=I.list hq
 obtain ⟨l,rfl,hl⟩:=vals_strs r
 exact SC.join p.isList hl hok fun t' k=>⟨.str _,H,I.tok k,⟨t',rfl⟩,q⟩
def Its (x:Str):It:=⟨fun i _=>i < x.cps.size,fun i H v H'=>H'=H∧∃ c,x.cps[i]?=some c∧v=.str ⟨#[c]⟩,fun i _=>i=x.cps.size⟩
theorem turn_str {P:Program} {w:World} {K:PySem.W.Frag} {tg:Expr} {x:Str} {t:Tok} {ty:String} (it:Addr) (hn:["enumerate", "zip", "dict_itemiterator", "dict_reverseitemiterator", "odict_iterator", "itertools.zip_longest", "itertools.pairwise"].contains ty=false)
 (W:∀ A:Around,A.handled=none→Walks P w A it [it] [it] x.cps.size (SignAt x) (fun i h=>h.IsStrIter it ty x t i))
 (hself:∀ (A:Around) (i:Nat) (s:Shared) (Q:Value→Shared→Prop) (E:Value→Shared→Prop),s.heap.IsStrIter it ty x t i→Q (.ref it) s→wpAny (model P w) A (pyIter (.ref it)) Q E s):Turn P w K tg (Its x) [it] it (fun i h=>h.IsStrIter it ty x t i) where
 mem:=by simp
 obj:=fun i h st b hb=>by
  have e:b=it:=by simpa using hb
  subst e
  obtain ⟨o,e,c,d⟩:=st
  exact ⟨o,e,fun v z=>by rw [d] at z; cases z⟩
 keep:=fun i h h' st k=>by
  obtain ⟨o,e,r⟩:=st
  exact ⟨o,k it (by simp) o e,r⟩
 item:=by
  intro X hP hw hK hc i pins s σ H E I hf st hg
  subst hP hw hK
  obtain ⟨f0,f1,f2,f3,f4,f5⟩:=hf it (by simp)
  refine (W X.A (I.ok.hd hc)).item i s _ _ hg st fun v h' tk hv st' kk=>?_
  obtain ⟨c,u,hc',rfl⟩:=hv
  have I1:Inv X pins σ H { s with heap:=h',toks:=tk }:=I.turned (fun b o hb e=>kk b o (by simpa using hb) e) f0 f1 f3 f4 f5
  obtain ⟨o,e,c1,d⟩:=id st'
  exact ⟨_,rfl,go_of (s:={ s with heap:=h',toks:=tk }) e c1 d hn ⟨.str ⟨#[c]⟩,H,I1,⟨u,rfl⟩,⟨rfl,c,hc',rfl⟩,st',fun b hb=>(hf b hb).1⟩⟩
 done:=by
  intro X hP hw hK hc i pins s σ H E I hf st hg
  subst hP hw hK
  obtain ⟨f0,f1,f2,f3,f4,f5⟩:=hf it (by simp)
  have hg':i=x.cps.size:=hg
  subst hg'
  exact (W X.A (I.ok.hd hc)).done s _ _ st fun h' tk kk=>⟨rfl,I.turned (fun b o hb e=>kk b o (by simpa using hb) e) f0 f1 f3 f4 f5⟩
 self:=hself
def iStr (te:TE):TI:=fun σ H R=>te σ H fun x H1=>∃ y,x=.str y∧R (Its y) H1
theorem pi_str {X:Cx} {tg e:Expr} {te:TE} (he:PE X e te):PI X tg e (iStr te):=by
 intro pins s σ H R I h
 refine thn (he pins s σ H _ I h) fun v s1 ⟨x,H1,I1,r1,q1⟩=>?_
 obtain ⟨y,rfl,q⟩:=q1
 obtain ⟨t,rfl⟩:=r1
 have fin:∀ b∈[s1.heap.objs.size],FpOk X pins H1 b:=fun b hb=>by
  have e:b=s1.heap.objs.size:=by simpa using hb
  subst e
  exact I1.fpOk (Nat.le_refl _) (I1.hok.fresh (Nat.le_refl _))
 cases ha:y.cps.all (· < 128)
 · refine wpAny_pyIter_wide ha ⟨s1.heap.objs.size,[s1.heap.objs.size],_,_,H1,rfl,I1.kept (t':=s1.toks) fun b o e=>Heap.get?_push_of_some _ e,turn_str (ty := "str_iterator") (t:=t) _ (by decide) (fun A hA=>Walks.strWide hA _ y t) (fun A i s Q E st hQ=>wpAny_pyIter_striter_wide st hQ),⟨_,Heap.get?_push_size _ rfl,rfl,rfl⟩,fin,q⟩
 · refine wpAny_pyIter_ascii ha ⟨s1.heap.objs.size,[s1.heap.objs.size],_,_,H1,rfl,I1.kept (t':=s1.toks) fun b o e=>Heap.get?_push_of_some _ e,turn_str (ty := "str_ascii_iterator") (t:=t) _ (by decide) (fun A hA=>Walks.strAscii hA _ y t) (fun A i s Q E st hQ=>wpAny_pyIter_striter_ascii st hQ),⟨_,Heap.get?_push_size _ rfl,rfl,rfl⟩,fin,q⟩
theorem Inv.track {X:Cx} {pins:List (Addr × Obj)} {σ:St} {H:Hp} {s:Shared} {T:Addr} {o:HO} (I:Inv X pins σ H s) (hn:FpOk X pins H T) (hT:∃ ob,s.heap.get? T=some ob) (new:ObjOk X.prog X.w (upd H T o) s.heap T o):Inv X pins σ (upd H T o) s:=by
 obtain ⟨f0,f1,f2,f3,f4,f5⟩:=hn
 refine I.step (g':=s.gens) (t':=s.toks) (d':=s.drawn) (h':=s.heap) (ch:=[T]) (fun b hb=>?_) (fun b ob _ _ _ e _=>e) (fun b ob _ _ _ e _=>⟨ob.slots,e⟩) (fun b ob hb e n=>?_) (fun b ob _ e=>⟨ob,e⟩) (fun b xs e=>?_) (fun b ob u e=>?_) (fun b ps e=>?_) (fun m hm=>hm) (fun b u e=>?_) I.bare
 · have e:b=T:=by simpa using hb
   subst e
   exact ⟨f3,f1,f4,f5⟩
 · rw [upd_ne (by simpa using hb)]; exact n
 · rw [upd_ne (ne_of_none e f0)]; exact e
 · rw [upd_ne (ne_of_none e f0)]; exact e
 · exact ⟨#[],by rw [upd_ne (ne_of_none e f0),e]; simp⟩
 · by_cases hb:b=T
   · subst hb; rw [upd_same] at e; cases e; exact new
   · rw [upd_ne hb] at e
     exact (I.hok b u e).stay (fun c v _ q=>q) (fun c q=>by rw [upd_ne (ne_of_none q f0)]; exact q) fun c xs q=>by rw [upd_ne (ne_of_none q f0)]; exact q
end L2
namespace L2
open PySem PySem.Spec PyProof.Rows
def closOf (env:Env):List (Str × NameKind)→List (Str × Addr)→List (Str × Addr)
 | [],acc=>acc
 | (n,k) :: r,acc=>if k == .free then closOf env r ((n,(env.cells.lookup n).getD 0) :: acc) else closOf env r acc
theorem forIn_clos {env:Env} (f:Str × NameKind→List (Str × Addr)→Sem (ForInStep (List (Str × Addr))))
 (hf:∀ n k cs,f (n,k) cs=if (k == NameKind.free)=true then (cellOf env n >>= fun a=>pure (.yield ((n,a) :: cs))) else pure (.yield cs)) :
 ∀ (names:List (Str × NameKind)) (acc:List (Str × Addr)),(∀ x∈names,x.2=.free→∃ c,env.cells.lookup x.1=some c)→forIn names acc f=pure (closOf env names acc)
 | [],acc,_=>by rw [List.forIn_nil]; rfl
 | (n,k) :: r,acc,h=>by
   rw [List.forIn_cons,hf]
   unfold closOf
   by_cases hk:(k == NameKind.free)=true
   · rw [if_pos hk,if_pos hk]
     obtain ⟨c,hc⟩:=h (n,k) List.mem_cons_self (beq_iff_eq.mp hk)
     have e:cellOf env n=pure c:=by unfold cellOf; rw [hc]
     rw [e,hc]
     exact forIn_clos f hf r _ fun x hx=>h x (List.mem_cons_of_mem _ hx)
   · rw [if_neg hk,if_neg hk]
     exact forIn_clos f hf r _ fun x hx=>h x (List.mem_cons_of_mem _ hx)
theorem closureFor_of {scope:Scope} {env:Env} (h:∀ x∈scope.names,x.2=.free→∃ c,env.cells.lookup x.1=some c):closureFor scope env=pure (closOf env scope.names []):=by
 simp only [closureFor]
 rw [forIn_clos (env:=env) _ (fun n k cs=>by cases hk:k == NameKind.free <;> simp [hk]) scope.names [] h]
 rfl
theorem closOf_mem {env:Env}:∀ {names:List (Str × NameKind)} {acc:List (Str × Addr)} {x:Str} {c:Addr},(x,c)∈closOf env names acc→(x,c)∈acc∨((x,NameKind.free)∈names∧c=(env.cells.lookup x).getD 0)
 | [],_,_,_,h=>.inl h
 | (n, k) :: r, acc, x, c, h => by
   unfold closOf at h
   by_cases hk:(k == NameKind.free)=true
   · rw [if_pos hk] at h
     rcases closOf_mem h with h | ⟨h,e⟩
     · rcases List.mem_cons.mp h with h | h
       · cases h
         rw [beq_iff_eq.mp hk]
         exact .inr ⟨List.mem_cons_self,rfl⟩
       · exact .inl h
     · exact .inr ⟨List.mem_cons_of_mem _ h,e⟩
   · rw [if_neg hk] at h
     rcases closOf_mem h with h | ⟨h,e⟩
     · exact .inl h
     · exact .inr ⟨List.mem_cons_of_mem _ h,e⟩
theorem closOf_acc {env:Env}:∀ {names:List (Str × NameKind)} {acc:List (Str × Addr)} {p:Str × Addr},p∈acc→p∈closOf env names acc
 | [],_,_,h=>h
 | (n,k) :: r,acc,p,h=>by
   unfold closOf
   by_cases hk:(k == NameKind.free)=true
   · rw [if_pos hk]; exact closOf_acc (List.mem_cons_of_mem _ h)
   · rw [if_neg hk]; exact closOf_acc h
theorem closOf_has {env:Env}:∀ {names:List (Str × NameKind)} {acc:List (Str × Addr)} {x:Str},(x,NameKind.free)∈names→∃ c,(x,c)∈closOf env names acc
 | (n,k) :: r,acc,x,h=>by
   unfold closOf
   rcases List.mem_cons.mp h with h | h
   · cases h
     rw [if_pos (show (NameKind.free == NameKind.free)=true by rfl)]
     exact ⟨_,closOf_acc List.mem_cons_self⟩
   · by_cases hk:(k == NameKind.free)=true
     · rw [if_pos hk]; exact closOf_has h
     · rw [if_neg hk]; exact closOf_has h
theorem look_of_mem {α:Type}:∀ {l:List (Str × α)} {x:Str} {c:α},(x,c)∈l→∃ c',l.lookup x=some c'
 | (n, d) :: r, x, c, h => by
   rw [List.lookup_cons]
   cases hb:x == n with
   | true=>exact ⟨d,rfl⟩
   | false =>
     rcases List.mem_cons.mp h with h | h
     · cases h
       simp at hb
     · exact look_of_mem h
theorem cellsFrom_app:∀ (names:List (Str × NameKind)) (n:Nat) (acc:List (Str × Addr)),cellsFrom n names acc=cellsFrom n names []++acc
 | [],_,_=>rfl
 | (x,k) :: r,n,acc=>by
   unfold cellsFrom
   by_cases hk:(k == NameKind.cell)=true
   · rw [if_pos hk,if_pos hk,cellsFrom_app r (n + 1) ((x,n) :: acc),cellsFrom_app r (n + 1) [(x,n)],List.append_assoc]
     rfl
   · rw [if_neg hk,if_neg hk]; exact cellsFrom_app r n acc
theorem cellsFrom_cell:∀ {names:List (Str × NameKind)} {n:Nat} {acc:List (Str × Addr)} {x:Str} {c:Addr},(x,c)∈cellsFrom n names acc→(x,c)∈acc∨(x,NameKind.cell)∈names
 | [],_,_,_,_,h=>.inl h
 | (y, k) :: r, n, acc, x, c, h => by
   unfold cellsFrom at h
   by_cases hk:(k == NameKind.cell)=true
   · rw [if_pos hk] at h
     rcases cellsFrom_cell h with h | h
     · rcases List.mem_cons.mp h with h | h
       · cases h
         rw [beq_iff_eq.mp hk]
         exact .inr List.mem_cons_self
       · exact .inl h
     · exact .inr (List.mem_cons_of_mem _ h)
   · rw [if_neg hk] at h
     rcases cellsFrom_cell h with h | h
     · exact .inl h
     · exact .inr (List.mem_cons_of_mem _ h)
section
variable {M:Model} {A:Around} {E:Value→Shared→Prop} {s:Shared}
theorem nfe_comp {scope:Scope} {env:Env} {cl:List (Str × Addr)} {Q:Env→Shared→Prop}
 (hQ:Q (newEnv scope s.heap.objs.size env.globals (cellsFrom (s.heap.objs.size + 1) scope.names cl) env.qual none .none (some env) builtinsNs) { s with heap:=pushCells (s.heap.push { cls:=.type "dict",data:=.dict #[] }) scope.names }) :
 wpAny M A (newFunctionEnv scope env.globals cl [] env.qual none .none (some env)) Q E s:=by
 simp only [newFunctionEnv,Option.isSome_some,if_true]
 refine wpAny_bind (wpAny_alloc ?_)
 refine wpAny_bind (wpAny_layCells _ (fun name kind cells=>by cases hkc:kind == NameKind.cell <;> simp [hkc]) _ _ _ _ ?_)
 rw [show ({ s with heap:=s.heap.push { cls:=.type "dict",data:=.dict #[] } }:Shared).heap.objs.size=s.heap.objs.size + 1 from Heap.size_push ..]
 exact wpAny_bind (wpAny_pure (wpAny_pure hQ))
end
abbrev cxComp (X:Cx) (N:List Str) (scope:Scope) (cs:List (Str × Addr)) (C:Addr) (s:Shared) (H:Hp) (ex:List Addr):Cx where
 prog:=X.prog
 w:=X.w
 K:=X.K
 mg:=X.mg
 base:=X.base
 A:=X.A
 N:=N
 s₀:=s
 H₀:=H
 env:=compEnvC scope cs C X.env
 outer:=X.stack
 stack:=X.stack
 ex:=ex
 fn:=fun x=>decide (scope.names.lookup x≠some .free)
 calm:=X.calm
 pn:=[]
 xe:=fun _ _=>False
structure CompScope (psc:Scope) (PN:List Str) (scope:Scope) (N:List Str) (k:Nat) (caps:List Nat):Prop where
 kind:scope.kind=.function
 loc:∀ x∈scope.names,x.2=.local→scope.names.lookup x.1=some .local
 ndn:(scope.names.map (·.1)).Nodup
 nd:N.Nodup
 len:N.length=k + caps.length
 free:∀ x∈scope.names,x.2=.free→psc.names.lookup x.1=some .cell∨psc.names.lookup x.1=some .free
 cap:∀ p∈(N.drop k).zip caps,PN[p.2]?=some p.1∧scope.names.lookup p.1=some .free
def compSt (k:Nat) (caps:List Nat) (σ:St):St:=List.replicate k none++caps.map fun j=>(σ[j]?).getD none
theorem compSt_at {k:Nat} {caps:List Nat} {σ:St} {i:Nat} {v:V} (h:(compSt k caps σ)[i]?=some (some v)):∃ j,k≤i∧caps[i - k]?=some j∧σ[j]?=some (some v):=by
 unfold compSt at h
 by_cases hi:i < k
 · rw [List.getElem?_append_left (by simpa using hi),List.getElem?_replicate,if_pos hi] at h
   cases h
 · rw [List.getElem?_append_right (by simpa using hi),List.length_replicate,List.getElem?_map] at h
   cases e:caps[i - k]? with
   | none=>rw [e] at h; cases h
   | some j =>
     rw [e] at h
     have h':(σ[j]?).getD none=some v:=Option.some.inj h
     refine ⟨j,by omega,rfl,?_⟩
     cases q:σ[j]? with
     | none=>rw [q] at h'; cases h'
     | some o=>rw [q] at h'; exact congrArg some h'
theorem relabel_look {scope:Scope} {env:Env} {x:Str} {k':NameKind} (h:(relabel scope env).names.lookup x=some k'):∃ k,(x,k)∈scope.names∧(k'=k∨(k=.free∧k'=.cell)):=by
 have hm:=PySem.mem_of_lookup h
 have hm':(x,k')∈scope.names.map (fun (n,k)=>if (k == NameKind.free && env.scope.kind == .function && env.kindOf n == some .cell) then (n,NameKind.cell) else (n,k)):=hm
 obtain ⟨⟨n,k⟩,h1,h2⟩:=List.mem_map.mp hm'
 dsimp only at h2
 by_cases hc:(k == NameKind.free && env.scope.kind == .function && env.kindOf n == some .cell)=true
 · rw [if_pos hc] at h2
   cases h2
   simp only [Bool.and_eq_true,beq_iff_eq] at hc
   exact ⟨k,h1,.inr ⟨hc.1.1,rfl⟩⟩
 · rw [if_neg hc] at h2
   cases h2
   exact ⟨k',h1,.inl rfl⟩
theorem map_free {f:Str × NameKind→Str × NameKind} (hf:∀ n k,f (n,k)=(n,k)∨(k=.free∧f (n,k)=(n,NameKind.cell))):∀ {names:List (Str × NameKind)} {x:Str},names.lookup x=some .free→(names.map f).lookup x=some .cell∨(names.map f).lookup x=some .free
 | [],_,h=>by simp at h
 | (n,k) :: r,x,h=>by
   have ih:=@map_free f hf r x
   rw [List.lookup_cons] at h
   rw [List.map_cons]
   cases hx:x == n with
   | true =>
     rw [hx] at h
     cases h
     rcases hf n .free with e | ⟨_,e⟩
     · right; rw [e,List.lookup_cons,hx]
     · left; rw [e,List.lookup_cons,hx]
   | false =>
     rw [hx] at h
     have h':=ih h
     rcases hf n k with e | ⟨_,e⟩
     · rw [e,List.lookup_cons,hx]; exact h'
     · rw [e,List.lookup_cons,hx]; exact h'
theorem relabel_free {scope:Scope} {env:Env} {x:Str} (h:scope.names.lookup x=some .free):(relabel scope env).names.lookup x=some .cell∨(relabel scope env).names.lookup x=some .free:=by
 refine map_free (fun n k=>?_) h
 by_cases hc:(k == NameKind.free && env.scope.kind == .function && env.kindOf n == some .cell)=true
 · right
   refine ⟨?_,if_pos hc⟩
   simp only [Bool.and_eq_true,beq_iff_eq] at hc
   exact hc.1.1
 · left; exact if_neg hc
theorem nodup_key {names:List (Str × NameKind)} (h:(names.map (·.1)).Nodup) {x:Str} {k k':NameKind} (h1:(x,k)∈names) (h2:(x,k')∈names):k=k':=by
 induction names with
 | nil=>simp at h1
 | cons p r ih =>
   rw [List.map_cons] at h
   obtain ⟨ha,hb⟩:=List.nodup_cons.mp h
   rcases List.mem_cons.mp h1 with e1 | h1 <;> rcases List.mem_cons.mp h2 with e2 | h2
   · rw [←e1] at e2; exact (Prod.mk.inj e2).2.symm
   · exact absurd (List.mem_map.mpr ⟨_,h2,by rw [←e1]⟩) ha
   · exact absurd (List.mem_map.mpr ⟨_,h1,by rw [←e2]⟩) ha
   · exact ih hb h1 h2
theorem Un.but {fs ex:List Addr} {H H':Hp} {h h1 h2:Heap} {C:Addr} (u:Un fs ex H H' h h1) (hs:Heap.SameBut C h1 h2) (hC:h.objs.size≤C):Un fs ex H H' h h2:=by
 have ne:∀ b o,h.get? b=some o→b≠C:=fun b o e=>Nat.ne_of_lt (Nat.lt_of_lt_of_le (Heap.lt_size e) hC)
 refine ⟨fun b o e n hb hx=>(hs.2 b (ne b o e)).trans (u.keep b o e n hb hx),fun b o e n hb hx=>?_,u.free,fun b o e hx=>?_,u.tups,u.frzs,u.tbls⟩
 · obtain ⟨sl,q⟩:=u.slot b o e n hb hx
   exact ⟨sl,(hs.2 b (ne b o e)).trans q⟩
 · obtain ⟨o',q⟩:=u.there b o e hx
   exact ⟨o',(hs.2 b (ne b o e)).trans q⟩
theorem HOk.but {P:Program} {w:World} {H:Hp} {h1 h2:Heap} {C:Addr} (x:HOk P w H h1) (hs:Heap.SameBut C h1 h2) (hn:H C=none):HOk P w H h2:=fun b u e=>by
 refine (x b u e).stay (fun c v hc q=>(hs.2 c ?_).trans q) (fun _ q=>q) fun _ _ q=>q
 rintro rfl
 rcases hc with rfl | hc
 · rw [hn] at e; cases e
 · rw [hn] at hc; cases hc
section
variable {X:Cx} {scope:Scope} {N:List Str} {k:Nat} {caps:List Nat} {psc:Scope} {PN:List Str} {pins:List (Addr × Obj)} {σ:St} {H:Hp} {s:Shared}
abbrev cellsC (X:Cx) (scope:Scope) (C:Addr):List (Str × Addr):=cellsFrom (C + 1) scope.names (closOf X.env scope.names [])
theorem cellsC_split {C:Addr} (I:Inv X pins σ H s) (S:CompScope X.env.scope X.N scope N k caps) {x:Str} {c:Addr} (h:(x,c)∈cellsC X scope C) :
 (x,c)∈cellsFrom (C + 1) scope.names []∨X.env.cells.lookup x=some c:=by
 unfold cellsC at h
 rw [cellsFrom_app] at h
 rcases List.mem_append.mp h with h | h
 · exact .inl h
 · rcases closOf_mem h with h | ⟨h,e⟩
   · simp at h
   · obtain ⟨c',hc⟩:=I.ok.has x (S.free _ h rfl)
     rw [hc] at e
     exact .inr (by rw [hc]; exact congrArg some e.symm)
theorem comp_start {fp:List Addr} (I:Inv X pins σ H s) (S:CompScope X.env.scope X.N scope N k caps) (hf:∀ b∈fp,FpOk X pins H b) (hfo:∀ b∈fp,∃ o,s.heap.get? b=some o) {D C:Nat} {h1:Heap} {t':Nat} (hD:D=s.heap.objs.size) (hC:C=D + 1)
 (hh:h1=pushCells ((s.heap.push { cls:=.type "list",data:=.seq #[] }).push { cls:=.type "dict",data:=.dict #[] }) scope.names) :
 Inv (cxComp X N scope (cellsC X scope C) C s H fp) [] (compSt k caps σ) (upd H D (.lst [])) { s with heap:=h1,toks:=t' }:=by
 have hsz1:(s.heap.push { cls:=.type "list",data:=.seq #[] }).objs.size=C:=by rw [Heap.size_push,hC,hD]
 have hsz2:((s.heap.push { cls:=.type "list",data:=.seq #[] }).push { cls:=.type "dict",data:=.dict #[] }).objs.size=C + 1:=by rw [Heap.size_push,hsz1]
 have old:∀ b o,s.heap.get? b=some o→h1.get? b=some o:=fun b o e=>by
  rw [hh]; exact pushCells_keeps _ _ b o (Heap.get?_push_of_some _ (Heap.get?_push_of_some _ e))
 have hacc:h1.get? D=some { cls:=.type "list",data:=.seq #[] }:=by
  rw [hh,hD]; exact pushCells_keeps _ _ _ _ (Heap.get?_push_of_some _ (Heap.get?_push_size _ rfl))
 have hns:h1.Ns C (fun _=>none):=by
  rw [hh,←hsz1]
  exact (Heap.Ns.new _ (.type "dict")).keeps (pushCells_keeps _ _)
 have ok:=cellsFrom_ok scope.names ((s.heap.push { cls:=.type "list",data:=.seq #[] }).push { cls:=.type "dict",data:=.dict #[] }) (C + 1) [] ⟨fun _ _ hm=>(nomatch hm),List.Pairwise.nil⟩ (by rw [hsz2]; exact Nat.le_refl _)
 rw [hsz2] at ok
 have own:∀ x c,(x,c)∈cellsFrom (C + 1) scope.names []→h1.IsCell c none∧C + 1≤c:=fun x c h=>by rw [hh]; exact ok.empty x c h
 have par:∀ x c,X.env.cells.lookup x=some c→c < D:=fun x c e=>by
  obtain ⟨v,q⟩:=I.cell x c e
  rw [hD]; exact q.lt
 have fpD:∀ b∈fp,b < D:=fun b hb=>by
  obtain ⟨o,e⟩:=hfo b hb
  rw [hD]; exact Heap.lt_size e
 have hCfree:H C=none:=I.hok.fresh (by rw [hC,hD]; exact Nat.le_succ _)
 have split:=fun x c (h:(cellsC X scope C).lookup x=some c)=>cellsC_split (C:=C) I S (PySem.mem_of_lookup h)
 have updn:∀ b,b≠D→H b=none→(upd H D (.lst [])) b=none:=fun b hb e=>by rw [upd_ne hb]; exact e
 have capt:∀ x,scope.names.lookup x=some .free→∃ c,X.env.cells.lookup x=some c∧(cellsC X scope C).lookup x=some c:=fun x hx=>by
  have hm:=PySem.mem_of_lookup hx
  obtain ⟨c0,h0⟩:=closOf_has (env:=X.env) (acc:=[]) hm
  obtain ⟨c,hc⟩:=look_of_mem (l:=cellsC X scope C) (x:=x) (c:=c0) (by unfold cellsC; rw [cellsFrom_app]; exact List.mem_append_right _ h0)
  refine ⟨c,?_,hc⟩
  rcases split x c hc with q | q
  · rcases cellsFrom_cell q with z | z
    · simp at z
    · have:=nodup_key S.ndn hm z; cases this
  · exact q
 have okX : (cxComp X N scope (cellsC X scope C) C s H fp).Ok := by
  refine ⟨I.ok.mod,S.kind,I.ok.glob,I.ok.blt,?above,?inj,?has,?cab,I.ok.hd,I.ok.frames,.inl rfl,?exf,fun b o e=>I.bs b o e,Nat.le_trans I.ok.bsz I.sz,?noex,?exfs,I.stack,I.stkFree⟩
  case above =>
   show s.heap.objs.size≤C
   rw [hC,hD]; exact Nat.le_succ _
  case inj =>
   intro x y c e1 e2
   rcases split x c e1 with q1 | q1 <;> rcases split y c e2 with q2 | q2
   · exact name_of_addr ok.apart q1 q2
   · have h1:@LE.le Nat _ (C + 1) c:=(own x c q1).2
     have h2:@LT.lt Nat _ c D:=par y c q2
     exfalso; omega
   · have h1:@LE.le Nat _ (C + 1) c:=(own y c q2).2
     have h2:@LT.lt Nat _ c D:=par x c q1
     exfalso; omega
   · exact I.ok.inj x y c q1 q2
  case has =>
   intro x hx
   have hx':(relabel scope X.env).names.lookup x=some .cell∨(relabel scope X.env).names.lookup x=some .free:=hx
   have hk:∃ k',(x,k')∈scope.names∧(k'=.cell∨k'=.free):=by
    rcases hx' with q | q
    · obtain ⟨k',h1,h2⟩:=relabel_look q
      rcases h2 with h2 | ⟨h2,_⟩
      · exact ⟨k',h1,.inl h2.symm⟩
      · exact ⟨k',h1,.inr h2⟩
    · obtain ⟨k',h1,h2⟩:=relabel_look q
      rcases h2 with h2 | ⟨_,h2⟩
      · exact ⟨k',h1,.inr h2.symm⟩
      · cases h2
   obtain ⟨k',hm,hk | hk⟩:=hk
   · subst hk
     have q:=PySem.W.cellsFrom_some scope.names (C + 1) (closOf X.env scope.names []) (x:=x) (.inl (by
      obtain ⟨k2,hk2⟩:=look_of_mem hm
      rw [hk2,nodup_key S.ndn (PySem.mem_of_lookup hk2) hm]))
     exact Option.isSome_iff_exists.mp q
   · subst hk
     obtain ⟨c0,h0⟩:=closOf_has (env:=X.env) (acc:=[]) hm
     exact look_of_mem (c:=c0) (by show (x,c0)∈cellsC X scope C; unfold cellsC; rw [cellsFrom_app]; exact List.mem_append_right _ h0)
  case cab =>
   intro x c hx e
   have hx':decide (scope.names.lookup x≠some .free)=true:=hx
   have hx2:=of_decide_eq_true hx'
   show s.heap.objs.size≤c
   have e':(cellsC X scope C).lookup x=some c:=e
   have hm:=PySem.mem_of_lookup e'
   unfold cellsC at hm
   rw [cellsFrom_app] at hm
   rcases List.mem_append.mp hm with z | z
   · have h1:@LE.le Nat _ (C + 1) c:=(own x c z).2
     have h2:@LE.le Nat _ s.heap.objs.size c:=by omega
     exact h2
   · rcases closOf_mem z with z | ⟨z,_⟩
     · simp at z
     · obtain ⟨k2,hk2⟩:=look_of_mem z
       exact absurd (by rw [hk2,nodup_key S.ndn (PySem.mem_of_lookup hk2) z]) hx2
  case exf =>
   intro b hb
   refine ⟨?_,fun x c e z=>?_⟩
   · have h1:@LT.lt Nat _ b D:=fpD b hb
     exact Nat.ne_of_lt (show @LT.lt Nat _ b C by omega)
   · rcases split x c e with q | q
     · have h1:@LE.le Nat _ (C + 1) c:=(own x c q).2
       have h2:@LT.lt Nat _ b D:=fpD b hb
       have z':@Eq Nat c b:=z
       omega
     · exact (hf b hb).2.2.2.2.1 x c q z
  case noex =>
   intro b o e hb
   rcases (hf b hb).2.2.2.1 with q | q
   · exact I.ok.noex b o e q
   · exact absurd (Nat.lt_of_lt_of_le (Heap.lt_size e) (Nat.le_trans I.ok.bsz q)) (Nat.lt_irrefl _)
  case exfs =>
   intro b hb z
   have z':b∈frs X.stack:=z
   rcases List.mem_cons.mp (I.stkSub b z') with q | q
   · exact (hf b hb).2.1 q
   · exact (hf b hb).2.2.1 q
 refine ⟨okX,rfl,I.bare,Un.laid old (by rw [hD]; exact Nat.le_refl _) (I.hok.fresh (by rw [hD]; exact Nat.le_refl _)),⟨_,hns,?loc⟩,?cell,updn _ (show @Ne Nat C D by omega) hCfree,?freeC,fun p hp=>absurd hp (by simp),?hok,?len⟩
 case loc =>
  intro i x v e1 e2 e3
  obtain ⟨j,hi,hj,hv⟩:=compSt_at e2
  have hz:(x,j)∈(N.drop k).zip caps:=by
   refine List.mem_iff_getElem?.mpr ⟨i - k,?_⟩
   rw [List.getElem?_zip_eq_some]
   refine ⟨?_,hj⟩
   rw [List.getElem?_drop,show k + (i - k)=i by omega]
   exact e1
  obtain ⟨hp,hfr⟩:=S.cap (x,j) hz
  have hk:=S.free (x,.free) (PySem.mem_of_lookup hfr) rfl
  obtain ⟨m,hn,hl⟩:=I.loc
  obtain ⟨u,r,l⟩:=hl j x v hp hv (by rcases hk with q | q; exact .inr (.inl q); exact .inr (.inr q))
  refine ⟨u,r,?_⟩
  obtain ⟨c,hc1,hc2⟩:=capt x hfr
  have hcell:s.heap.IsCell c (some u):=by
   rcases l with ⟨q,_⟩ | ⟨_,c',q1,q2⟩
   · have q':X.env.scope.names.lookup x=some .local:=q
     rcases hk with z | z
     · rw [q'] at z; cases z
     · rw [q'] at z; cases z
   · rw [hc1] at q1; cases q1; exact q2
  exact .inr ⟨relabel_free hfr,c,hc2,hcell.keeps old⟩
 case cell =>
  intro x c e
  rcases split x c e with q | q
  · exact ⟨_,(own x c q).1⟩
  · obtain ⟨v,z⟩:=I.cell x c q
    exact ⟨v,z.keeps old⟩
 case freeC =>
  intro x c e
  rcases split x c e with q | q
  · have h1:@LE.le Nat _ (C + 1) c:=(own x c q).2
    have h2:@LE.le Nat _ s.heap.objs.size c:=by omega
    exact updn c (show @Ne Nat c D by omega) (I.hok.fresh h2)
  · exact updn c (Nat.ne_of_lt (par x c q)) (I.freeC x c q)
 case hok =>
  exact I.hok.laid old (by rw [hD]; exact Nat.le_refl _) ⟨Nat.zero_le _,[],0,.nil,hacc⟩
 case len =>
  show (compSt k caps σ).length=N.length
  unfold compSt
  rw [List.length_append,List.length_replicate,List.length_map,S.len]
theorem comp_again {fp:List Addr} (I:Inv X pins σ H s) (S:CompScope X.env.scope X.N scope N k caps) {C:Addr} {pins':List (Addr × Obj)} {σ':St} {H':Hp} {s':Shared} (hfc:∀ x c,X.env.cells.lookup x=some c→c ∉ fp) (hD:s.heap.objs.size≤C)
 (J:Inv (cxComp X N scope (cellsC X scope C) C s H fp) pins' σ' H' s'):Inv (cxComp X N scope (cellsC X scope C) C s H fp) pins' (compSt k caps σ) H' s':=by
 obtain ⟨m,hn,_⟩:=id J.loc
 refine ⟨J.ok,J.os,J.bare,J.base,⟨m,hn,fun i x v e1 e2 e3=>?_⟩,J.cell,J.free,J.freeC,J.pin,J.hok,?_⟩
 · obtain ⟨j,hi,hj,hv⟩:=compSt_at e2
   have hz:(x,j)∈(N.drop k).zip caps:=by
    refine List.mem_iff_getElem?.mpr ⟨i - k,?_⟩
    rw [List.getElem?_zip_eq_some]
    refine ⟨?_,hj⟩
    rw [List.getElem?_drop,show k + (i - k)=i by omega]
    exact e1
   obtain ⟨hp,hfr⟩:=S.cap (x,j) hz
   have hk:=S.free (x,.free) (PySem.mem_of_lookup hfr) rfl
   obtain ⟨m2,hn2,hl⟩:=I.loc
   obtain ⟨u,r,l⟩:=hl j x v hp hv (by rcases hk with q | q; exact .inr (.inl q); exact .inr (.inr q))
   refine ⟨u,r,?_⟩
   have hcell:∃ c,X.env.cells.lookup x=some c∧s.heap.IsCell c (some u):=by
    rcases l with ⟨q,_⟩ | ⟨_,c',q1,q2⟩
    · have q':X.env.scope.names.lookup x=some .local:=q
      rcases hk with z | z
      · rw [q'] at z; cases z
      · rw [q'] at z; cases z
    · exact ⟨c',q1,q2⟩
   obtain ⟨c,hc1,o,ho,hd⟩:=hcell
   have hc2:(cellsC X scope C).lookup x=some c:=by
    have hm:=PySem.mem_of_lookup hfr
    obtain ⟨c0,h0⟩:=closOf_has (env:=X.env) (acc:=[]) hm
    obtain ⟨c',hc'⟩:=look_of_mem (l:=cellsC X scope C) (x:=x) (c:=c0) (by unfold cellsC; rw [cellsFrom_app]; exact List.mem_append_right _ h0)
    rcases cellsC_split (C:=C) I S (PySem.mem_of_lookup hc') with q | q
    · rcases cellsFrom_cell q with z | z
      · simp at z
      · have:=nodup_key S.ndn hm z; cases this
    · rw [hc1] at q; cases q; exact hc'
   obtain ⟨sl,q⟩:=J.base.any ho (I.freeC x c hc1) (hfc x c hc1)
   exact .inr ⟨relabel_free hfr,c,hc2,_,q,hd⟩
 · show (compSt k caps σ).length=N.length
   unfold compSt
   rw [List.length_append,List.length_replicate,List.length_map,S.len]
end
def PF (X:Cx) (ifs:List Expr) (t:TT):Prop :=
 ∀ (pins:List (Addr × Obj)) (s:Shared) (σ:St) (H:Hp) (Q:Bool→Hp→Prop),Inv X pins σ H s→t σ H Q →
  wpAny (model X.prog X.w) X.A (forIn ifs true fun c r=>if r=true then do let ok ←isTrue c X.env (eval c X.env); pure (ForInStep.yield ok) else pure (ForInStep.yield r)) (TP X pins σ Q) X.xe s
def tYes:TT:=fun _ H Q=>Q true H
theorem pf_nil {X:Cx}:PF X [] tYes:=fun _ _ _ H _ I h=>wpAny_tests_nil ⟨H,I,h⟩
theorem pf_one {X:Cx} {c:Expr} {t:TT} (h:PT X c t):PF X [c] t:=fun pins s σ H Q I hw=>wpAny_tests_one (h pins s σ H Q I hw)
theorem comp_loop {prog:Program} {w:World} {A:Around} {R:Result→Shared→Prop} {s:Shared} {elt target iter:Expr} {ifs:List Expr} {scope:Scope} {pos:Pos} {it acc:Value} {env:Env} (I:Nat→Shared→Prop)
 (turn:∀ n s,I n s→wpAny (model prog w) A (pyNext it) (fun r s₁=>match r with
  | none=>R (.ok .next) s₁
  | some v=>wpAny (model prog w) A (letOwnedTupleGo target it v) (fun _ s₁=>wpAny (model prog w) A (assign target env v) (fun _ s₂ =>
   wpAny (model prog w) A (forIn ifs true fun c r=>if r=true then do let ok ←isTrue c env (eval c env); pure (ForInStep.yield ok) else pure (ForInStep.yield r)) (fun ok s₃ =>
    if ok=true then wpAny (model prog w) A (eval elt env) (fun x s₄ =>
     wpAny (model prog w) A (call (.builtin "list.append") [acc,x]) (fun _ s₅=>∃ m,m < n∧I m s₅) (fun _ _=>False) s₄) (fun _ _=>False) s₃
    else ∃ m,m < n∧I m s₃) (fun _ _=>False) s₂) (fun _ _=>False) s₁) (fun _ _=>False) s₁) (fun _ _=>False) s)
 (n:Nat) (h:I n s) :
 codeAny (model prog w) A (.compLoop (.ListComp elt [⟨target,iter,ifs,0⟩] scope pos) 0 it acc env) R s:=by
 refine codeAny_loop rfl I (fun n s hI=>?_) n h
 show wpAny _ A ((compTurn (.ListComp elt [⟨target,iter,ifs,0⟩] scope pos) 0 it acc env).onRaise (fun x=>do noteFrame x env; theTreesLotGoes x)) _ _ s
 refine wpAny_noted ?_
 rw [compTurn_list]
 refine wpAny_bind (wpAny_standAt (wpAny_bind (wpAny_mono (turn n s hI) (fun r s₁ h₁=>?_) fun _ _ h'=>h'.elim)))
 cases r with
 | none=>exact wpAny_pure h₁
 | some v =>
   refine wpAny_bind (wpAny_mono h₁ (fun _ s₁ h₁=>?_) fun _ _ h'=>h'.elim)
   refine wpAny_bind (wpAny_mono h₁ (fun _ s₂ h₂=>wpAny_bind (wpAny_mono h₂ (fun ok s₃ h₃=>?_) fun _ _ h'=>h'.elim)) fun _ _ h'=>h'.elim)
   cases ok with
   | false=>exact wpAny_pure ⟨rfl,h₃⟩
   | true =>
     exact wpAny_bind (wpAny_bind (wpAny_mono h₃ (fun x s₄ h₄=>wpAny_bind (wpAny_mono h₄ (fun _ s₅ h₅=>wpAny_pure (wpAny_pure ⟨rfl,h₅⟩)) fun _ _ h'=>h'.elim)) fun _ _ h'=>h'.elim))
def tComp (k:Nat) (caps:List Nat) (wi:TI) (g:TG) (tc:TT) (te:TE):TE:=fun σ H Q=>wi σ H fun J H1=>∀ D,H1 D=none→∃ W:Nat→Nat→List V→Hp→Prop,(∃ m,W 0 m [] (upd H1 D (.lst [])))∧∀ i m ys H2,W i m ys H2 →
 (J.stop i H2∧Q (.ref D) H2)∨(J.go i H2∧∀ x H3,J.yld i H2 x H3→g x (compSt k caps σ) H3 fun σ4 H4=>tc σ4 H4 fun b H5 =>
  if b=true then te σ4 H5 fun y H6=>H6 D=some (.lst ys)∧ys.length < sizeLine∧∃ m',m' < m∧W (i + 1) m' (ys++[y]) (upd H6 D (.lst (ys++[y]))) else ∃ m',m' < m∧W (i + 1) m' ys H5)
theorem comp_block {X:Cx} {elt iter tg:Expr} {ifs:List Expr} {scope:Scope} {pos:Pos} {N:List Str} {k:Nat} {caps:List Nat} {g:TG} {tc:TT} {te:TE} {pins:List (Addr × Obj)} {σ:St} {H:Hp} {s:Shared} {E:Value→Shared→Prop} {Q:VK}
 {it:Addr} {fp:List Addr} {tn:Nat→Heap→Prop} {J:It} {RR:Value→Addr→Result→Shared→Prop} (hc:X.calm=true) (S:CompScope X.env.scope X.N scope N k caps) (I:Inv X pins σ H s)
 (T:Turn X.prog X.w X.K tg J fp it tn) (st:tn 0 s.heap) (hf:∀ b∈fp,FpOk X pins H b)
 (hg:∀ cs C s H ex,PG (cxComp X N scope cs C s H ex) tg g) (ht:∀ cs C s H ex,PF (cxComp X N scope cs C s H ex) ifs tc) (he:∀ cs C s H ex,PE (cxComp X N scope cs C s H ex) elt te)
 (q:∀ D,H D=none→∃ W:Nat→Nat→List V→Hp→Prop,(∃ m,W 0 m [] (upd H D (.lst [])))∧∀ i m ys H2,W i m ys H2 →
  (J.stop i H2∧Q (.ref D) H2)∨(J.go i H2∧∀ x H3,J.yld i H2 x H3→g x (compSt k caps σ) H3 fun σ4 H4=>tc σ4 H4 fun b H5 =>
   if b=true then te σ4 H5 fun y H6=>H6 D=some (.lst ys)∧ys.length < sizeLine∧∃ m',m' < m∧W (i + 1) m' (ys++[y]) (upd H6 D (.lst (ys++[y]))) else ∃ m',m' < m∧W (i + 1) m' ys H5))
 (hRR:∀ D C H' s' m,C≠X.env.locals→(∀ x c,X.env.cells.lookup x=some c→c≠C)→s'.heap.Ns C m→(∀ h',Heap.SameBut C s'.heap h'→Inv X pins σ H' { s' with heap:=h' })→H' C=none→s.heap.objs.size≤C→Q (.ref D) H'→RR (.ref D) C (.ok .next) s') :
 wpAny (model X.prog X.w) X.A (newList []) (fun acc s₃=>wpAny (model X.prog X.w) X.A (newFunctionEnv scope X.env.globals (closOf X.env scope.names []) [] X.env.qual none .none (some X.env)) (fun cenv s₄ =>
  codeAny (model X.prog X.w) X.A (.compStart (.ListComp elt [⟨tg,iter,ifs,0⟩] scope pos) 0 (.ref it) acc { cenv with scope:=relabel scope X.env }) (RR acc cenv.locals) s₄) E s₃) E s:=by
 refine wpAny_newObj_type (nfe_comp ?_)
 generalize hD:s.heap.objs.size=D
 have hsz1:(s.heap.push { cls:=.type "list",dict:=none,data:=.seq ([]:List Value).toArray }).objs.size=D + 1:=by rw [Heap.size_push,hD]
 dsimp only
 rw [hsz1]
 have hfo:∀ b∈fp,∃ o,s.heap.get? b=some o:=fun b hb=>let ⟨o,e,_⟩:=T.obj 0 _ st b hb; ⟨o,e⟩
 have hHD:H D=none:=I.hok.fresh (by rw [hD]; exact Nat.le_refl _)
 have J0:=comp_start (t':=s.toks) I S hf hfo (D:=D) (C:=D + 1) hD.symm rfl rfl
 have hfc:∀ x c,X.env.cells.lookup x=some c→c ∉ fp:=fun x c e hb=>(hf c hb).2.2.2.2.1 x c e rfl
 have fpo:∀ {pins':List (Addr × Obj)} {H':Hp},(∀ b∈fp,H' b=none)→pins'=[]→∀ b∈fp,FpOk (cxComp X N scope (cellsC X scope (D + 1)) (D + 1) s H fp) pins' H' b:=fun {pins' H'} hn hp b hb=>by
  obtain ⟨o,e⟩:=hfo b hb
  have hlt:@LT.lt Nat _ b D:=by rw [←hD]; exact Heap.lt_size e
  subst hp
  refine ⟨hn b hb,?_,fun z=>?_,.inl hb,fun x c e=>(J0.ok.exf b hb).2 x c e,fun p hp=>absurd hp (by simp)⟩
  · show @Ne Nat b (D + 1)
    omega
  · have z':b∈frs X.stack:=z
    rcases List.mem_cons.mp (I.stkSub b z') with w | w
    · exact (hf b hb).2.1 w
    · exact (hf b hb).2.2.1 w
 obtain ⟨W,⟨m0,w0⟩,turn⟩:=q D hHD
 have st1:tn 0 (pushCells ((s.heap.push { cls:=.type "list",data:=.seq #[] }).push { cls:=.type "dict",data:=.dict #[] }) scope.names):=T.keep 0 _ _ st fun b hb o e=>pushCells_keeps _ _ b o (Heap.get?_push_of_some _ (Heap.get?_push_of_some _ e))
 have fr0:∀ b∈fp,(upd H D (.lst [])) b=none:=fun b hb=>by
  obtain ⟨o,e⟩:=hfo b hb
  have hlt:@LT.lt Nat _ b D:=by rw [←hD]; exact Heap.lt_size e
  rw [upd_ne (show @Ne Nat b D by omega)]
  exact (hf b hb).1
 have fin:∀ {H':Hp} {s':Shared} {σ':St} {pins':List (Addr × Obj)},Inv (cxComp X N scope (cellsC X scope (D + 1)) (D + 1) s H fp) pins' σ' H' s'→Q (.ref D) H'→RR (.ref D) (D + 1) (.ok .next) s':=fun {H' s' σ' pins'} J q=>by
  obtain ⟨m,hn,_⟩:=id J.loc
  refine hRR D (D + 1) H' s' m (fun z=>?_) (fun x c e z=>?_) hn (fun h' hs=>?_) J.free (by rw [hD]; exact Nat.le_succ _) q
  · have h1:@LT.lt Nat _ X.env.locals D:=by rw [←hD]; exact I.lt
    have z':@Eq Nat (D + 1) X.env.locals:=z
    omega
  · obtain ⟨v,y⟩:=I.cell x c e
    have h1:@LT.lt Nat _ c D:=by rw [←hD]; exact y.lt
    have z':@Eq Nat c (D + 1):=z
    omega
  · refine I.call' (ch:=fp) J.os (J.base.but hs (by rw [hD]; exact Nat.le_succ _)) (J.hok.but hs J.free) J.bare fun b hb=>?_
    exact ⟨(hf b hb).2.2.2.1,(hf b hb).2.1,(hf b hb).2.2.2.2.1,(hf b hb).2.2.2.2.2⟩
 have loop : codeAny (model X.prog X.w) X.A (.compLoop (.ListComp elt [⟨tg, iter, ifs, 0⟩] scope pos) 0 (.ref it) (.ref D) (compEnvC scope (cellsC X scope (D + 1)) (D + 1) X.env)) (RR (.ref D) (D + 1))
  { s with heap:=pushCells ((s.heap.push { cls:=.type "list",data:=.seq #[] }).push { cls:=.type "dict",data:=.dict #[] }) scope.names }:=by
  refine comp_loop (fun n s'=>∃ i ys H',Inv (cxComp X N scope (cellsC X scope (D + 1)) (D + 1) s H fp) [] (compSt k caps σ) H' s'∧tn i s'.heap∧(∀ b∈fp,H' b=none)∧W i n ys H') ?_ m0 ⟨0,[],_,J0,st1,fr0,w0⟩
  rintro n s3 ⟨i,ys,H3,I3,st3,fr3,w3⟩
  rcases turn i n ys H3 w3 with ⟨stop,qn⟩ | ⟨go,step⟩
  · refine thn (T.done (cxComp X N scope (cellsC X scope (D + 1)) (D + 1) s H fp) rfl rfl rfl hc i [] s3 _ H3 _ I3 (fpo fr3 rfl) st3 stop) fun r s4 ⟨hr,I4⟩=>?_
    subst hr
    exact fin I4 qn
  · refine thn (T.item (cxComp X N scope (cellsC X scope (D + 1)) (D + 1) s H fp) rfl rfl rfl hc i [] s3 _ H3 _ I3 (fpo fr3 rfl) st3 go) fun r s4 ⟨u,hr,h4⟩=>?_
    subst hr
    refine thn h4 fun _ s5 ⟨x,H5,I5,r5,y5,st5,fr5⟩=>?_
    have I5':=I5.pinned (fpo fr5 rfl) (T.obj _ _ st5)
    have again:∀ {σ7:St} {H7:Hp} {s7:Shared} {m':Nat} {zs:List V},Inv (cxComp X N scope (cellsC X scope (D + 1)) (D + 1) s H fp) ([]++pinsAt fp s5.heap) σ7 H7 s7→m' < n→W (i + 1) m' zs H7 →
     ∃ m,m < n∧∃ i ys H',Inv (cxComp X N scope (cellsC X scope (D + 1)) (D + 1) s H fp) [] (compSt k caps σ) H' s7∧tn i s7.heap∧(∀ b∈fp,H' b=none)∧W i m ys H':=fun {σ7 H7 s7 m' zs} I7 hm w7=>by
     refine ⟨m',hm,i + 1,zs,H7,comp_again I S hfc (by rw [hD]; exact Nat.le_succ _) I7.unpinned,T.keep _ _ _ st5 fun b hb o e=>(I7.pin (b,o) (List.mem_append_right _ (List.mem_append_right _ (mem_pinsAt hb e)))).1,fun b hb=>?_,w7⟩
     obtain ⟨o,e,d⟩:=T.obj _ _ st5 b hb
     exact (I7.pin (b,o) (List.mem_append_right _ (List.mem_append_right _ (mem_pinsAt hb e)))).2.1
    refine thn (hg _ _ _ _ _ _ s5 _ H5 x u _ I5' r5 (step x H5 y5)) fun _ s6 ⟨σ6,H6,I6,q6⟩=>?_
    refine thn (ht _ _ _ _ _ _ s6 σ6 H6 _ I6 q6) fun b s7 ⟨H7,I7,q7⟩=>?_
    cases b with
    | false =>
      rw [if_neg Bool.false_ne_true] at q7 ⊢
      obtain ⟨m',hm,w7⟩:=q7
      exact again I7 hm w7
    | true =>
      rw [if_pos rfl] at q7 ⊢
      refine thn (he _ _ _ _ _ _ s7 σ6 H7 _ I7 q7) fun y s8 ⟨yv,H8,I8,r8,hD8,hz8,m',hm,w8⟩=>?_
      refine thn (mt_append (X:=cxComp X N scope (cellsC X scope (D + 1)) (D + 1) s H fp) _ s8 σ6 H8 (.ref D) [yv] (.ref D) [y] (fun _ H9=>W (i + 1) m' (ys++[yv]) H9) I8 rfl (.cons r8 .nil) ⟨D,ys,yv,rfl,rfl,hD8,hz8,w8⟩) fun _ s9 ⟨_,H9,I9,_,w9⟩=>?_
      exact again I9 hm w9
 exact codeAny_compStart_list loop (T.self _ 0 _ _ _ st1 loop)
theorem pe_comp {X:Cx} {elt iter tg:Expr} {ifs:List Expr} {scope:Scope} {pos:Pos} {N:List Str} {k:Nat} {caps:List Nat} {wi:TI} {g:TG} {tc:TT} {te:TE} (hc:X.calm=true) (S:CompScope X.env.scope X.N scope N k caps) (hi:PI X tg iter wi)
 (hg:∀ cs C s H ex,PG (cxComp X N scope cs C s H ex) tg g) (ht:∀ cs C s H ex,PF (cxComp X N scope cs C s H ex) ifs tc) (he:∀ cs C s H ex,PE (cxComp X N scope cs C s H ex) elt te)
 (hs:∀ x,foldedSetIterable iter X.env x=pure x:=by intro _; rfl):PE X (.ListComp elt [⟨tg,iter,ifs,0⟩] scope pos) (tComp k caps wi g tc te):=by
 intro pins s σ H Q I h
 have hcl:closureFor scope X.env=pure (closOf X.env scope.names []):=closureFor_of fun x hx hfr=>I.ok.has x.1 (S.free x hx hfr)
 rw [eval_ListComp]
 refine wpAny_comprehension_free (use:=none) rfl hs hcl S.kind S.loc (thn (hi pins s σ H _ I h) fun v s1 h1=>thn h1 fun itv s2 h2=>?_)
 obtain ⟨it,fp,tn,J,H2,e,I2,T,st2,f2,q⟩:=h2
 subst e
 refine comp_block (Q:=Q) hc S I2 T st2 f2 hg ht he q ?_
 intro D C H' s' m _ _ hn hI _ _ hq
 exact ⟨m,hn,fun h' hs'=>⟨.ref D,H',hI h' hs',rfl,hq⟩⟩
end L2
namespace L2
open PySem PySem.Spec PyProof.Rows
def Callee (P:Program) (w:World) (K:PySem.W.Frag) (mg:Str→Option Value) (base:Heap) (x:Str) (k:Nat) (ps:List Str) (sp:Sp):Prop :=
 ∃ f fd,FnOk P w K mg base CX0 k f fd ps sp∧mg x=some (.ref f)∧PySem.W.keepIn K (.ref f)=true∧Binds K fd ps []
section
variable {X:Cx} {x:Str} {k:Nat} {ps:List Str} {sp:Sp} {e:Expr} {es:List Expr} {t:TA} {p pos:Pos}
theorem pe_fn (C:Callee X.prog X.w X.K X.mg X.base x k ps sp) (ha:PA X (e :: es) t) (hr:Room k X.A:=by exact Room.mono (by assumption) (by decide)) (hg:Gl X x:=by rfl) (hdb:(x == ("__debug__" : Str))=false:=by decide)
 (he:starEach (e :: es) X.env=(false,eval e X.env) :: starEach es X.env:=by rfl) (hpl:(backTo pos (starEach es X.env)).any (·.1)=false:=by rfl):PE X (.Call (.Name x p) (e :: es) [] pos) (tCall sp [] E0 t):=by
 obtain ⟨f,fd,F,hm,hk,hb⟩:=C
 exact pe_call F hr hg hm hk hb .nil pass0 ha hdb he hpl
end
theorem pe_ty {X:Cx} {x:Str} {pos:Pos} (n:String) (hg:Gl X x) (hm:X.mg x=none) (hv:bootBuiltins x=some (.type n)) (hn:x ≠ "__name__" := by decide) (hd:(x == ("__debug__" : Str))=false:=by decide):PE X (.Name x pos) (tC (.ty n)):=pe_bltn (v:=.ty n) hg hm hv rfl hn hd
theorem seq_cut {t u:TS} {D:Ends} {σ:L2.St} {H:Hp} (P:L2.St→Hp→Prop) (hu:∀ σ' H',P σ' H'→u D σ' H') (ht:∀ N:L2.St→Hp→Prop,(∀ σ' H',P σ' H'→N σ' H')→t { D with nx:=N } σ H):tSeq t u D σ H:=ht (u D) hu
theorem Same.upd {H H':Hp} {D:Addr} {o:HO} (h:Same H H') (hn:H D=none):Same H (upd H' D o):=fun b u e=>by
 rw [upd_ne (ne_of_none e hn)]; exact h b u e
theorem comp_range {k:Nat} {caps:List Nat} {g:TG} {te:TE} {σ:St} {H1:Hp} {Q:Addr→Hp→Prop} {lo:Int} {n:Nat} (f:Nat→V) (hn:n≤sizeLine)
 (hs:∀ (i:Nat) (H2:Hp) (D:Addr) (R:VK),i < n→Same H1 H2→H1 D=none→(∀ H3,Same H2 H3→R (f i) H3)→g (.int (lo + i)) (compSt k caps σ) H2 fun σ4 H4=>te σ4 H4 R)
 (hd:∀ (H2:Hp) (D:Addr),Same H1 H2→H1 D=none→H2 D=some (.lst ((List.range n).map f))→Q D H2) :
 ∀ D,H1 D=none→∃ W:Nat→Nat→List V→Hp→Prop,(∃ m,W 0 m [] (upd H1 D (.lst [])))∧∀ i m ys H2,W i m ys H2 →
  ((Itr lo n).stop i H2∧Q D H2)∨((Itr lo n).go i H2∧∀ x H3,(Itr lo n).yld i H2 x H3→g x (compSt k caps σ) H3 fun σ4 H4=>tYes σ4 H4 fun b H5 =>
   if b=true then te σ4 H5 fun y H6=>H6 D=some (.lst ys)∧ys.length < sizeLine∧∃ m',m' < m∧W (i + 1) m' (ys++[y]) (upd H6 D (.lst (ys++[y]))) else ∃ m',m' < m∧W (i + 1) m' ys H5):=by
 intro D hD
 refine ⟨fun i m ys H2=>m=n - i∧i≤n∧ys=(List.range i).map f∧Same H1 H2∧H2 D=some (.lst ys),⟨n,rfl,Nat.zero_le _,rfl,(Same.refl _).upd hD,upd_same⟩,?_⟩
 rintro i m ys H2 ⟨rfl,hi,rfl,s2,e2⟩
 by_cases hlt:i < n
 · refine .inr ⟨hlt,fun x H3 y=>?_⟩
   obtain ⟨rfl,rfl⟩:=y
   refine hs i H3 D _ hlt s2 hD fun H4 s4=>?_
   refine ⟨s4 _ _ e2,by rw [List.length_map,List.length_range]; omega,n - (i + 1),by omega,rfl,hlt,?_,(s2.trans s4).upd hD,upd_same⟩
   rw [List.range_succ,List.map_append]
   rfl
 · have e:i=n:=by omega
   subst e
   exact .inl ⟨Nat.le_refl _,hd H2 D s2 hD e2⟩
theorem comp_list {K:PySem.W.Frag} {a:Addr} {xs:List V} {k:Nat} {caps:List Nat} {g:TG} {te:TE} {σ:St} {H1:Hp} {Q:Addr→Hp→Prop} (f:V→V) (hn:xs.length≤sizeLine) (hq:SqL K H1 a xs)
 (hs:∀ (i:Nat) (x:V) (H2:Hp) (D:Addr) (R:VK),xs[i]?=some x→Same H1 H2→H1 D=none→(∀ H3,Same H2 H3→R (f x) H3)→g x (compSt k caps σ) H2 fun σ4 H4=>te σ4 H4 R)
 (hd:∀ (H2:Hp) (D:Addr),Same H1 H2→H1 D=none→H2 D=some (.lst (xs.map f))→Q D H2) :
 ∀ D,H1 D=none→∃ W:Nat→Nat→List V→Hp→Prop,(∃ m,W 0 m [] (upd H1 D (.lst [])))∧∀ i m ys H2,W i m ys H2 →
  ((Itl K a).stop i H2∧Q D H2)∨((Itl K a).go i H2∧∀ x H3,(Itl K a).yld i H2 x H3→g x (compSt k caps σ) H3 fun σ4 H4=>tYes σ4 H4 fun b H5 =>
   if b=true then te σ4 H5 fun y H6=>H6 D=some (.lst ys)∧ys.length < sizeLine∧∃ m',m' < m∧W (i + 1) m' (ys++[y]) (upd H6 D (.lst (ys++[y]))) else ∃ m',m' < m∧W (i + 1) m' ys H5):=by
 intro D hD
 refine ⟨fun i m ys H2=>m=xs.length - i∧i≤xs.length∧ys=(xs.take i).map f∧Same H1 H2∧H2 D=some (.lst ys),⟨xs.length,rfl,Nat.zero_le _,rfl,(Same.refl _).upd hD,upd_same⟩,?_⟩
 rintro i m ys H2 ⟨rfl,hi,rfl,s2,e2⟩
 have q2:=s2.seq hq
 by_cases hlt:i < xs.length
 · refine .inr ⟨⟨xs,xs[i],q2,by simp [hlt]⟩,fun x H3 y=>?_⟩
   obtain ⟨rfl,y⟩:=y
   have hx:=y xs q2
   refine hs i x H3 D _ hx s2 hD fun H4 s4=>?_
   refine ⟨s4 _ _ e2,by rw [List.length_map,List.length_take]; omega,xs.length - (i + 1),by omega,rfl,hlt,?_,(s2.trans s4).upd hD,upd_same⟩
   rw [List.take_succ,hx,List.map_append]
   rfl
 · have e:i=xs.length:=by omega
   subst e
   rw [List.take_length] at e2
   exact .inl ⟨⟨xs,q2,Nat.le_refl _⟩,hd H2 D s2 hD e2⟩
theorem comp_str {x:Str} {k:Nat} {caps:List Nat} {g:TG} {te:TE} {σ:St} {H1:Hp} {Q:Addr→Hp→Prop} (f:Nat→V) (hn:x.cps.size≤sizeLine)
 (hs:∀ (i c:Nat) (H2:Hp) (D:Addr) (R:VK),x.cps[i]?=some c→Same H1 H2→H1 D=none→(∀ H3,Same H2 H3→R (f c) H3)→g (.str ⟨#[c]⟩) (compSt k caps σ) H2 fun σ4 H4=>te σ4 H4 R)
 (hd:∀ (H2:Hp) (D:Addr),Same H1 H2→H1 D=none→H2 D=some (.lst (x.cps.toList.map f))→Q D H2) :
 ∀ D,H1 D=none→∃ W:Nat→Nat→List V→Hp→Prop,(∃ m,W 0 m [] (upd H1 D (.lst [])))∧∀ i m ys H2,W i m ys H2 →
  ((Its x).stop i H2∧Q D H2)∨((Its x).go i H2∧∀ y H3,(Its x).yld i H2 y H3→g y (compSt k caps σ) H3 fun σ4 H4=>tYes σ4 H4 fun b H5 =>
   if b=true then te σ4 H5 fun y H6=>H6 D=some (.lst ys)∧ys.length < sizeLine∧∃ m',m' < m∧W (i + 1) m' (ys++[y]) (upd H6 D (.lst (ys++[y]))) else ∃ m',m' < m∧W (i + 1) m' ys H5):=by
 intro D hD
 refine ⟨fun i m ys H2=>m=x.cps.size - i∧i≤x.cps.size∧ys=(x.cps.toList.take i).map f∧Same H1 H2∧H2 D=some (.lst ys),⟨x.cps.size,rfl,Nat.zero_le _,rfl,(Same.refl _).upd hD,upd_same⟩,?_⟩
 rintro i m ys H2 ⟨rfl,hi,rfl,s2,e2⟩
 by_cases hlt:i < x.cps.size
 · refine .inr ⟨hlt,fun y H3 hy=>?_⟩
   obtain ⟨rfl,c,hc,rfl⟩:=hy
   have hc':x.cps.toList[i]?=some c:=by simpa using hc
   refine hs i c H3 D _ hc s2 hD fun H4 s4=>?_
   refine ⟨s4 _ _ e2,by rw [List.length_map,List.length_take]; omega,x.cps.size - (i + 1),by omega,rfl,hlt,?_,(s2.trans s4).upd hD,upd_same⟩
   rw [List.take_succ,hc',List.map_append]
   rfl
 · have e:i=x.cps.size:=by omega
   rw [e,List.take_of_length_le (by simp)] at e2
   exact .inl ⟨e,hd H2 D s2 hD e2⟩
end L2
namespace L2
open PySem PySem.Spec PyProof.Rows
abbrev tx (cs:List Nat):Str:=⟨cs.toArray⟩
theorem tx_list (cs:List Nat):(tx cs).cps.toList=cs:=by simp [tx]
theorem tx_len (cs:List Nat):(tx cs).length=cs.length:=by simp [tx,Str.length]
theorem tx_inj {a b:List Nat} (h:tx a=tx b):a=b:=by
 have:=congrArg (fun s=>s.cps.toList) h
 simpa [tx] using this
theorem app_lst (a y:Str):(a++y).cps.toList=a.cps.toList++y.cps.toList:=by rw [PySem.Str.cps_append,Array.toList_append]
theorem join_tx (ys:List Str):(Txt.join (Str.ofString "") ys).cps.toList=(ys.map fun y=>y.cps.toList).flatten:=by
 show (Builtin.Str.glued (Str.ofString "") ys).cps.toList=_
 rw [StrLaws.glued_eq_join]
 induction ys with
 | nil=>rfl
 | cons a r ih =>
   cases r with
   | nil=>simp [Str.join]
   | cons b r =>
     rw [join_cons_cons,app_lst,app_lst,ih]
     have z:(Str.ofString "").cps.toList=[]:=by decide +kernel
     rw [z]
     simp
theorem join_sing (cs:List Nat):Txt.join (Str.ofString "") (cs.map fun c=>(⟨#[c]⟩:Str))=tx cs:=by
 refine ext_toList ?_
 rw [join_tx,tx_list,List.map_map]
 induction cs with
 | nil=>rfl
 | cons c r ih =>
   rw [List.map_cons,List.flatten_cons,ih]
   rfl
theorem joinOk_small {ys:List Str} (h:∀ y∈ys,y.length≤8) (hn:ys.length≤100):JoinOk (Str.ofString "") ys=true:=by
 refine joinOk_of_weight ?_ (by decide +kernel)
 have:(ys.map (·.length)).sum≤8 * ys.length:=by
  clear hn
  induction ys with
  | nil=>simp
  | cons a r ih =>
    have h1:=h a (by simp)
    have h2:=ih fun y hy=>h y (by simp [hy])
    simp only [List.map_cons,List.sum_cons,List.length_cons]
    omega
 omega
theorem lt_sing {c d:Nat}:(decide (([c]:List Nat) < [d]))=decide (c < d):=by
 by_cases h:c < d
 · rw [decide_eq_true h,decide_eq_true]
   exact List.Lex.rel h
 · rw [decide_eq_false h,decide_eq_false]
   intro q
   cases q with
   | rel q=>exact h q
   | cons q=>cases q
def cellAt (ns:List Int) (k:Int):Int:=(ns[k.toNat]?).getD 0
theorem seq_setC {v:V} {i:Nat} {u:TS} {D:Ends} {σ:St} {H:Hp} (h:u D (σ.set i (some v)) H):tSeq (tAsg (tC v) (gName i)) u D σ H:=h
theorem ixN_in {n:Nat} {k:Int} (h0:0≤k) (h1:k < n):ixN n k=some k.toNat:=by
 unfold ixN
 rw [if_pos h0,if_pos h1]
end L2
namespace L2
open PySem PySem.Spec PyProof.Rows
theorem cutV_take (xs:List V) (n:Nat):cutV xs none (some (n:Int))=xs.take n:=by
 unfold cutV
 rw [HT.sIx_none,HT.sIx_nat,List.drop_zero,Nat.sub_zero]
 by_cases h:n≤xs.length
 · rw [Nat.min_eq_left h]
 · rw [Nat.min_eq_right (by omega),List.take_of_length_le (Nat.le_refl _),List.take_of_length_le (by omega)]
theorem cutV_mid (xs:List V) (a b:Nat) (hab:a≤b):cutV xs (some (a:Int)) (some (b:Int))=(xs.drop a).take (b - a):=by
 unfold cutV
 rw [HT.sIx_nat,HT.sIx_nat]
 by_cases ha:a≤xs.length
 · rw [Nat.min_eq_left ha]
   by_cases hb:b≤xs.length
   · rw [Nat.min_eq_left hb]
   · rw [Nat.min_eq_right (show xs.length≤b by omega),List.take_of_length_le (by rw [List.length_drop]; exact Nat.le_refl _),List.take_of_length_le (by rw [List.length_drop]; omega)]
 · rw [Nat.min_eq_right (show xs.length≤a by omega),List.drop_of_length_le (Nat.le_refl _),List.drop_of_length_le (show xs.length≤a by omega)]
   simp
theorem same_new {H:Hp} {p:Addr} {o:HO} (h:H p=none):Same H (upd H p o):=(Same.refl H).upd h
end L2
namespace L2
open PySem PySem.Spec PyProof.Rows
theorem g_in {i:Nat} {v:V} {σ:L2.St} {H:Hp} {N:L2.St→Hp→Prop} (h:N (σ.set i (some v)) H):gName i v σ H N:=h
section
variable {X:Cx}
theorem mr_append:MtR X "list.append" rAppend:=mt_append
theorem mr_extend:MtR X "list.extend" rExtend:=mt_extend
end
abbrev xMod:R2:=rI (fun _ j=>0 < j) fun i j=>.int (i % j)
abbrev xDiv:R2:=rI CDiv fun i j=>.int (i / j)
abbrev xMul:R2:=rI CMul fun i j=>.int (i * j)
abbrev xAdd:R2:=rI0 fun i j=>.int (i + j)
end L2
namespace L2
open PySem PySem.Spec PyProof.Rows
section
variable {X:Cx}
end
end L2
namespace L2
open PySem PySem.Spec PyProof.Rows
section
variable {prog:Program} {w:World} {A:Around} {R:Result→Shared→Prop} {It:Addr} {fp wr:List Addr} {G:Array GenState→Array GenState→Prop} {n:Nat} {Pn:Nat→Value→Prop} {Sn:Nat→Shared→Prop}
end
section
variable {prog:Program} {w:World} {A:Around} {E:Value→Shared→Prop} {s:Shared}
end
end L2
namespace L2
open PySem PySem.Spec PyProof.Rows
section
variable {X:Cx}
end
end L2
namespace L2
open PySem PySem.Spec PyProof.Rows PySem.SeqAt
inductive Dt where
 | non | bl (b:Bool) | int (i:Int) | str (x:Str) | tup (l:List Dt) | lst (l:List Dt)
mutual
inductive IsDt (K:PySem.W.Frag) (H:Hp):V→Dt→Prop where
 | non:IsDt K H .non .non
 | bl (b:Bool):IsDt K H (.bl b) (.bl b)
 | int (i:Int):IsDt K H (.int i) (.int i)
 | str (x:Str):IsDt K H (.str x) (.str x)
 | tup {a:Addr} {vs:List V} {ds:List Dt} (h:SqT K H a vs) (t:IsDts K H vs ds):IsDt K H (.ref a) (.tup ds)
 | lst {a:Addr} {vs:List V} {ds:List Dt} (h:SqL K H a vs) (t:IsDts K H vs ds):IsDt K H (.ref a) (.lst ds)
inductive IsDts (K:PySem.W.Frag) (H:Hp):List V→List Dt→Prop where
 | nil:IsDts K H [] []
 | cons {v:V} {d:Dt} {vs:List V} {ds:List Dt} (h:IsDt K H v d) (t:IsDts K H vs ds):IsDts K H (v :: vs) (d :: ds)
end
theorem IsDts.length {K:PySem.W.Frag} {H:Hp}:∀ {vs:List V} {ds:List Dt},IsDts K H vs ds→vs.length=ds.length
 | _,_,.nil=>rfl
 | _,_,.cons _ t=>congrArg (· + 1) t.length
theorem IsDts.get {K:PySem.W.Frag} {H:Hp}:∀ {vs:List V} {ds:List Dt} {i:Nat} {v:V},IsDts K H vs ds→vs[i]?=some v→∃ d,ds[i]?=some d∧IsDt K H v d
 | _,_,_,_,.nil,e=>by simp at e
 | _,_,0,_,.cons h _,e=>by simp at e; subst e; exact ⟨_,rfl,h⟩
 | _,_,i + 1,v,.cons _ t,e=>by
   obtain ⟨d,h1,h2⟩:=IsDts.get (i:=i) (v:=v) t (by simpa using e)
   exact ⟨d,by simpa using h1,h2⟩
theorem IsDts.strs {K:PySem.W.Frag} {H:Hp}:∀ (xs:List Str),IsDts K H (xs.map V.str) (xs.map Dt.str)
 | []=>.nil
 | x :: xs=>.cons (.str x) (IsDts.strs xs)
section
variable {X:Cx} {pins:List (Addr × Obj)} {σ:St} {H:Hp} {s:Shared}
theorem Inv.not_both (I:Inv X pins σ H s) {a:Addr} {xs ys:List V} (h:SqL X.K H a xs) (h':SqT X.K H a ys):False:=by
 obtain ⟨_,_,⟨o,n,e,c,_⟩,_⟩:=I.list h
 obtain ⟨_,_,⟨o',e',c',_⟩,_⟩:=I.tuple h'
 rw [e] at e'; cases e'
 rw [c] at c'
 exact absurd c' (by decide)
mutual
theorem IsDt.inj (I:Inv X pins σ H s) {v:V} {d e:Dt} (h:IsDt X.K H v d) (h':IsDt X.K H v e):d=e:=by
 cases h with
 | non=>cases h'; rfl
 | bl _=>cases h'; rfl
 | int _=>cases h'; rfl
 | str _=>cases h'; rfl
 | tup h t=>cases h' with
   | tup h' t' =>
     have e:=I.tuple_inj h h'
     subst e
     rw [IsDts.inj I t t']
   | lst h' _=>exact (I.not_both h' h).elim
 | lst h t=>cases h' with
   | lst h' t' =>
     have e:=I.list_inj h h'
     subst e
     rw [IsDts.inj I t t']
   | tup h' _=>exact (I.not_both h h').elim
theorem IsDts.inj (I:Inv X pins σ H s) {vs:List V} {ds es:List Dt} (h:IsDts X.K H vs ds) (h':IsDts X.K H vs es):ds=es:=by
 cases h with
 | nil=>cases h'; rfl
 | cons h t=>cases h' with
   | cons h' t'=>rw [IsDt.inj I h h',IsDts.inj I t t']
end
end
def Dt.kd:Dt→Nat
 | .non=>0 | .bl _=>1 | .int _=>2 | .str _=>3 | .tup _=>4 | .lst _=>5
def Apart (a b:Nat):Bool:=a != b && !(a == 1 && b == 2) && !(a == 2 && b == 1)
mutual
inductive Cmp:Nat→Dt→Dt→Prop where
 | non {n:Nat}:Cmp n .non .non
 | bl {n:Nat} (a b:Bool):Cmp n (.bl a) (.bl b)
 | int {n:Nat} (a b:Int):Cmp n (.int a) (.int b)
 | str {n:Nat} (a b:Str):Cmp n (.str a) (.str b)
 | tup {n:Nat} {ds es:List Dt} (t:Cmps n ds es):Cmp (n + 1) (.tup ds) (.tup es)
 | lst {n:Nat} {ds es:List Dt} (t:Cmps n ds es):Cmp (n + 1) (.lst ds) (.lst es)
 | apart {n:Nat} {d e:Dt} (h:Apart d.kd e.kd=true):Cmp (n + 1) d e
inductive Cmps:Nat→List Dt→List Dt→Prop where
 | nil {n:Nat} (es:List Dt):Cmps n [] es
 | nil' {n:Nat} (ds:List Dt):Cmps n ds []
 | cons {n:Nat} {d e:Dt} {ds es:List Dt} (h:Cmp n d e) (t:Cmps n ds es):Cmps n (d :: ds) (e :: es)
end
open Classical in
noncomputable def dec (p:Prop):Bool:=decide p
theorem dec_true {p:Prop} (h:p):dec p=true:=@decide_eq_true p (Classical.propDecidable p) h
theorem dec_false {p:Prop} (h:¬ p):dec p=false:=@decide_eq_false p (Classical.propDecidable p) h
theorem dec_iff {p:Prop}:dec p=true↔p:=⟨fun h=>@of_decide_eq_true p (Classical.propDecidable p) h,dec_true⟩
theorem dec_congr {p q:Prop} (h:p↔q):dec p=dec q:=by rw [propext h]
theorem dec_beq {α:Type} [BEq α] [LawfulBEq α] {a b:α} {p:Prop} (h:p↔a=b):(a == b)=dec p:=by
 by_cases e:a=b
 · subst e; rw [dec_true (h.mpr rfl)]; exact beq_self_eq_true _
 · rw [dec_false fun q=>e (h.mp q)]; exact beq_false_of_ne e
theorem list_ext_iff {ds es:List Dt} (hl:ds.length=es.length) (h:∀ i,i < ds.length→ds[i]?=es[i]?):ds=es:=List.ext_getElem? fun i=>by
 by_cases hi:i < ds.length
 · exact h i hi
 · rw [List.getElem?_eq_none (by omega),List.getElem?_eq_none (by omega)]
section
variable {X:Cx} {pins:List (Addr × Obj)} {σ:St} {H:Hp} {s:Shared}
theorem in1_units (A:Around):A.in1.units=A.units + 1:=rfl
theorem eq_items (I:Inv X pins σ H s) {A:Around} {vs us:List V} {ds es:List Dt} {ivs ius:List Value} (rv:Vals vs ivs) (ru:Vals us ius) (tv:IsDts X.K H vs ds) (tu:IsDts X.K H us es)
 (hc:∀ (i:Nat) (d e:Dt) (v u:V) (x y:Value),ds[i]?=some d→es[i]?=some e→RelV v x→RelV u y→IsDt X.K H v d→IsDt X.K H u e→EqAt A s x y (dec (d=e))) :
 ∀ j (h1:j < ivs.toArray.size) (h2:j < ius.toArray.size),EqAt A s ivs.toArray[j] ius.toArray[j] (dec (ds[j]?=es[j]?)):=by
 intro j h1 h2
 have l1:=rv.length
 have l2:=ru.length
 have h1':j < ivs.length:=by simpa using h1
 have h2':j < ius.length:=by simpa using h2
 obtain ⟨x,hx,rx⟩:=rv.get (i:=j) (x:=vs[j]'(by omega)) (List.getElem?_eq_getElem (by omega))
 obtain ⟨y,hy,ry⟩:=ru.get (i:=j) (x:=us[j]'(by omega)) (List.getElem?_eq_getElem (by omega))
 obtain ⟨d,hd,td⟩:=tv.get (i:=j) (v:=vs[j]'(by omega)) (List.getElem?_eq_getElem (by omega))
 obtain ⟨e,he,te⟩:=tu.get (i:=j) (v:=us[j]'(by omega)) (List.getElem?_eq_getElem (by omega))
 have ex:ivs.toArray[j]=x:=by
  rw [List.getElem?_eq_getElem h1'] at hx
  simpa using hx
 have ey:ius.toArray[j]=y:=by
  rw [List.getElem?_eq_getElem h2'] at hy
  simpa using hy
 rw [ex,ey,hd,he]
 have:=hc j d e _ _ x y hd he rx ry td te
 rw [dec_congr (p:=some d=some e) (q:=d=e) (by simp)]
 exact this
theorem range_dec {ds es:List Dt} {n:Nat} (hn:n=ds.length) (hl:ds.length=es.length):(List.range n).all (fun j=>dec (ds[j]?=es[j]?))=dec (ds=es):=by
 subst hn
 by_cases h:ds=es
 · subst h
   rw [dec_true rfl,List.all_eq_true]
   exact fun i _=>dec_true rfl
 · rw [dec_false h,Bool.eq_false_iff]
   intro q
   rw [List.all_eq_true] at q
   exact h (list_ext_iff hl fun i hi=>dec_iff.mp (q i (List.mem_range.mpr hi)))
theorem apart_all (I:Inv X pins σ H s) {d e:Dt} {v u:V} {x y:Value} {A:Around} (h:Apart d.kd e.kd=true) (td:IsDt X.K H v d) (te:IsDt X.K H u e) (rx:RelV v x) (ry:RelV u y) (hu:A.units < cLine):EqAt A s x y false∧RcAt A s x y false∧RcNeAt A s x y true:=by
 cases td with
 | non =>
   cases rx
   cases te with
   | non=>exact absurd h (by simp [Apart,Dt.kd])
   | bl b =>
     cases ry
     exact ⟨EqAt.none_bool _,RcAt.none_bool _,RcNeAt.none_bool _⟩
   | int b =>
     obtain ⟨t2,rfl⟩:=ry
     exact ⟨EqAt.none_int _ _,RcAt.none_int _ _,RcNeAt.none_int _ _⟩
   | str b =>
     obtain ⟨t2,rfl⟩:=ry
     exact ⟨EqAt.none_str _ _,RcAt.none_str _ _,RcNeAt.none_str _ _⟩
   | tup h2 t2 =>
     cases ry
     obtain ⟨_,_,p2,_⟩:=I.tuple h2
     exact ⟨EqAt.none_tuple  p2 hu,RcAt.none_tuple  p2 hu,RcNeAt.none_tuple  p2 hu⟩
   | lst h2 t2 =>
     cases ry
     obtain ⟨_,_,p2,_⟩:=I.list h2
     have p2:=p2.isList
     exact ⟨EqAt.none_list  p2 hu,RcAt.none_list  p2 hu,RcNeAt.none_list  p2 hu⟩
 | bl a =>
   cases rx
   cases te with
   | non =>
     cases ry
     exact ⟨EqAt.bool_none _,RcAt.bool_none _,RcNeAt.bool_none _⟩
   | bl b=>exact absurd h (by simp [Apart,Dt.kd])
   | int b=>exact absurd h (by simp [Apart,Dt.kd])
   | str b =>
     obtain ⟨t2,rfl⟩:=ry
     exact ⟨EqAt.bool_str _ _ _,RcAt.bool_str _ _ _,RcNeAt.bool_str _ _ _⟩
   | tup h2 t2 =>
     cases ry
     obtain ⟨_,_,p2,_⟩:=I.tuple h2
     exact ⟨EqAt.bool_tuple _ p2 hu,RcAt.bool_tuple _ p2 hu,RcNeAt.bool_tuple _ p2 hu⟩
   | lst h2 t2 =>
     cases ry
     obtain ⟨_,_,p2,_⟩:=I.list h2
     have p2:=p2.isList
     exact ⟨EqAt.bool_list _ p2 hu,RcAt.bool_list _ p2 hu,RcNeAt.bool_list _ p2 hu⟩
 | int a =>
   obtain ⟨t,rfl⟩:=rx
   cases te with
   | non =>
     cases ry
     exact ⟨EqAt.int_none _ _,RcAt.int_none _ _,RcNeAt.int_none _ _⟩
   | bl b=>exact absurd h (by simp [Apart,Dt.kd])
   | int b=>exact absurd h (by simp [Apart,Dt.kd])
   | str b =>
     obtain ⟨t2,rfl⟩:=ry
     exact ⟨EqAt.int_str _ _ _ _,RcAt.int_str _ _ _ _,RcNeAt.int_str _ _ _ _⟩
   | tup h2 t2 =>
     cases ry
     obtain ⟨_,_,p2,_⟩:=I.tuple h2
     exact ⟨EqAt.int_tuple _ _ p2 hu,RcAt.int_tuple _ _ p2 hu,RcNeAt.int_tuple _ _ p2 hu⟩
   | lst h2 t2 =>
     cases ry
     obtain ⟨_,_,p2,_⟩:=I.list h2
     have p2:=p2.isList
     exact ⟨EqAt.int_list _ _ p2 hu,RcAt.int_list _ _ p2 hu,RcNeAt.int_list _ _ p2 hu⟩
 | str a =>
   obtain ⟨t,rfl⟩:=rx
   cases te with
   | non =>
     cases ry
     exact ⟨EqAt.str_none _ _,RcAt.str_none _ _,RcNeAt.str_none _ _⟩
   | bl b =>
     cases ry
     exact ⟨EqAt.str_bool _ _ _,RcAt.str_bool _ _ _,RcNeAt.str_bool _ _ _⟩
   | int b =>
     obtain ⟨t2,rfl⟩:=ry
     exact ⟨EqAt.str_int _ _ _ _,RcAt.str_int _ _ _ _,RcNeAt.str_int _ _ _ _⟩
   | str b=>exact absurd h (by simp [Apart,Dt.kd])
   | tup h2 t2 =>
     cases ry
     obtain ⟨_,_,p2,_⟩:=I.tuple h2
     exact ⟨EqAt.str_tuple _ _ p2 hu,RcAt.str_tuple _ _ p2 hu,RcNeAt.str_tuple _ _ p2 hu⟩
   | lst h2 t2 =>
     cases ry
     obtain ⟨_,_,p2,_⟩:=I.list h2
     have p2:=p2.isList
     exact ⟨EqAt.str_list _ _ p2 hu,RcAt.str_list _ _ p2 hu,RcNeAt.str_list _ _ p2 hu⟩
 | tup h1 t1 =>
   cases rx
   obtain ⟨_,_,p,_⟩:=I.tuple h1
   cases te with
   | non =>
     cases ry
     exact ⟨EqAt.tuple_none  p hu,RcAt.tuple_none  p hu,RcNeAt.tuple_none  p hu⟩
   | bl b =>
     cases ry
     exact ⟨EqAt.tuple_bool _ p hu,RcAt.tuple_bool _ p hu,RcNeAt.tuple_bool _ p hu⟩
   | int b =>
     obtain ⟨t2,rfl⟩:=ry
     exact ⟨EqAt.tuple_int _ _ p hu,RcAt.tuple_int _ _ p hu,RcNeAt.tuple_int _ _ p hu⟩
   | str b =>
     obtain ⟨t2,rfl⟩:=ry
     exact ⟨EqAt.tuple_str _ _ p hu,RcAt.tuple_str _ _ p hu,RcNeAt.tuple_str _ _ p hu⟩
   | tup h2 t2=>exact absurd h (by simp [Apart,Dt.kd])
   | lst h2 t2 =>
     cases ry
     obtain ⟨_,_,p2,_⟩:=I.list h2
     have p2:=p2.isList
     exact ⟨EqAt.tuple_list p p2 hu,RcAt.tuple_list p p2 hu,RcNeAt.tuple_list p p2 hu⟩
 | lst h1 t1 =>
   cases rx
   obtain ⟨_,_,p,_⟩:=I.list h1
   have p:=p.isList
   cases te with
   | non =>
     cases ry
     exact ⟨EqAt.list_none  p hu,RcAt.list_none  p hu,RcNeAt.list_none  p hu⟩
   | bl b =>
     cases ry
     exact ⟨EqAt.list_bool _ p hu,RcAt.list_bool _ p hu,RcNeAt.list_bool _ p hu⟩
   | int b =>
     obtain ⟨t2,rfl⟩:=ry
     exact ⟨EqAt.list_int _ _ p hu,RcAt.list_int _ _ p hu,RcNeAt.list_int _ _ p hu⟩
   | str b =>
     obtain ⟨t2,rfl⟩:=ry
     exact ⟨EqAt.list_str _ _ p hu,RcAt.list_str _ _ p hu,RcNeAt.list_str _ _ p hu⟩
   | tup h2 t2 =>
     cases ry
     obtain ⟨_,_,p2,_⟩:=I.tuple h2
     exact ⟨EqAt.list_tuple p p2 hu,RcAt.list_tuple p p2 hu,RcNeAt.list_tuple p p2 hu⟩
   | lst h2 t2=>exact absurd h (by simp [Apart,Dt.kd])
theorem eq_of_rc (I:Inv X pins σ H s) {d e:Dt} {v u:V} {x y:Value} {A:Around} (td:IsDt X.K H v d) (te:IsDt X.K H u e) (rx:RelV v x) (ry:RelV u y) (h:RcAt A s x y (dec (d=e))):EqAt A s x y (dec (d=e)):=by
 by_cases hxy:x=y
 · subst hxy
   have e1:=rx.inj ry
   subst e1
   rw [dec_true (IsDt.inj I td te)]
   exact EqAt.same _
 · intro prog w E Q hq
   unfold eqBool
   refine wpAny_holding ?_
   refine wpAny_ite_split (fun hab=>absurd (eq_of_beq hab) hxy) (fun _=>?_)
   cases td with
   | non=>cases rx; exact wpAny_bind (h prog w E _ (wpAny_truthy_bool hq))
   | bl a=>cases rx; exact wpAny_bind (h prog w E _ (wpAny_truthy_bool hq))
   | int a=>obtain ⟨t,rfl⟩:=rx; exact wpAny_bind (h prog w E _ (wpAny_truthy_bool hq))
   | str a=>obtain ⟨t,rfl⟩:=rx; exact wpAny_bind (h prog w E _ (wpAny_truthy_bool hq))
   | tup _ _=>cases rx; exact wpAny_bind (h prog w E _ (wpAny_truthy_bool hq))
   | lst _ _=>cases rx; exact wpAny_bind (h prog w E _ (wpAny_truthy_bool hq))
theorem kd_ne {d e:Dt} (h:Apart d.kd e.kd=true):¬ d=e:=fun z=>by
 subst z
 simp [Apart] at h
mutual
theorem rcD (I:Inv X pins σ H s) {n:Nat} {d e:Dt} {v u:V} {x y:Value} {A:Around} (c:Cmp n d e) (td:IsDt X.K H v d) (te:IsDt X.K H u e) (rx:RelV v x) (ry:RelV u y) (hu:A.units + n < cLine):RcAt A s x y (dec (d=e))∧RcNeAt A s x y (!dec (d=e)):=by
 cases c with
 | non =>
   cases td; cases te
   cases rx; cases ry
   rw [dec_true rfl]
   exact ⟨RcAt.none_none,RcNeAt.none_none⟩
 | bl a b =>
   cases td; cases te
   cases rx; cases ry
   rw [←dec_beq (a:=a) (b:=b) (by simp)]
   exact ⟨RcAt.bool_bool a b,RcNeAt.bool_bool a b⟩
 | int a b =>
   cases td; cases te
   obtain ⟨t,rfl⟩:=rx
   obtain ⟨t',rfl⟩:=ry
   rw [←dec_beq (a:=a) (b:=b) (by simp)]
   exact ⟨RcAt.int_int a t b t',RcNeAt.int_int a t b t'⟩
 | str a b =>
   cases td; cases te
   obtain ⟨t,rfl⟩:=rx
   obtain ⟨t',rfl⟩:=ry
   rw [←dec_beq (a:=a) (b:=b) (by simp)]
   exact ⟨RcAt.str_str a t b t',RcNeAt.str_str a t b t'⟩
 | @tup n ds es c =>
   cases td; cases te
   rename_i a vs h t b us h' t'
   cases rx; cases ry
   obtain ⟨its,r,p,_⟩:=I.tuple h
   obtain ⟨its',r',p',_⟩:=I.tuple h'
   have l1:=r.length
   have l2:=r'.length
   have l3:=t.length
   have l4:=t'.length
   have he:=eq_items (A:=A.in1) I r r' t t' (eqDs I c (by rw [in1_units]; omega))
   have e:dec (Dt.tup ds=Dt.tup es)=((List.range (min its.toArray.size its'.toArray.size)).all (fun j=>dec (ds[j]?=es[j]?)) && its.toArray.size == its'.toArray.size):=by
    rw [dec_congr (p:=Dt.tup ds=Dt.tup es) (q:=ds=es) (by simp)]
    simp only [List.size_toArray]
    by_cases hl:ds.length=es.length
    · rw [show (its.length == its'.length)=true from beq_iff_eq.mpr (by omega),Bool.and_true,range_dec (by omega) hl]
    · rw [show (its.length == its'.length)=false from beq_false_of_ne (by omega),Bool.and_false,dec_false fun z=>hl (by rw [z])]
   rw [e]
   exact ⟨RcAt.tuples (A:=A) p p' (by omega) he,RcNeAt.tuples (A:=A) p p' (by omega) he⟩
 | @lst n ds es c =>
   cases td; cases te
   rename_i a vs h t b us h' t'
   cases rx; cases ry
   obtain ⟨its,r,p,_⟩:=I.list h
   obtain ⟨its',r',p',_⟩:=I.list h'
   have l1:=r.length
   have l2:=r'.length
   have l3:=t.length
   have l4:=t'.length
   by_cases hl:ds.length=es.length
   · have he:=eq_items (A:=A.in1) I r r' t t' (eqDs I c (by rw [in1_units]; omega))
     rw [dec_congr (p:=Dt.lst ds=Dt.lst es) (q:=ds=es) (by simp),←range_dec (n:=its.toArray.size) (by simp only [List.size_toArray]; omega) hl]
     exact ⟨RcAt.lists (A:=A) p.isList p'.isList (by simp only [List.size_toArray]; omega) (by omega) he,RcNeAt.lists (A:=A) p.isList p'.isList (by simp only [List.size_toArray]; omega) (by omega) he⟩
   · rw [dec_false (show ¬ Dt.lst ds=Dt.lst es from fun z=>hl (by cases z; rfl))]
     have hz:(its.toArray.size != its'.toArray.size)=true:=by simp only [List.size_toArray]; rw [bne_iff_ne]; omega
     exact ⟨RcAt.lists_lengths p.isList p'.isList hz (by omega),RcNeAt.lists_lengths p.isList p'.isList hz (by omega)⟩
 | apart h =>
   obtain ⟨_,h1,h2⟩:=apart_all (A:=A) I h td te rx ry (by omega)
   rw [dec_false (kd_ne h)]
   exact ⟨h1,h2⟩
theorem eqDs (I:Inv X pins σ H s) {n:Nat} {ds es:List Dt} {A:Around} (c:Cmps n ds es) (hu:A.units + n < cLine)
 (i:Nat) (d e:Dt) (v u:V) (x y:Value) (h:ds[i]?=some d) (h':es[i]?=some e) (rx:RelV v x) (ry:RelV u y) (td:IsDt X.K H v d) (te:IsDt X.K H u e):EqAt A s x y (dec (d=e)):=by
 cases c with
 | nil=>simp at h
 | nil'=>simp at h'
 | cons c t=>cases i with
   | zero =>
     simp at h h'; subst h; subst h'
     have hrc:=rcD (A:=A) I c td te rx ry hu
     exact eq_of_rc I td te rx ry hrc.1
   | succ i=>exact eqDs I t hu i d e v u x y (by simpa using h) (by simpa using h') rx ry td te
end
end
section
variable {X:Cx}
def rEqD (K:PySem.W.Frag):R2:=fun x y H Q=>∃ n d e,Cmp n d e∧n≤60∧IsDt K H x d∧IsDt K H y e∧Q (.bl (dec (d=e))) H
def rNeD (K:PySem.W.Frag):R2:=fun x y H Q=>∃ n d e,Cmp n d e∧n≤60∧IsDt K H x d∧IsDt K H y e∧Q (.bl (!dec (d=e))) H
theorem op_eqD (hu:X.A.units + 64 < cLine):OpR X (compareOp .Eq) (rEqD X.K):=by
 intro pins s σ H x y v u Q I rx ry h
 obtain ⟨n,d,e,c,hn,td,te,q⟩:=h
 exact (rcD (A:=X.A) I c td te rx ry (by omega)).1 _ _ _ _ ⟨.bl _,H,I,rfl,q⟩
theorem op_neD (hu:X.A.units + 64 < cLine):OpR X (compareOp .NotEq) (rNeD X.K):=by
 intro pins s σ H x y v u Q I rx ry h
 obtain ⟨n,d,e,c,hn,td,te,q⟩:=h
 exact (rcD (A:=X.A) I c td te rx ry (by omega)).2 _ _ _ _ ⟨.bl _,H,I,rfl,q⟩
end
end L2
namespace Ord
variable {α:Type} [DecidableEq α]
end Ord
namespace War
end War
namespace Ord
variable {α:Type} [DecidableEq α]
end Ord
namespace L2
open PySem PySem.Spec PyProof.Rows Ord
theorem one_le:([]:List V).length + 1≤sizeLine:=by decide
theorem two_le:([]:List V).length + 1 + 1≤sizeLine:=by decide
end L2
namespace L2
open PySem PySem.Spec PyProof.Rows Ord
end L2
namespace L2
open PySem PySem.Spec PyProof.Rows
theorem comp_listI {K:PySem.W.Frag} {a:Addr} {xs:List V} {k:Nat} {caps:List Nat} {g:TG} {te:TE} {σ:St} {H1:Hp} {Q:Addr→Hp→Prop} (Pv:Addr→Nat→List V→Hp→Prop)
 (h0:∀ D,H1 D=none→Pv D 0 [] (upd H1 D (.lst []))) (hq:∀ D i ys H2,Pv D i ys H2→SqL K H2 a xs)
 (hs:∀ D i x ys H2 (R:VK),H1 D=none→xs[i]?=some x→Pv D i ys H2→(∀ y H6,H6 D=some (.lst ys)→ys.length < sizeLine→Pv D (i + 1) (ys++[y]) (upd H6 D (.lst (ys++[y])))→R y H6)→g x (compSt k caps σ) H2 fun σ4 H4=>te σ4 H4 R)
 (hd:∀ D ys H2,H1 D=none→Pv D xs.length ys H2→Q D H2) :
 ∀ D,H1 D=none→∃ W:Nat→Nat→List V→Hp→Prop,(∃ m,W 0 m [] (upd H1 D (.lst [])))∧∀ i m ys H2,W i m ys H2 →
  ((Itl K a).stop i H2∧Q D H2)∨((Itl K a).go i H2∧∀ x H3,(Itl K a).yld i H2 x H3→g x (compSt k caps σ) H3 fun σ4 H4=>tYes σ4 H4 fun b H5 =>
   if b=true then te σ4 H5 fun y H6=>H6 D=some (.lst ys)∧ys.length < sizeLine∧∃ m',m' < m∧W (i + 1) m' (ys++[y]) (upd H6 D (.lst (ys++[y]))) else ∃ m',m' < m∧W (i + 1) m' ys H5):=by
 intro D hD
 refine ⟨fun i m ys H2=>m=xs.length - i∧i≤xs.length∧Pv D i ys H2,⟨xs.length,rfl,Nat.zero_le _,h0 D hD⟩,?_⟩
 rintro i m ys H2 ⟨rfl,hi,p⟩
 have q2:=hq D i ys H2 p
 by_cases hlt:i < xs.length
 · refine .inr ⟨⟨xs,xs[i],q2,by simp [hlt]⟩,fun x H3 y=>?_⟩
   obtain ⟨rfl,y⟩:=y
   have hx:=y xs q2
   refine hs D i x ys H3 _ hD hx p fun v H6 e6 hz p6=>?_
   exact ⟨e6,hz,xs.length - (i + 1),by omega,rfl,hlt,p6⟩
 · have e:i=xs.length:=by omega
   subst e
   exact .inl ⟨⟨xs,q2,Nat.le_refl _⟩,hd D ys H2 hD p⟩
end L2
namespace L2
open PySem PySem.Spec PyProof.Rows
section
variable {prog:Program} {w:World} {A:Around} {E:Value→Shared→Prop} {s:Shared}
end
section
variable {X:Cx}
end
end L2
namespace HT
open PySem PyProof.Rows
section
open PySem.SeqAt
open PySem.AutoSeq1 (wpAny_loadPart')
open PySem.MeetsSeq PySem.MeetsSeq2 PySem.MeetsSeq3
end
section
variable {prog:Program} {w:World} {A:Around} {E:Value→Shared→Prop} {s:Shared}
end
end HT
namespace L2
open PySem PySem.Spec PyProof.Rows
section
variable {X:Cx}
end
end L2
namespace L2
end L2
namespace KasM
open PySem PySem.W PyProof.Rows
set_option autoImplicit false
section
variable {O:KeyOrd} {key:Nat→O.α} {n:Nat}
end
end KasM
namespace L2
open PySem PySem.Spec PyProof.Rows
section
variable {prog:Program} {w:World} {A:Around} {E:Value→Shared→Prop} {s:Shared}
end
end L2
namespace L2
open PySem PySem.Spec PyProof.Rows
section
variable {prog:Program} {w:World} {A:Around} {E:Value→Shared→Prop} {s:Shared}
end
section
variable {X:Cx}
end
end L2
namespace L2
open PySem PySem.Spec PyProof.Rows Ord
section
variable {X:Cx}
end
theorem three_le:([]:List V).length + 1 + 1 + 1≤sizeLine:=by decide
end L2
namespace L2
open PySem PySem.Spec PyProof.Rows
def FlyAt (h:Heap) (e T:Addr) (cls fl:Value) (dd:Option Addr):Prop :=
 ∃ oe vs oT ts,h.get? e=some oe∧oe.cls=cls∧oe.dict=dd∧oe.data=.fields vs∧vs[1]?=some (.ref T)∧T≠e∧h.get? T=some oT∧oT.data=.fields ts∧ts[3]?=some fl
abbrev Fly (h:Heap) (e T:Addr) (cls:Value) (dd:Option Addr):Prop:=FlyAt h e T cls .none dd
structure GoneAt (l:List Env) (e T T':Addr) (cls fl:Value) (dd:Option Addr) (h h':Heap):Prop where
 fly:FlyAt h' e T' cls fl dd
 tr:T'=T∨h.get? T'=none
 keep:∀ b o,h.get? b=some o→b≠e→b≠T→b ∉ frs l→h'.get? b=some o
 slot:∀ b o,h.get? b=some o→b∈frs l→∃ sl,h'.get? b=some { o with slots:=sl }
abbrev Gone (l:List Env) (e T T':Addr) (cls:Value) (dd:Option Addr) (h h':Heap):Prop:=GoneAt l e T T' cls .none dd h h'
section
variable {M:Model} {A:Around} {E:Value→Shared→Prop} {s:Shared} {base:Heap} {env:Env} {outer:List Env} {L e T:Addr} {cls fl:Value} {dd:Option Addr} {Q:Unit→Shared→Prop}
theorem entry_ok {oe:Obj} {vs:Array Value} {head:Value} {hadNext:Bool} (hfr:A.frames=some (env :: outer)) (hl:s.heap.FunFrames base (env :: outer)) (hf:env.frame=some L) (he:s.heap.get? e=some oe) (hd:oe.data=.fields vs) (hsz:1 < vs.size)
 (h:∀ h' T',(∀ b o,s.heap.get? b=some o→b≠e→b ∉ frs (env :: outer)→h'.get? b=some o)→(∀ b o,s.heap.get? b=some o→b∈frs (env :: outer)→∃ sl,h'.get? b=some { o with slots:=sl })→s.heap.get? T'=none→T'≠e →
  (∃ oe',h'.get? e=some oe'∧oe'.cls=oe.cls∧oe'.dict=oe.dict∧oe'.data=.fields (vs.setIfInBounds 1 (.ref T')))→(∃ oT ts,h'.get? T'=some oT∧oT.data=.fields ts∧ts[3]?=some (rawInt L))→Q () { s with heap:=h' }) :
 wpAny M A (do let a ←frameOf env; let pl ←entryPlaceOf L hadNext; let b ←EntryCells.newEntry head a .none (rawInt L) .none pl; setField (.ref e) 1 b) Q E s:=by
 have ne:e ∉ frs (env :: outer):=fun m=>by
  obtain ⟨_,o,ho,nf⟩:=hl.mem m
  rw [he] at ho; cases ho
  exact nf vs hd
 refine wpAny_bind (wpAny_frameOf_fun hfr hl hf fun g1 so=>?_)
 refine wpAny_bind (wpAny_entryPlaceOf fun pl hpl=>?_)
 unfold EntryCells.newEntry newFields
 refine wpAny_bind (wpAny_newObj_type ?_ (hpl.sizeOk5 _ _ _ _ _))
 generalize hob:({ cls:=.type "traceback",dict:=none,data:=.fields ([head,.ref L,.none,rawInt L,.none]++(if pl.isEmpty then List.replicate 6 Value.none else pl)).toArray }:Obj)=ob
 have q1:g1.get? e=some oe:=(so.2.1 e ne).trans he
 have q2:(g1.push ob).get? e=some oe:=Heap.get?_push_of_some _ q1
 have nz:g1.objs.size≠e:=Nat.ne_of_gt (Heap.lt_size q1)
 refine wpAny_setField q2 hd hsz (h _ g1.objs.size (fun b o q n m=>?_) (fun b o q m=>?_) ?_ nz ?_ ?_)
 · rw [Heap.get?_update_other _ _ (Ne.symm n)]
   exact Heap.get?_push_of_some _ ((so.2.1 b m).trans q)
 · obtain ⟨sl,q'⟩:=so.2.2 b o q
   refine ⟨sl,?_⟩
   rw [Heap.get?_update_other _ _ (fun z=>ne (by rw [z]; exact m))]
   exact Heap.get?_push_of_some _ q'
 · exact Heap.get?_none_of_le (by rw [so.1]; exact Nat.le_refl _)
 · have d3:=Obj.data_mapFields hd (·.setIfInBounds 1 (Value.ref g1.objs.size))
   refine ⟨_,Heap.get?_update_self _ q2 (Obj.isFreed_of_fields d3),Obj.cls_mapFields _ _,?_,d3⟩
   obtain ⟨c,dd,dt,sl⟩:=oe
   cases dt <;> first | rfl | (simp at hd)
 · have q4:(g1.push ob).get? g1.objs.size=some ob:=Heap.get?_push_size _ (by rw [←hob]; rfl)
   refine ⟨ob,_,(Heap.get?_update_other _ _ (Ne.symm nz)).trans q4,by rw [←hob],?_⟩
   first | (simp; done) | (rcases hpl with rfl | ⟨_,_,_,_,_,_,_,rfl⟩ <;> simp)
theorem note_next (hfr:A.frames=some (env :: outer)) (hl:s.heap.FunFrames base (env :: outer)) (hf:env.frame=some L) (ht:FlyAt s.heap e T cls fl dd)
 (h:∀ h' T',GoneAt (env :: outer) e T T' cls (rawInt L) dd s.heap h'→Q () { s with heap:=h' }):wpAny M A (noteFrame (.ref e) env) Q E s:=by
 obtain ⟨oe,vs,oT,ts,e1,e2,e2d,e3,e4,e5,e6,e7,e8⟩:=ht
 have hz:3 < ts.size:=(Array.getElem?_eq_some_iff.mp e8).1
 have oth:∀ b,b≠T→(s.heap.update T (Obj.mapFields (·.setIfInBounds 3 Value.none))).get? b=s.heap.get? b:=fun b hb=>Heap.get?_update_other _ _ (Ne.symm hb)
 have nf:∀ b o,s.heap.get? b=some o→(∀ vs,o.data≠.fields vs)→b≠T:=fun b o q n z=>by
  rw [z,e6] at q; cases q
  exact n ts e7
 unfold noteFrame
 simp only [hf]
 refine wpAny_bind (wpAny_field e1 e3 e4 ?_)
 rw [if_pos (show (Value.ref T != Value.none)=true from by simp)]
 refine wpAny_bind (wpAny_field e6 e7 e8 ?_)
 by_cases z:(fl == rawInt L)=true
 · rw [if_pos z]
   refine wpAny_pure (h s.heap T ⟨⟨oe,vs,oT,ts,e1,e2,e2d,e3,e4,e5,e6,e7,by rw [e8,beq_iff_eq.mp z]⟩,.inl rfl,fun b o q _ _ _=>q,fun b o q _=>⟨o.slots,q⟩⟩)
 rw [if_neg z]
 refine wpAny_bind (wpAny_setField e6 e7 hz ?_)
 refine entry_ok (base:=base) hfr (hl.of_keeps fun b o q n=>⟨o,(oth b (nf b o q n)).trans q,rfl⟩) hf ((oth e (Ne.symm e5)).trans e1) e3 (Array.getElem?_eq_some_iff.mp e4).1 fun h' T' k1 k2 k3 k4 ⟨oe',y1,y2,y3,y4⟩ ⟨oT',ts',z1,z2,z3⟩=>?_
 have nT:T'≠T:=fun z=>by
  have:=Heap.get?_update_self (Obj.mapFields (·.setIfInBounds 3 Value.none)) e6 (Obj.isFreed_of_fields (Obj.data_mapFields e7 _))
  rw [←z] at this
  rw [z] at k3 this
  rw [k3] at this; cases this
 refine h h' T' ⟨⟨oe',_,oT',ts',y1,y2.trans e2,y3.trans e2d,y4,?_,k4,z1,z2,z3⟩,.inr ((oth T' nT).symm.trans k3),fun b o q n1 n2 n3=>k1 b o ((oth b n2).trans q) n1 n3,fun b o q m=>?_⟩
 · simp [(Array.getElem?_eq_some_iff.mp e4).1]
 · obtain ⟨_,o',q',n⟩:=hl.mem m
   rw [q] at q'; cases q'
   exact k2 b o ((oth b (nf b o q n)).trans q) m
theorem note_first {oe:Obj} {vs:Array Value} (hfr:A.frames=some (env :: outer)) (hl:s.heap.FunFrames base (env :: outer)) (hf:env.frame=some L) (he:s.heap.get? e=some oe) (hd:oe.data=.fields vs) (h1:vs[1]?=some .none)
 (h:∀ h' T',GoneAt (env :: outer) e e T' oe.cls (rawInt L) oe.dict s.heap h'→Q () { s with heap:=h' }):wpAny M A (noteFrame (.ref e) env) Q E s:=by
 unfold noteFrame
 simp only [hf]
 refine wpAny_bind (wpAny_field he hd h1 ?_)
 rw [if_neg (by decide)]
 refine entry_ok (base:=base) hfr hl hf he hd (Array.getElem?_eq_some_iff.mp h1).1 fun h' T' k1 k2 k3 k4 ⟨oe',y1,y2,y3,y4⟩ ⟨oT',ts',z1,z2,z3⟩=>?_
 refine h h' T' ⟨⟨oe',_,oT',ts',y1,y2,y3,y4,?_,k4,z1,z2,z3⟩,.inr k3,fun b o q n1 _ n3=>k1 b o q n1 n3,k2⟩
 simp [(Array.getElem?_eq_some_iff.mp h1).1]
theorem flight_off (ht:FlyAt s.heap e T cls fl dd) (h:∀ h',Fly h' e T cls dd→(∀ b o,s.heap.get? b=some o→b≠T→h'.get? b=some o)→Q () { s with heap:=h' }):wpAny M A (setFlight (.ref e) none) Q E s:=by
 obtain ⟨oe,vs,oT,ts,e1,e2,e2d,e3,e4,e5,e6,e7,e8⟩:=ht
 have hz:3 < ts.size:=(Array.getElem?_eq_some_iff.mp e8).1
 have oth:∀ b,b≠T→(s.heap.update T (Obj.mapFields (·.setIfInBounds 3 ((none:Option Addr).elim Value.none fun f=>rawInt f)))).get? b=s.heap.get? b:=fun b hb=>Heap.get?_update_other _ _ (Ne.symm hb)
 unfold setFlight
 refine wpAny_bind (wpAny_field e1 e3 e4 ?_)
 rw [if_pos (show (Value.ref T != Value.none)=true from by simp)]
 refine wpAny_setField e6 e7 hz (h _ ?_ fun b o q n=>(oth b n).trans q)
 exact ⟨oe,vs,_,_,(oth e (Ne.symm e5)).trans e1,e2,e2d,e3,e4,e5,Heap.get?_update_self _ e6 (Obj.isFreed_of_fields (Obj.data_mapFields e7 _)),Obj.data_mapFields e7 _,by simp [hz]⟩
theorem gone_off {T':Addr} {h1 h2:Heap} (hl:s.heap.FunFrames base (env :: outer)) (hT:∀ b∈frs (env :: outer),b≠T) (g:GoneAt (env :: outer) e T T' cls fl dd s.heap h1) (f:Fly h2 e T' cls dd) (k:∀ b o,h1.get? b=some o→b≠T'→h2.get? b=some o):Gone (env :: outer) e T T' cls dd s.heap h2:=by
 have nn:∀ b o,s.heap.get? b=some o→b≠T→b≠T':=fun b o q n z=>by
  rcases g.tr with y | y
  · exact n (z.trans y)
  · rw [z,y] at q; cases q
 refine ⟨f,g.tr,fun b o q n1 n2 n3=>k b o (g.keep b o q n1 n2 n3) (nn b o q n2),fun b o q m=>?_⟩
 obtain ⟨sl,q'⟩:=g.slot b o q m
 exact ⟨sl,k b _ q' (nn b o q (hT b m))⟩
theorem leave_next (hfr:A.frames=some (env :: outer)) (hl:s.heap.FunFrames base (env :: outer)) (hf:env.frame=some L) (ht:FlyAt s.heap e T cls fl dd)
 (h:∀ h' T',Gone (env :: outer) e T T' cls dd s.heap h'→Q () { s with heap:=h' }):wpAny M A («leaving» env (.ref e)) Q E s:=by
 unfold «leaving»
 refine wpAny_bind (note_next hfr hl hf ht fun h1 T1 g1=>flight_off g1.fly fun h2 f2 k2=>h h2 T1 (gone_off hl (fun b m z=>?_) g1 f2 k2))
 obtain ⟨oe,vs,oT,ts,_,_,_,_,_,_,e6,e7,_⟩:=ht
 obtain ⟨_,o,ho,n⟩:=hl.mem m
 rw [z,e6] at ho; cases ho
 exact n ts e7
theorem leave_first {oe:Obj} {vs:Array Value} (hfr:A.frames=some (env :: outer)) (hl:s.heap.FunFrames base (env :: outer)) (hf:env.frame=some L) (he:s.heap.get? e=some oe) (hd:oe.data=.fields vs) (h1:vs[1]?=some .none)
 (h:∀ h' T',Gone (env :: outer) e e T' oe.cls oe.dict s.heap h'→Q () { s with heap:=h' }):wpAny M A («leaving» env (.ref e)) Q E s:=by
 unfold «leaving»
 refine wpAny_bind (note_first hfr hl hf he hd h1 fun h1 T1 g1=>flight_off g1.fly fun h2 f2 k2=>h h2 T1 (gone_off hl (fun b m z=>?_) g1 f2 k2))
 obtain ⟨_,o,ho,n⟩:=hl.mem m
 rw [z,he] at ho; cases ho
 exact n vs hd
end
theorem ObjOk.there {P:Program} {w:World} {H:Hp} {h:Heap} {a:Addr} {o:HO} (x:ObjOk P w H h a o):∃ u,h.get? a=some u:=by
 cases o with
 | lst xs=>obtain ⟨_,_,_,_,e⟩:=x; exact ⟨_,e⟩
 | tup xs=>obtain ⟨_,_,_,u,e,_⟩:=x; exact ⟨u,e⟩
 | dK kvs=>obtain ⟨_,_,_,_,u,_,_,e,_⟩:=x; exact ⟨u,e⟩
 | dT kvs=>obtain ⟨_,_,_,_,u,_,_,e,_⟩:=x; exact ⟨u,e⟩
 | set S n=>obtain ⟨u,_,_,_,e,_⟩:=x; exact ⟨u,e⟩
 | ins C dx fs=>obtain ⟨_,_,_,e,_⟩:=x; exact ⟨_,e⟩
 | own y=>exact x
 | xd fs=>obtain ⟨_,⟨u,_,_,e,_⟩,_⟩:=x; exact ⟨u,e⟩
 | rng lo hi=>obtain ⟨_,_,_,e⟩:=x; exact ⟨_,e⟩
 | frz ob u=>obtain ⟨e,_⟩:=x; exact ⟨_,e⟩
 | tbl ps=>exact ⟨_,(show h.get? a=some _ from x)⟩
 | met f y=>exact ⟨_,(show h.get? a=some _ from x)⟩
 | ext φ=>obtain ⟨_,e,_⟩:=x; exact e
def Thr (h0 h:Heap) (H':Hp) (a:Addr) (cls:Value) (dd:Option Addr):Prop :=
 (∃ oe vs,h.get? a=some oe∧oe.cls=cls∧oe.dict=dd∧oe.data=.fields vs∧vs[1]?=some .none)∨∃ T fl,FlyAt h a T cls fl dd∧h0.get? T=none∧H' T=none
structure Th (P:Program) (w:World) (stack:List Env) (H:Hp) (s:Shared) (H':Hp) (s':Shared) (a C:Addr) (dd:Option Addr):Prop where
 os:s'.os=s.os
 bare:AllBare s'.gens
 un:Un (frs stack) [] H H' s.heap s'.heap
 hok:HOk P w H' s'.heap
 new:s.heap.get? a=none
 free:H' a=none
 thr:Thr s.heap s'.heap H' a (.ref C) dd
def CXE (P:Program) (w:World):CXT:=fun outer H s E e s'=>∃ a C dd H',e=.ref a∧Th P w outer H s H' s' a C dd∧(∃ T,Fly s'.heap a T (.ref C) dd∧s.heap.get? T=none∧H' T=none)∧E (.ref C) dd H'
def Throws (X:Cx) (E:XK):Prop:=∀ (pins:List (Addr × Obj)) (σ:St) (H:Hp) (s:Shared) (H':Hp) (s':Shared) (a C:Addr) (dd:Option Addr),Inv X pins σ H s→Th X.prog X.w X.stack H s H' s' a C dd→E (.ref C) dd H'→X.xe (.ref a) s'
theorem Throws.passes {X:Cx} {E:XK} (h:Throws X E):Passes (CXE X.prog X.w) X E:=fun pins σ H s e s' I hx=>by
 obtain ⟨a,C,dd,H',rfl,t,_,q⟩:=hx
 exact h pins σ H s H' s' a C dd I t q
theorem ff_un {h h' base:Heap} {H H':Hp}:∀ {l:List Env} {fs:List Addr},(∀ b∈frs l,b∈fs)→(∀ b∈frs l,H b=none)→Un fs [] H H' h h'→h.FunFrames base l→h'.FunFrames base l
 | [],_,_,_,_,_=>trivial
 | env :: rest,fs,hs,hn,u,⟨k,⟨L,o,hf,hb,ho,hd⟩,hr⟩=>by
   have mL:L∈frs (env :: rest):=by simp [frs,hf]
   have sub:∀ b∈frs rest,b∈frs (env :: rest):=fun b m=>by
    simp only [frs,List.filterMap_cons,hf]
    exact List.mem_cons_of_mem _ m
   obtain ⟨sl,e⟩:=u.slot L o ho (hn L mL) (hs L mL) (by simp)
   exact ⟨k,⟨L,_,hf,hb,e,hd⟩,ff_un (fun b m=>hs b (sub b m)) (fun b m=>hn b (sub b m)) u hr⟩
section
variable {P:Program} {w:World} {K:PySem.W.Frag} {mg:Str→Option Value} {base:Heap} {N:List Str} {qual:Str} {scope:Scope} {f:Addr} {cd:Value} {A:Around} {outer:List Env} {s:Shared} {H:Hp} {E:XK}
theorem throws_cx:Throws (cxOf (CXE P w) P w K mg base N qual scope f cd A outer s H E) E:=by
 intro pins σ H1 s1 H' s' a C dd I t q
 obtain ⟨X,hX⟩:∃ X,X=cxOf (CXE P w) P w K mg base N qual scope f cd A outer s H E:=⟨_,rfl⟩
 have tk:=t.hok
 rw [←hX] at I t ⊢
 have e1:X.stack=X.env :: outer:=by rw [hX]; rfl
 have e2:X.env.frame=some X.env.locals:=by rw [hX]; rfl
 have e3:X.s₀=s:=by rw [hX]; rfl
 have e4:X.H₀=H:=by rw [hX]; rfl
 have e5:X.fs=frs outer:=by rw [hX]; rfl
 have e6:X.ex=[]:=by rw [hX]; rfl
 have e7:X.env.locals=s.heap.objs.size:=by rw [hX]; rfl
 have hfr:=I.ok.frames
 have hff:=ff_un (fun b m=>m) I.stkFree t.un I.stack
 rw [e1] at hfr hff
 have hfrN:∀ b∈frs (X.env :: outer),H' b=none:=fun b m=>by
  rw [←e1] at m
  obtain ⟨_,o,ho,_⟩:=I.stack.mem m
  exact t.un.free b o ho (I.stkFree b m) (by simp)
 have hb:=I.base
 rw [e3,e4,e5,e6] at hb
 have big : ∀ T T' h', (T = a ∨ (s1.heap.get? T = none ∧ H' T = none)) → Gone (X.env :: outer) a T T' (.ref C) dd s'.heap h' → CXE P w outer H s E (.ref a) { s' with heap := h' } := fun T T' h' hT g => by
  have nT:∀ b o,s1.heap.get? b=some o→b≠T:=fun b o e z=>by
   rcases hT with y | y
   · rw [z,y,t.new] at e; cases e
   · rw [z,y.1] at e; cases e
  have nA:∀ b o,s1.heap.get? b=some o→b≠a:=fun b o e z=>by rw [z,t.new] at e; cases e
  have H'T:H' T=none:=by
   rcases hT with y | y
   · rw [y]; exact t.free
   · exact y.2
  have H'T' : H' T'=none:=by
   rcases g.tr with y | y
   · rw [y]; exact H'T
   · cases z:H' T' with
     | none=>rfl
     | some o=>obtain ⟨u,e⟩:=(t.hok T' o z).there; rw [y] at e; cases e
  have up:∀ b o,s.heap.get? b=some o→∃ o',s1.heap.get? b=some o':=fun b o e=>hb.there b o e (by simp)
  have loc:∀ b o,s.heap.get? b=some o→b ∉ frs outer→b ∉ frs (X.env :: outer):=fun b o e n m=>by
   simp only [frs,List.filterMap_cons,e2] at m
   rcases List.mem_cons.mp m with z | z
   · rw [z,e7] at e; exact Nat.lt_irrefl _ (Heap.lt_size e)
   · exact n z
  have out:∀ b,b∈frs outer→b∈frs (X.env :: outer):=fun b m=>by
   simp only [frs,List.filterMap_cons,e2]
   exact List.mem_cons_of_mem _ m
  have one:∀ b,s1.heap.get? b=none→s.heap.get? b=none:=fun b e=>by
   cases z:s.heap.get? b with
   | none=>rfl
   | some o=>obtain ⟨o',e'⟩:=up b o z; rw [e] at e'; cases e'
  have hT' : s.heap.get? T' = none := by
   rcases g.tr with y | y
   · rw [y]
     rcases hT with z | z
     · rw [z]; exact one a t.new
     · exact one T z.1
   · cases z:s.heap.get? T' with
     | none=>rfl
     | some o =>
       obtain ⟨o1,z1⟩:=up T' o z
       obtain ⟨o2,z2⟩:=t.un.there T' o1 z1 (by simp)
       rw [y] at z2; cases z2
  refine ⟨a,C,dd,H',rfl,⟨t.os.trans (I.os.trans (by rw [e3])),t.bare,⟨fun b o e n m _=>?_,fun b o e n m _=>?_,fun b o e n _=>?_,fun b o e _=>?_,fun b xs e=>t.un.tups b xs (hb.tups b xs e),fun b o u e=>t.un.frzs b o u (hb.frzs b o u e),fun b ps e=>?_⟩,fun b o e=>?_,one a t.new,t.free,.inr ⟨T',_,g.fly,hT',H'T'⟩⟩,⟨T',g.fly,hT',H'T'⟩,q⟩
  · have k1:=hb.keep b o e n m (by simp)
    have k2:=t.un.keep b o k1 (hb.free b o e n (by simp)) (by rw [e1]; exact loc b o e m) (by simp)
    exact g.keep b o k2 (nA b o k1) (nT b o k1) (loc b o e m)
  · obtain ⟨sl,k1⟩:=hb.slot b o e n m (by simp)
    obtain ⟨sl2,k2⟩:=t.un.slot b _ k1 (hb.free b o e n (by simp)) (by rw [e1]; exact out b m) (by simp)
    obtain ⟨sl3,k3⟩:=g.slot b _ k2 (out b m)
    exact ⟨sl3,k3⟩
  · obtain ⟨o1,k1⟩:=up b o e
    exact t.un.free b o1 k1 (hb.free b o e n (by simp)) (by simp)
  · obtain ⟨o1,k1⟩:=up b o e
    obtain ⟨o2,k2⟩:=t.un.there b o1 k1 (by simp)
    by_cases m:b∈frs (X.env :: outer)
    · obtain ⟨sl,k3⟩:=g.slot b o2 k2 m
      exact ⟨_,k3⟩
    · exact ⟨_,g.keep b o2 k2 (nA b o1 k1) (nT b o1 k1) m⟩
  · obtain ⟨more,k1⟩:=hb.tbls b ps e
    obtain ⟨more2,k2⟩:=t.un.tbls b _ k1
    exact ⟨more++more2,by rw [k2,Array.append_assoc]⟩
  · refine (show ObjOk P w H' h' b o from (tk b o e).stay (fun c u hc k=>g.keep c u k ?_ ?_ ?_) (fun _ z=>z) fun _ _ z=>z)
    all_goals
     intro z
     rcases hc with y | y
     · first
        | (rw [←y,z,t.free] at e; cases e)
        | (rw [←y,z,H'T] at e; cases e)
        | (rw [←y,hfrN c z] at e; cases e)
     · first
        | (rw [z,t.free] at y; cases y)
        | (rw [z,H'T] at y; cases y)
        | (rw [hfrN c z] at y; cases y)
 have hxe:X.xe (.ref a) s'=wpAny (model P w) X.A («leaving» X.env (.ref a)) (fun _ s''=>CXE P w outer H s E (.ref a) s'') (fun e' s''=>CXE P w outer H s E e' s'') s':=by rw [hX]; rfl
 rw [hxe]
 rcases t.thr with ⟨oe,vs,h1,h2,hdi,h3,h4⟩ | ⟨T,_,h1,h2,h3⟩
 · refine leave_first hfr hff e2 h1 h3 h4 fun h' T' g=>?_
   rw [h2,hdi] at g
   exact big a T' h' (.inl rfl) g
 · exact leave_next hfr hff e2 h1 fun h' T' g=>big T T' h' (.inr ⟨h2,h3⟩) g
end
structure Exk (K:PySem.W.Frag) (mg:Str→Option Value) (x:Str) (C:Addr):Prop where
 at_:mg x=some (.ref C)
 ok:PySem.W.excIn K C [.type "ValueError",.type "Exception",.type "BaseException",.type "object"] "ValueError.__new__" = true
def subIn (K:PySem.W.Frag) (C Cp:Addr):Bool:=match K.lookup C with
 | some ⟨_,_,.cls cd,_⟩=>cd.mro.contains (.ref Cp)
 | _=>false
theorem exk_obj {K:PySem.W.Frag} {C:Addr} {bmB:List Value} {newId:String} (q:PySem.W.excIn K C bmB newId=true) :
 ∃ nm qn N bs bm hdct sn sub ab col dd k0 k1 k2 k3 k5,(∀ h:Heap,K.In h→h.get? C=some (excClassObj nm qn C N bs bm hdct sn sub ab col dd k0 k1 k2 k3 k5 newId))∧PySem.W.nsOkIn K N=true∧PySem.W.nsIn K N "__init__" = some none∧PySem.W.tailIn K bmB bm=true∧∀ Cp,subIn K C Cp=(Value.ref C :: bm).contains (.ref Cp):=by
 unfold PySem.W.excIn at q
 split at q
 next dd cd sl look =>
  split at q
  next C' bm k0 k1 k2 k3 n k5 em es =>
   simp only [Bool.and_eq_true,beq_iff_eq,Bool.not_eq_true'] at q
   rcases q with ⟨⟨⟨⟨⟨eC,en⟩,ed⟩,et⟩,ek⟩,ei⟩
   subst eC
   subst en
   refine ⟨cd.name,cd.qualname,cd.ns,cd.bases,bm,cd.hasDict,cd.slotNames,cd.subclasses,cd.abstract,cd.collection,dd,k0,k1,k2,k3,k5,fun h I=>?_,ek,ei,et,fun Cp=>by unfold subIn; rw [look]; simp only [em]⟩
   rw [I _ _ look]
   have e1:sl=#[k0,k1,k2,k3,some (.builtin n),k5]:=by cases sl; simp only at es; rw [es]
   rw [e1]
   cases cd
   simp only at em ed
   rw [em,ed]
  next=>cases q
 next=>cases q
def tRaise (C:Addr) (E:XK) (t:TA):TS:=fun _ σ H=>t σ H fun vs H1=>vs.length≤sizeLine∧E (.ref C) none H1
theorem ps_raise {X:Cx} {E:XK} {C:Addr} {x:Str} {np cpos pos:Pos} {e0:Expr} {es:List Expr} {t:TA} (hT:Throws X E) (hc:X.calm=true) (k:Exk X.K X.mg x C) (hg:Gl X x) (ha:PA X (e0 :: es) t)
 (hdb:(x == ("__debug__" : Str))=false:=by decide) (he:starEach (e0 :: es) X.env=(false,eval e0 X.env) :: starEach es X.env:=by rfl) (hpl:(backTo cpos (starEach es X.env)).any (·.1)=false:=by rfl) :
 PS X (.Raise (some (.Call (.Name x np) (e0 :: es) [] cpos)) none pos) (tRaise C E t):=by
 intro pins s σ H D I h
 obtain ⟨nm,qn,N,bs,bm,hdct,sn,sub,ab,col,dd,k0,k1,k2,k3,k5,hC,hok,hni,htl,_⟩:=exk_obj k.ok
 have hB:X.base.Ns N (X.base.nsMap N):=.of_isNs (PySem.W.isNs_of_in I.mod.kin hok)
 refine wpAny_Raise_call_subT (nm:=nm) (q:=qn) (N:=N) (bs:=bs) (bm:=bm) (hdct:=hdct) (sn:=sn) (sub:=sub) (ab:=ab) (col:=col) (dd:=dd) (k0:=k0) (k1:=k1) (k2:=k2) (k3:=k3) (k5:=k5) (mN:=X.base.nsMap N) PySem.F.excBase_ValueError (OwnTail.hasType (PySem.W.tail_of_in I.kIn htl) (X := "BaseException") (by decide)) (I.ok.hd hc) ?_ (PySem.W.nsMap_none_of_in I.mod.kin hok hni) (ld_glob I hg k.at_ ⟨rfl,?_⟩ hdb)
 · rw [he]
   show (false || (backTo cpos (starEach es X.env)).any (·.1))=false
   rw [hpl]; rfl
 · have h1:=ha cpos pins s σ H _ I h
   rw [he] at h1 ⊢
   refine Calls.evalArgs_plain (thn h1 fun us s2 ⟨vs,H2,I2,r,q⟩=>⟨rfl,?_,hC _ I2.kIn,hB.keeps I2.bk,PySem.W.tail_of_in I2.kIn htl,fun h' e m=>?_⟩)
   · show us.length≤sizeLine
     rw [←r.length]; exact q.1
   · obtain ⟨tp,t1,t2,t3⟩:=m.there
     refine hT pins σ H2 s2 H2 _ e C none I2 ⟨rfl,I2.bare,Un.kept m.keeps,I2.hok.kept m.keeps,m.new,?_,.inl ⟨_,_,t1,rfl,rfl,rfl,rfl⟩⟩ q.2
     cases z:H2 e with
     | none=>rfl
     | some o =>
       obtain ⟨u,y⟩:=(I2.hok e o z).there
       rw [m.new] at y; cases y
end L2
namespace L2
open PySem PySem.Spec PyProof.Rows
section
variable {M:Model} {A:Around} {E:Value→Shared→Prop}
variable {nm q nm2 q2:Str} {C N C2 N2:Addr} {bs bm bs2 bm2:List Value} {hdct hdct2:Bool} {sn sn2:List Str} {sub sub2:List Value} {ab ab2:Bool} {col col2:Option Bool} {dd dd2:Option Addr} {k0 k1 k2 k3 k5 j0 j1 j2 j3 j5:Option Value} {newId newId2:String}
theorem match_own {h:Heap} {g:Array GenState} {d:Drawn} {t:Nat} {os:OsState} {e:Addr} {oe:Obj} {b:Bool} {Q:Bool→Shared→Prop}
 (hC:h.get? C=some (excClassObj nm q C N bs bm hdct sn sub ab col dd k0 k1 k2 k3 k5 newId)) (hC2:h.get? C2=some (excClassObj nm2 q2 C2 N2 bs2 bm2 hdct2 sn2 sub2 ab2 col2 dd2 j0 j1 j2 j3 j5 newId2))
 (he:h.get? e=some oe) (hcls:oe.cls=.ref C) (hbase:bm2.contains (.type "BaseException")=true) (hb:(Value.ref C :: bm).contains (.ref C2)=b)
 (hq:Q b ⟨h,g,d,t,os⟩):wpAny M A (excMatches (.ref e) (.ref C2)) Q E ⟨h,g,d,t,os⟩:=by
 have hcB:(Value.ref C2 :: bm2).contains (.type "BaseException")=true:=by rw [List.contains_cons,hbase,Bool.or_true]
 have f:=tc_notTuple
 unfold excMatches
 repeat (first | (with_reducible refine wpAny_loadPart_at he ?_; rw [hcls]) | with_reducible refine wpAny_loadPart_at hC2 ?_ | (with_reducible refine wpAny_isSubtype_exc hC2 ?_; rw [hcB]) | (with_reducible refine wpAny_isSubtype_exc hC ?_; rw [hb]) | wp_step)
 cases b <;> (wp_walk; exact hq)
end
section
variable {X:Cx} {pins:List (Addr × Obj)} {σ:St} {H:Hp} {s:Shared}
theorem Inv.unset {i:Nat} {x:Str} {m:Str→Option Value} {u:Option Value} {h':Heap} (I:Inv X pins σ H s) (hN:X.N.Nodup) (hi:X.N[i]?=some x) (hm:∀ (j:Nat) (y:Str) (v:V),X.N[j]?=some y→σ[j]?=some (some v)→Vis X.env.scope y→∃ u,RelV v u∧Look X.env s.heap m y u)
 (hn':h'.Ns X.env.locals (fun y=>if y=x then u else m y)) (hs:Heap.SameBut X.env.locals s.heap h'):Inv X pins (σ.set i none) H { s with heap:=h' }:=by
 obtain ⟨m0,⟨oL,_,_,hoL,_⟩,_⟩:=id I.loc
 have lo:∀ b o,X.s₀.heap.get? b=some o→b≠X.env.locals:=fun b o e=>Nat.ne_of_lt (Nat.lt_of_lt_of_le (Heap.lt_size e) I.ok.above)
 have iL:i < σ.length:=by rw [I.len]; exact (List.getElem?_eq_some_iff.mp hi).1
 refine ⟨I.ok,I.os,I.bare,⟨fun b o e n hb hx=>(hs.2 b (lo b o e)).trans (I.base.keep b o e n hb hx),fun b o e n hb hx=>?_,I.base.free,fun b o e hx=>?_,I.base.tups,I.base.frzs,I.base.tbls⟩,⟨_,hn',fun j y v e1 e2 e3=>?_⟩,fun y c e=>?_,I.free,I.freeC,fun p hp=>?_,fun b o e=>?_,by simpa using I.len⟩
 · obtain ⟨sl,q⟩:=I.base.slot b o e n hb hx
   exact ⟨sl,(hs.2 b (lo b o e)).trans q⟩
 · obtain ⟨o',q⟩:=I.base.there b o e hx
   exact ⟨o',(hs.2 b (lo b o e)).trans q⟩
 · by_cases hj:i=j
   · subst hj
     rw [List.getElem?_set_self iL] at e2
     cases e2
   · rw [List.getElem?_set_ne hj] at e2
     obtain ⟨u',r',q⟩:=hm j y v e1 e2 e3
     have ny:y≠x:=fun z=>hj (nodup_ix hN hi (z ▸ e1))
     refine ⟨u',r',?_⟩
     rcases q with ⟨k,z⟩ | ⟨k,c,z,z'⟩
     · exact .inl ⟨k,(if_neg ny).trans z⟩
     · exact .inr ⟨k,c,z,z'.sameBut hs (I.cne y c z)⟩
 · obtain ⟨w',z⟩:=I.cell y c e
   exact ⟨w',z.sameBut hs (I.cne y c e)⟩
 · obtain ⟨q,n,ne,nf,d⟩:=I.pin p hp
   exact ⟨(hs.2 p.1 ne).trans q,n,ne,nf,d⟩
 · refine (I.hok b o e).stay (fun c w' hc q=>(hs.2 c fun z=>?_).trans q) (fun _ q=>q) fun _ _ q=>q
   rcases hc with y | y
   · rw [←y,z,I.free] at e; cases e
   · rw [z,I.free] at y; cases y
theorem unbind_ok {M:Model} {A:Around} {E:Value→Shared→Prop} {i:Nat} {x:Str} {pos:Pos} {Q:Unit→Shared→Prop} (I:Inv X pins σ H s) (hN:X.N.Nodup) (hi:X.N[i]?=some x) (hx:X.env.scope.names.lookup x=some .local)
 (h:∀ s',Inv X pins (σ.set i none) H s'→Q () s'):wpAny M A (do bindName X.env x .none; unbindBehindTheSuite X.env x pos) Q E s:=by
 refine wpAny_bind (wpAny_bindName (store_ok I hN hi (.inl hx) (v:=.non) (u:=.none) rfl (fun s1 I1=>?_) (.inr hx)))
 obtain ⟨m,hn,hl⟩:=id I1.loc
 have iL:i < σ.length:=by rw [I.len]; exact (List.getElem?_eq_some_iff.mp hi).1
 obtain ⟨u,ru,q⟩:=hl i x .non hi (List.getElem?_set_self iL) (.inl hx)
 have hk:X.env.kindOf x=some .local:=hx
 have hv:m x=some u:=by
  rcases q with ⟨_,z⟩ | ⟨z,_⟩
  · exact z
  · rw [hk] at z
    rcases z with z | z <;> cases z
 unfold unbindBehindTheSuite
 refine wpAny_onRaise (wpAny_unbindName_local hk hn hv (by rw [I.ok.kind]; rfl) fun h' u' hn' hs=>?_)
 have I2:=I1.unset hN hi hl hn' hs
 rw [List.set_set] at I2
 exact h _ I2
end
def ExcO (a C:Addr) (dd:Option Addr):HO:=.ext fun h=>∃ oe vs,h.get? a=some oe∧oe.cls=.ref C∧oe.dict=dd∧oe.data=.fields vs
abbrev Cx.held (X:Cx) (v:Value):Cx:={ X with A:=X.A.mark (some v),calm:=false,xe:=fun _ _=>False }
section
variable {X:Cx} {pins:List (Addr × Obj)} {σ:St} {H H':Hp} {s s':Shared} {v:Value}
theorem Cx.Ok.held (ok:X.Ok):(X.held v).Ok :=
 ⟨ok.mod,ok.kind,ok.glob,ok.blt,ok.above,ok.inj,ok.has,ok.cab,fun z=>(by cases z),ok.frames,ok.stk,ok.exf,ok.bs,ok.bsz,ok.noex,ok.exfs,ok.funs,ok.frf⟩
theorem Inv.held (I:Inv X pins σ H s):Inv (X.held v) pins σ H s:=⟨I.ok.held,I.os,I.bare,I.base,I.loc,I.cell,I.free,I.freeC,I.pin,I.hok,I.len⟩
theorem Inv.unheld (ok:X.Ok) (I:Inv (X.held v) pins σ H s):Inv X pins σ H s:=⟨ok,I.os,I.bare,I.base,I.loc,I.cell,I.free,I.freeC,I.pin,I.hok,I.len⟩
theorem th_step {P:Program} {w:World} {stack:List Env} {h0 h1 h2:Heap} {a T:Addr} (un:Un (frs stack) [] H H' h0 h1) (hok:HOk P w H' h1) (na:h0.get? a=none) (nT:h0.get? T=none) (fa:H' a=none) (fT:H' T=none) (ff:∀ b∈frs stack,H' b=none)
 (k:∀ b o,h1.get? b=some o→b≠a→b≠T→b ∉ frs stack→h2.get? b=some o) (sl:∀ b o,h1.get? b=some o→b∈frs stack→∃ sl,h2.get? b=some { o with slots:=sl }):Un (frs stack) [] H H' h0 h2∧HOk P w H' h2:=by
 have n1:∀ b o,h0.get? b=some o→b≠a∧b≠T:=fun b o e=>⟨fun z=>(by rw [z,na] at e; cases e),fun z=>(by rw [z,nT] at e; cases e)⟩
 refine ⟨⟨fun b o e n m _=>k b o (un.keep b o e n m (by simp)) (n1 b o e).1 (n1 b o e).2 m,fun b o e n m _=>?_,un.free,fun b o e _=>?_,un.tups,un.frzs,un.tbls⟩,fun b o e=>(hok b o e).stay (fun c u hc q=>k c u q (fun z=>?_) (fun z=>?_) fun z=>?_) (fun _ z=>z) fun _ _ z=>z⟩
 · obtain ⟨s1,q1⟩:=un.slot b o e n m (by simp)
   obtain ⟨s2,q2⟩:=sl b _ q1 m
   exact ⟨s2,q2⟩
 · obtain ⟨o1,q1⟩:=un.there b o e (by simp)
   by_cases m:b∈frs stack
   · obtain ⟨s2,q2⟩:=sl b o1 q1 m
     exact ⟨_,q2⟩
   · exact ⟨o1,k b o1 q1 (n1 b o e).1 (n1 b o e).2 m⟩
 · rcases hc with y | y
   · rw [←y,z,fa] at e; cases e
   · rw [z,fa] at y; cases y
 · rcases hc with y | y
   · rw [←y,z,fT] at e; cases e
   · rw [z,fT] at y; cases y
 · rcases hc with y | y
   · rw [←y,ff c z] at e; cases e
   · rw [ff c z] at y; cases y
end
def CalleeE (P:Program) (w:World) (K:PySem.W.Frag) (mg:Str→Option Value) (base:Heap) (x:Str) (k:Nat) (ps:List Str) (sp:Sp):Prop :=
 ∃ f fd,FnOk P w K mg base (CXE P w) k f fd ps sp∧mg x=some (.ref f)∧PySem.W.keepIn K (.ref f)=true∧Binds K fd ps []
section
variable {X:Cx} {x y:Str} {k:Nat} {ps:List Str} {sp:Sp} {e:Expr} {es:List Expr} {t:TA} {p pos:Pos} {E:XK}
theorem pe_fnE (C:CalleeE X.prog X.w X.K X.mg X.base x k ps sp) (hT:Throws X E) (hr:Room k X.A) (hg:Gl X x) (ha:PA X (e :: es) t) (hdb:(x == ("__debug__" : Str))=false:=by decide)
 (he:starEach (e :: es) X.env=(false,eval e X.env) :: starEach es X.env:=by rfl) (hpl:(backTo pos (starEach es X.env)).any (·.1)=false:=by rfl):PE X (.Call (.Name x p) (e :: es) [] pos) (tCall sp [] E t):=by
 obtain ⟨f,fd,F,hm,hk,hb⟩:=C
 exact pe_call F hr hg hm hk hb .nil hT.passes ha hdb he hpl
theorem Fun.okE {P:Program} {w:World} {K:PySem.W.Frag} {mg:Str→Option Value} {base:Heap} {qual:Str} {st:Stmt} {f:Addr} {fd:FuncData} {N:List Str} (F:Fun K x qual st f fd) (S:FnScope N ps (defScope st)) (len:∀ vs H Q E,sp vs H Q E→vs.length=ps.length)
 (hbody:∀ (cdv:Value) (A:Around) (outer:List Env) (s:Shared) (H:Hp) (vs:List V) (Q:VK) (E:XK),Room k (A.deeper (envOfC qual (defScope st) s.heap.objs.size f cdv))→sp vs H Q E →
  ∃ t,PSs (cxOf (CXE P w) P w K mg base N qual (defScope st) f cdv A outer s H E) (defBody st) t∧t { nx:=fun _ H'=>Q .non H',rt:=Q } (start N vs) H):FnOk P w K mg base (CXE P w) (k + 1) f fd ps sp:=by
 obtain ⟨oc,od,kV,doc,pm,an,cdv,ct,osl,rfl,lk,hcd⟩:=F.ex
 exact fn_of lk hcd S len fun A outer s H vs Q E hr hsp=>hbody cdv A outer s H vs Q E hr hsp
end
end L2
set_option maxRecDepth 100000
namespace PySem
open Sem (wp)
section
variable {prog:Program} {w:World} {A:Around} {E:Value→Shared→Prop} {h:Heap} {g:Array GenState} {d:Drawn} {t:Nat} {os:OsState}
variable {nm q:Str} {C N:Addr} {bs bm bmB:List Value} {hdct:Bool} {sn:List Str} {sub:List Value} {ab:Bool} {col:Option Bool} {dd:Option Addr} {k0 k1 k2 k3 k5:Option Value} {B Bn newId nid initId inN:String} {bmN:List Value}
end
section
variable {M:Model} {A:Around} {E:Value→Shared→Prop} {env:Env}
variable {nm q:Str} {C N:Addr} {bs bm:List Value} {hdct:Bool} {sn:List Str} {sub:List Value} {ab:Bool} {col:Option Bool} {dd:Option Addr} {k0 k1 k2 k3 k5:Option Value} {newId:String}
end
end PySem
set_option maxRecDepth 100000
namespace PySem.W
open PySem PySem.Calls PyProof.Rows Builtin Builtin.ObjectAttr
abbrev VEm:List Value:=[.type "ValueError",.type "Exception",.type "BaseException",.type "object"]
section
variable {prog:Program} {w:World} {A:Around} {s:Shared} {K:Frag} {x C:Addr} {R:Result→Shared→Prop}
end
end PySem.W
namespace L2
open PySem PySem.Spec PySem.Calls PyProof.Rows PySem.W
structure ExcCl (K:PySem.W.Frag) (D:Addr):Prop where
 hg:findIn K (.ref D) "__getattribute__" = some (some (.builtin "BaseException.__getattribute__"))
 hk:findIn K (.ref D) "__getattr__" = some none
 hb:mroIn K D (.type "BaseException")=some true
 hc:(clsIn K D).isSome=true
 ha:findIn K (.ref D) "__class__" = some (some (.builtin "object.__class__"))
 hn:specialIn K (.builtin "object.__class__") "__get__" = some (some (.builtin "getset_descriptor.__get__"))
 ht:takesIn K (.builtin "object.__class__")=some true
 hm:mroIn K D (.type "object")=some true
section
variable {prog:Program} {w:World} {A:Around} {E:Value→Shared→Prop} {s:Shared} {K:PySem.W.Frag} {x D:Addr} {ox:Obj} {od:Option Obj} {c:Value}
theorem x_check {nameV:Value} {Q:Unit→Shared→Prop} (k:ExcCl K D) (X:K.In s.heap) (I:InstAt s.heap x ox D od) (h:Q () s):wpAny (model prog w) A (checkBuiltinCall "BaseException.__getattribute__" ⟨[.ref x,nameV],[]⟩) Q E s:=by
 obtain ⟨hh,g,d,t,os⟩:=s
 have hk:builtinKind "BaseException.__getattribute__" = some .slot:=by decide +kernel
 have hsplit:splitId "BaseException.__getattribute__" = some ("BaseException", "__getattribute__"):=by decide +kernel
 have ha:=PySem.F.args_bexc_ga (.ref x) nameV
 have L0:=I.type (M:=model prog w)
 have LI:Looks (model prog w) hh (isInstance (.ref x) (.type "BaseException")) true:=L0.andThen (looks_mroIn (M:=model prog w) X k.hb)
 simp only [checkBuiltinCall,hk,hsplit]
 refine wpAny_bind (LI.at ?_)
 repeat (first | exact h | wp_step)
theorem x_entryC {tk:Tok} {Q:Fin→Shared→Prop} (k:ExcCl K D) (X:K.In s.heap) (I:InstAt s.heap x ox D od) (h:Q (.done (.ret (.ref D))) s):wpAny (model prog w) A (Builtin.«object.__getattribute__» ⟨[.ref x,.str "__class__" tk],[]⟩) Q E s:=by
 have hf:findObj K D od "__class__" = some (.bind (.builtin "getset_descriptor.__get__") (.builtin "object.__class__")):=by
  obtain ⟨cd,hc⟩:=Option.isSome_iff_exists.mp k.hc
  unfold findObj
  rw [hc,Option.bind_some,k.ha,Option.bind_some]
  simp [k.hn,k.ht]
 obtain ⟨hh,g,d,t,os⟩:=s
 have L0:=I.type (M:=model prog w)
 have L1:=looks_find (M:=model prog w) X I hf
 refine wpAny_bind (wpAny_pure (wpAny_bind (wpAny_pure (wpAny_bind (L0.at (wpAny_bind (L1.at ?_)))))))
 show wpAny _ _ (holding [.builtin "object.__class__"] (call (.builtin "getset_descriptor.__get__") [.builtin "object.__class__",.ref x,.ref D]) >>= ret) _ _ _
 exact wpAny_bind (wpAny_holding (wpAny_call (class_get (s:=⟨hh,g,d,t,os⟩) (ox:=ox) (od:=od) X I k.hm (wpAny_pure h))))
theorem x_class {Q:Option Value→Shared→Prop} (k:ExcCl K D) (X:K.In s.heap) (I:InstAt s.heap x ox D od) (h:Q (some (.ref D)) { s with toks:=s.toks + 1 }):wpAny (model prog w) A (getAttr? (.ref x) "__class__") Q E s:=by
 obtain ⟨hh,g,d,t,os⟩:=s
 have L0:=I.type (M:=model prog w)
 have L1:=looks_findIn (M:=model prog w) X k.hg
 have L2:=looks_findIn (M:=model prog w) X k.hk
 have f3:=PySem.F.attr_ValueError.ga.bind (.ref x)
 unfold getAttr? getAttrBy? getAttrBy
 refine wpAny_bind (wpAny_mkText (wpAny_bind (wpAny_attempt (wpAny_holding (wpAny_bind (L0.at (wpAny_bind (L1.at ?_))))))))
 have hne:(Value.builtin "BaseException.__getattribute__" == Value.builtin "object.__getattribute__")=false:=by decide +kernel
 show wpAny _ _ (if (onTheHeap (.ref D) && Value.builtin "BaseException.__getattribute__" == Value.builtin "object.__getattribute__")=true then _ else getAttrByItsOwn _ _ _ _ _ _) _ _ _
 rw [hne,Bool.and_false,if_neg (by decide)]
 unfold getAttrByItsOwn
 refine wpAny_bind (L2.at ?_)
 refine wpAny_bind (wpAny_attempt (wpAny_holding ?_))
 show wpAny _ _ (boundAndCalled _ _ _) _ _ _
 unfold boundAndCalled
 rw [f3]
 refine wpAny_bind (wpAny_pure (wpAny_call (codeAny_call_builtin PySem.F.attr_ValueError.ga.plain PySem.F.entry_bexc_ga (x_check k X I (x_entryC k X I ?_)))))
 exact wpAny_pure (wpAny_pure h)
end
end L2
namespace PySem.W
open PySem
end PySem.W
namespace L2
open PySem PySem.Spec PyProof.Rows
def XForm (K:PySem.W.Frag) (C:Addr):Prop:=∃ nm qn N bs bm hdct sn sub ab col dd k0 k1 k2 k3 k5 newId,(∀ h:Heap,K.In h→h.get? C=some (excClassObj nm qn C N bs bm hdct sn sub ab col dd k0 k1 k2 k3 k5 newId))∧(∀ Cp,subIn K C Cp=(Value.ref C :: bm).contains (.ref Cp))
theorem xform_exc {K:PySem.W.Frag} {C:Addr} {bmB:List Value} {newId:String} (q:PySem.W.excIn K C bmB newId=true):XForm K C:=by
 obtain ⟨nm,qn,N,bs,bm,hdct,sn,sub,ab,col,dd,k0,k1,k2,k3,k5,h1,_,_,_,h2⟩:=exk_obj q
 exact ⟨nm,qn,N,bs,bm,hdct,sn,sub,ab,col,dd,k0,k1,k2,k3,k5,newId,h1,h2⟩
section
variable {X:Cx} {pins:List (Addr × Obj)} {σ:St} {H:Hp} {s:Shared} {E:XK} {C fI:Addr} {fd:FuncData} {ps:List Str} {sp:Sp} {k:Nat}
end
end L2
set_option maxRecDepth 100000
namespace L2
open PySem PySem.Spec PySem.Calls PyProof.Rows PySem.W
section
variable {prog:Program} {w:World} {A:Around} {E:Value→Shared→Prop} {s:Shared} {K:PySem.W.Frag} {C:Addr} {name:Str} {v:Value}
end
section
variable {prog:Program} {w:World} {A:Around} {E:Value→Shared→Prop} {h:Heap} {g:Array GenState} {d:Drawn} {t:Nat} {os:OsState}
variable {nm q:Str} {C N e t0:Addr} {bs bm:List Value} {hdct:Bool} {sn:List Str} {sub:List Value} {ab:Bool} {col:Option Bool} {dd dx:Option Addr} {k0 k1 k2 k3 k5:Option Value} {newId:String} {rest:List Value}
end
section
variable {X:Cx} {x f:Str} {e e0 o value:Expr} {es:List Expr} {t:TA} {ta tv:TE} {np apos pos pos':Pos} {Cp:Addr}
end
end L2
namespace L2
open PySem PySem.Spec PyProof.Rows
def CForm (K:PySem.W.Frag) (C:Addr):Prop:=∃ nm qn N bs bm hdct sn sub ab col dd k0 k1 k2 k3 k5 newId,∀ h:Heap,K.In h→h.get? C=some (excClassObj nm qn C N bs bm hdct sn sub ab col dd k0 k1 k2 k3 k5 newId)∧bm.contains (.type "BaseException")=true
theorem cform_exc {K:PySem.W.Frag} {C:Addr} {n:String} (q:PySem.W.excIn K C PySem.W.VEm n=true):CForm K C:=by
 obtain ⟨nm,qn,N,bs,bm,hdct,sn,sub,ab,col,dd,k0,k1,k2,k3,k5,h1,_,_,h2,_⟩:=exk_obj q
 exact ⟨nm,qn,N,bs,bm,hdct,sn,sub,ab,col,dd,k0,k1,k2,k3,k5,_,fun h I=>⟨h1 h I,OwnTail.hasType (PySem.W.tail_of_in I h2) (by decide)⟩⟩
section
variable {X:Cx} {pins:List (Addr × Obj)} {σ:St} {H H':Hp} {s s':Shared} {v:Value}
theorem handledX {i:Nat} {x n:Str} {np hpos:Pos} {b₀:Stmt} {suite:List Stmt} {a C Cp:Addr} {dd:Option Addr} {D:Ends} {ts:TS} (I:Inv X pins σ H s) (hst:X.stack=X.env :: X.outer) (hfm:X.env.frame=some X.env.locals)
 (t:Th X.prog X.w X.stack H s H' s' a C dd) (hfly:∃ T,Fly s'.heap a T (.ref C) dd∧s.heap.get? T=none∧H' T=none) (fC:XForm X.K C) (kP:CForm X.K Cp) (hsub:subIn X.K C Cp=true)
 (hgx:Gl X x) (hmx:X.mg x=some (.ref Cp)) (hdx:(x == ("__debug__" : Str))=false) (hN:X.N.Nodup) (hi:X.N[i]?=some n) (hln:X.env.scope.names.lookup n=some .local)
 (hs:PSs (X.held (.ref a)) (b₀ :: suite) ts) (q:ts { nx:=fun σ' H'=>D.nx (σ'.set i none) H',rt:=D.rt } (σ.set i (some (.ref a))) (upd H' a (ExcO a C dd))) :
 wpAny (model X.prog X.w) X.A (noteFrame (.ref a) X.env) (fun _ s₂=>wpAny (model X.prog X.w) X.A (setFlight (.ref a) none) (fun _ s₃ =>
  wpAny (model X.prog X.w) X.A (handleBy (.ref a) X.env [.ExceptHandler (some (.Name x np)) (some n) (b₀ :: suite) hpos]) (SP X pins D) X.xe s₃) X.xe s₂) X.xe s':=by
 obtain ⟨T,fl,nT,fT⟩:=hfly
 have ff:∀ b∈frs X.stack,H' b=none:=fun b m=>by
  obtain ⟨_,o,ho,_⟩:=I.stack.mem m
  exact t.un.free b o ho (I.stkFree b m) (by simp)
 have hff:=ff_un (fun b m=>m) I.stkFree t.un I.stack
 have hfr:=I.ok.frames
 rw [hst] at hff hfr
 refine note_next hfr hff hfm fl fun h1 T1 g1=>?_
 rw [←hst] at g1
 have nT1:s.heap.get? T1=none:=by
  rcases g1.tr with z | z
  · rw [z]; exact nT
  · cases y:s.heap.get? T1 with
    | none=>rfl
    | some o=>obtain ⟨o',e⟩:=t.un.there T1 o y (by simp); rw [z] at e; cases e
 have fT1:H' T1=none:=by
  rcases g1.tr with z | z
  · rw [z]; exact fT
  · cases y:H' T1 with
    | none=>rfl
    | some o=>obtain ⟨u,e⟩:=(t.hok T1 o y).there; rw [z] at e; cases e
 obtain ⟨un1,hok1⟩:=th_step t.un t.hok t.new nT t.free fT ff g1.keep g1.slot
 refine flight_off g1.fly fun h2 fl2 k2=>?_
 obtain ⟨un2,hok2⟩:=th_step un1 hok1 t.new nT1 t.free fT1 ff (fun b o e _ z _=>k2 b o e z) (fun b o e m=>⟨o.slots,k2 b o e fun z=>by
  obtain ⟨_,o',ho,_⟩:=I.stack.mem m
  rw [z,nT1] at ho; cases ho⟩)
 obtain ⟨nm,qn,N,bs,bm,hdct,sn,sub,ab,col,ddC,k0,k1,k2',k3,k5,newC,hC,hm⟩:=fC
 obtain ⟨nm',qn',N',bs',bm',hdct',sn',sub',ab',col',dd',j0,j1,j2,j3,j5,nw',hP⟩:=kP
 have I2:Inv X pins σ H' { s' with heap:=h2 }:=I.call' (ch:=[]) t.os un2 hok2 t.bare fun b z=>absurd z (by simp)
 refine wpAny_handleBy_cons (codeAny_handlers_test (ld_glob (X:=X.held (.ref a)) I2.held hgx hmx ?_ hdx)) (by intro z; cases z)
 obtain ⟨oe,vs,oT,tts,e1,e2,_,e3,e4,e5,e6,e7,e8⟩:=id fl2
 refine match_own (hC h2 I2.kIn) (hP h2 I2.kIn).1 e1 e2 (hP h2 I2.kIn).2 (b:=true) ((hm Cp).symm.trans hsub) ?_
 refine codeAny_handlers_suite_as (flight_off (fl:=.none) fl2 fun h3 fl3 k3'=>?_)
 obtain ⟨un3,hok3⟩:=th_step un2 hok2 t.new nT1 t.free fT1 ff (fun b o e _ z _=>k3' b o e z) (fun b o e m=>⟨o.slots,k3' b o e fun z=>by
  obtain ⟨_,o',ho,_⟩:=I.stack.mem m
  rw [z,nT1] at ho; cases ho⟩)
 obtain ⟨oe3,vs3,_,_,y1,y2,y3,y4,_⟩:=id fl3
 have I3 : Inv X pins σ (upd H' a (ExcO a C dd)) { s' with heap := h3 } := by
  have nb:∀ b o,s.heap.get? b=some o→b≠a:=fun b o e z=>by rw [z,t.new] at e; cases e
  have nh:∀ b o,H' b=some o→b≠a:=fun b o e z=>by rw [z,t.free] at e; cases e
  refine I.call' (ch:=[]) t.os ⟨un3.keep,un3.slot,fun b o e n m=>?_,un3.there,fun b xs e=>?_,fun b o u e=>?_,fun b ps e=>?_⟩ (fun b o e=>?_) t.bare fun b z=>absurd z (by simp)
  · rw [upd_ne (nb b o e)]; exact un3.free b o e n m
  · have:=un3.tups b xs e
    rw [upd_ne (nh b _ this)]; exact this
  · have:=un3.frzs b o u e
    rw [upd_ne (nh b _ this)]; exact this
  · obtain ⟨more,this⟩:=un3.tbls b ps e
    exact ⟨more,by rw [upd_ne (nh b _ this)]; exact this⟩
  · by_cases z:b=a
    · subst z
      rw [upd_same] at e
      cases e
      exact ⟨⟨oe3,vs3,y1,y2,y3,y4⟩,⟨oe3,y1⟩,fun g1 g2 ⟨o,v,p1,p2⟩ k=>⟨o,v,k o p1,p2⟩⟩
    · rw [upd_ne z] at e
      exact (hok3 b o e).stay (fun _ _ _ z=>z) (fun c z=>by rw [upd_ne (nh c _ z)]; exact z) fun c xs z=>by rw [upd_ne (nh c _ z)]; exact z
 refine store_ok (X:=X.held (.ref a)) I3.held hN hi (.inl hln) (v:=.ref a) (u:=.ref a) rfl (fun s4 I4=>?_) (.inr hln)
 refine wpAny_mono (hs pins s4 _ _ _ I4 q) (fun f s5 z=>?_) fun _ _ z=>False.elim z
 cases f with
 | next =>
   obtain ⟨σ5,H5,I5,q5⟩:=z
   exact unbind_ok (I5.unheld I.ok) hN hi hln fun s6 I6=>⟨_,_,I6,q5⟩
 | brk=>obtain ⟨_,_,_,q5⟩:=z; exact False.elim q5
 | cont=>obtain ⟨_,_,_,q5⟩:=z; exact False.elim q5
 | ret u =>
   obtain ⟨v5,σ5,H5,I5,r5,q5⟩:=z
   exact unbind_ok (I5.unheld I.ok) hN hi hln fun s6 I6=>⟨v5,_,_,I6,r5,q5⟩
end
section
variable {X:Cx} {x y:Str} {k:Nat} {ps:List Str} {sp:Sp} {e:Expr} {es:List Expr} {t:TA} {p pos:Pos} {E:XK}
end
open PySem.Calls PySem.W
structure AskC (K:PySem.W.Frag) (D:Addr) (c:Value) (b:Bool):Prop where
 ty:∀ (M:Model) (h:Heap),K.In h→Looks M h (typeOf c) (.type "type")
 is:∀ (M:Model) (h:Heap),K.In h→Looks M h (isType c) true
 sub:∀ (M:Model) (h:Heap),K.In h→Looks M h (isSubtype (.ref D) c) b
section
variable {prog:Program} {w:World} {A:Around} {E:Value→Shared→Prop} {s:Shared} {K:PySem.W.Frag} {x D:Addr} {ox:Obj} {od:Option Obj} {c:Value}
theorem x_nested {b:Bool} {dep:Int} {tk:Tok} {Q:Fin→Shared→Prop} (k:ExcCl K D) (a:AskC K D c b) (X:K.In s.heap) (I:InstAt s.heap x ox D od) (hb:(Value.ref D == c)=true→b=true) (h:∀ t,Q (.done (.ret (.bool b))) { s with toks:=t }) :
 wpAny (model prog w) A (Builtin.«isinstance.nested» ⟨[.ref x,c,.int dep tk],[]⟩) Q E s:=by
 have hisD:Looks (model prog w) s.heap (isType (.ref D)) true:=by
  have hc:=k.hc
  unfold clsIn at hc
  split at hc
  · rename_i c' d' cd' sl' ho
    intro A' Q' E' s' kk q
    unfold isType loadHead
    exact wpAny_bind (wpAny_loadPart (kk _ _ (X _ _ ho)) (wpAny_pure q))
  · cases hc
 obtain ⟨h0,g,d,tt,os⟩:=s
 have L0:=I.type (M:=model prog w)
 have LI:Looks (model prog w) h0 (isInstance (.ref x) c) b:=L0.andThen (a.sub _ _ X)
 unfold Builtin.«isinstance.nested»
 refine wpAny_bind (L0.at ?_)
 by_cases q:(Value.ref D == c)=true
 · rw [if_pos q]
   have:=hb q
   subst this
   exact wpAny_bind (wpAny_rule (wpAny_bind (wpAny_pure (wpAny_pure (h tt)))))
 · rw [if_neg q]
   refine wpAny_bind ((a.ty _ _ X).at ?_)
   rw [if_pos (by decide)]
   k_delta "plainIsInstance"
   refine wpAny_bind (wpAny_bind ((a.is _ _ X).at ?_))
   simp only [Bool.not_true,Bool.false_eq_true,if_false]
   refine wpAny_bind (LI.at ?_)
   cases b with
   | true =>
     simp only [if_true]
     exact wpAny_pure (wpAny_pure (h tt))
   | false =>
     simp only [Bool.false_eq_true,if_false]
     refine wpAny_bind (x_class k X I ?_)
     refine wpAny_bind (hisD.at ?_)
     simp only [Bool.not_true,Bool.false_eq_true,if_false]
     refine wpAny_bind (wpAny_rule ?_)
     refine (a.sub _ _ X).at ?_
     first
      | exact wpAny_pure (h _)
      | exact wpAny_pure (wpAny_pure (h _))
      | exact wpAny_bind (wpAny_pure (wpAny_pure (h _)))
theorem x_isi {b:Bool} {Q:Value→Shared→Prop} (k:ExcCl K D) (a:AskC K D c b) (X:K.In s.heap) (I:InstAt s.heap x ox D od) (hb:(Value.ref D == c)=true→b=true) (h:∀ t,Q (.bool b) { s with toks:=t }):wpAny (model prog w) A (call (.builtin "isinstance") [.ref x,c]) Q E s :=
 call_isinstance (S:=fun _ R s=>(K.In s.heap∧InstAt s.heap x ox D od)∧∀ t,R (.ok (.ret (.bool b))) { s with toks:=t })
  (fun _ _ _ _ _ hs=>isinstance_outer (x_nested k a hs.1.1 hs.1.2 hb hs.2) (by intro q; cases q)) ⟨⟨X,I⟩,h⟩
end
def rIsiX (K:PySem.W.Frag):List V→Hp→VK→Prop:=fun vs H Q=>∃ (a C:Addr) (dd:Option Addr) (c:V) (u:Value) (b:Bool),vs=[.ref a,c]∧(∀ u',RelV c u'→u'=u)∧H a=some (ExcO a C dd)∧(∀ dx,dd=some dx→∃ o,H dx=some o)∧ExcCl K C∧AskC K C u b∧((Value.ref C == u)=true→b=true)∧Q (.bl b) H
theorem call_isiX {X:Cx}:CallR X (.builtin "isinstance") (rIsiX X.K):=by
 intro pins s σ H vs us Q I r h
 obtain ⟨a,C,dd,c,u,b,rfl,hu,hH,hd,kC,ka,hb,q⟩:=h
 obtain ⟨u1,u2,rfl,ru,ru2⟩:=vals2 r
 obtain rfl:u1=Value.ref a:=ru
 obtain rfl:=hu _ ru2
 obtain ⟨⟨oe,vs',e1,e2,e3,e4⟩,_,_⟩:=I.hok a _ hH
 have no:notCls oe=true:=by unfold notCls; rw [e4]
 cases dd with
 | none=>exact x_isi kC ka I.kIn (ox:=oe) (od:=none) ⟨e1,e2,no,by rw [e3]; trivial⟩ hb fun t=>⟨.bl b,H,I.tok t,rfl,q⟩
 | some dx =>
   obtain ⟨o,ho⟩:=hd dx rfl
   obtain ⟨od,hod⟩:=(I.hok dx o ho).there
   exact x_isi kC ka I.kIn (ox:=oe) (od:=some od) ⟨e1,e2,no,by rw [e3]; exact hod⟩ hb fun t=>⟨.bl b,H,I.tok t,rfl,q⟩
def clsA (K:PySem.W.Frag) (x:Str):Addr:=match PySem.W.nsIn K mainGlobals x with
 | some (some (.ref C))=>C
 | _=>0
theorem clsA_of {K:PySem.W.Frag} {x:Str} {C:Addr} (h:PySem.W.nsIn K mainGlobals x=some (some (.ref C))):clsA K x=C:=by unfold clsA; rw [h]
def askB (K:PySem.W.Frag) (C C2:Addr) (b:Bool):Bool:=(clsIn K C2).isSome && typeIn K (.ref C2) == some (.type "type") && PySem.W.subIn K (.ref C) (.ref C2) == some b
theorem ask_own {K:PySem.W.Frag} {C C2:Addr} {b:Bool} (e:askB K C C2 b=true):AskC K C (.ref C2) b:=by
 unfold askB at e
 simp only [Bool.and_eq_true,beq_iff_eq] at e
 obtain ⟨⟨e1,e2⟩,e3⟩:=e
 refine ⟨fun M h X=>looks_typeIn X e2,fun M h X=>?_,fun M h X=>looks_subIn X e3⟩
 unfold clsIn at e1
 split at e1
 · rename_i c' d' cd' sl' ho
   intro A' Q' E' s' kk q
   unfold isType loadHead
   exact wpAny_bind (wpAny_loadPart (kk _ _ (X _ _ ho)) (wpAny_pure q))
 · cases e1
theorem ask_VE {K:PySem.W.Frag} {C:Addr} {b:Bool} (e:PySem.W.subIn K (.ref C) (.type "ValueError")=some b):AskC K C (.type "ValueError") b :=
 ⟨fun M h _=>Looks.of_pure (by kernel_rfl),fun M h _=>Looks.of_pure (by kernel_rfl),fun M h X=>looks_subIn X e⟩
theorem pe_fnS {X:Cx} {x:Str} {k:Nat} {ps:List Str} {sp:Sp} {e:Expr} {es:List Expr} {t:TA} {p pos:Pos} (C:CalleeE X.prog X.w X.K X.mg X.base x k ps sp) (hr:Room k X.A) (hg:Gl X x) (ha:PA X (e :: es) t) (hdb:(x == ("__debug__" : Str))=false:=by decide)
 (he:starEach (e :: es) X.env=(false,eval e X.env) :: starEach es X.env:=by rfl) (hpl:(backTo pos (starEach es X.env)).any (·.1)=false:=by rfl):PE X (.Call (.Name x p) (e :: es) [] pos) (tCall sp [] E0 t):=by
 obtain ⟨f,fd,F,hm,hk,hb⟩:=C
 exact pe_call F hr hg hm hk hb .nil (fun _ _ _ _ _ _ _ h=>by obtain ⟨_,_,_,_,_,_,_,q⟩:=h; exact q.elim) ha hdb he hpl
theorem cls_of_mro {K:PySem.W.Frag} {C:Addr} {v:Value} {b:Bool} (h:PySem.W.mroIn K C v=some b):(PySem.W.clsIn K C).isSome=true:=by
 obtain ⟨cd,a,_⟩:=Option.bind_eq_some_iff.mp h
 rw [a]; rfl
theorem excCl_of {K:PySem.W.Frag} {C:Addr} (p:PySem.W.findIn K (.ref C) "__getattribute__" = some (some (.builtin "BaseException.__getattribute__"))) (p2:PySem.W.findIn K (.ref C) "__getattr__" = some none) (p3:PySem.W.mroIn K C (.type "BaseException")=some true) (q:PySem.W.findIn K (.ref C) "__class__" = some (some (.builtin "object.__class__"))) (hn:PySem.W.specialIn K (.builtin "object.__class__") "__get__" = some (some (.builtin "getset_descriptor.__get__"))) (ht:PySem.W.takesIn K (.builtin "object.__class__")=some true) (m:PySem.W.mroIn K C (.type "object")=some true):ExcCl K C :=
 ⟨p,p2,p3,cls_of_mro m,q,hn,ht,m⟩
theorem sub_of_mro {K:PySem.W.Frag} {C Cp:Addr} (h:PySem.W.mroIn K C (.ref Cp)=some true):L2.subIn K C Cp=true:=by
 obtain ⟨cd,a,b⟩:=Option.bind_eq_some_iff.mp h
 unfold PySem.W.clsIn at a
 unfold L2.subIn
 split at a
 · rename_i ho
   cases a
   rw [ho]
   show cd.mro.contains (.ref Cp)=true
   split at b
   · cases b
   · exact Option.some.inj b
 · cases a
theorem askB_of {K:PySem.W.Frag} {C C2:Addr} {b:Bool} (o:PySem.W.mroIn K C2 (.type "object")=some true) (t:PySem.W.typeIn K (.ref C2)=some (.type "type")) (r:PySem.W.subIn K (.ref C) (.ref C2)=some b):askB K C C2 b=true:=by
 unfold askB
 rw [cls_of_mro o,t,r]
 simp
end L2
namespace L2
open PySem PySem.Spec PyProof.Rows Ord
section
variable {X:Cx} {x y:Str} {k:Nat} {ps:List Str} {sp:Sp} {e:Expr} {es:List Expr} {t:TA} {p pos:Pos} {E:XK}
def tTryX (K:PySem.W.Frag) (Cp:Addr) (i:Nat) (sp:Sp) (t:TA) (ts:TS):TS:=fun D σ H=>t σ H fun vs H1=>sp vs H1 (fun _ H2=>D.nx σ H2) fun cls dd H2=>∃ C,cls=.ref C∧XForm K C∧subIn K C Cp=true ∧
 ∀ a,H2 a=none→ts { nx:=fun σ' H'=>D.nx (σ'.set i none) H',rt:=D.rt } (σ.set i (some (.ref a))) (upd H2 a (ExcO a C dd))
theorem ps_try_fnX {i:Nat} {n:Str} {np hpos cpos epos:Pos} {b₀:Stmt} {suite:List Stmt} {Cp:Addr} {ts:TS} (C:CalleeE X.prog X.w X.K X.mg X.base y k ps sp) (hr:Room k X.A) (hgy:Gl X y) (ha:PA X.nox (e :: es) t)
 (hst:X.stack=X.env :: X.outer) (hfm:X.env.frame=some X.env.locals) (kP:CForm X.K Cp) (hgx:Gl X x) (hmx:X.mg x=some (.ref Cp))
 (hN:X.N.Nodup) (hi:X.N[i]?=some n) (hln:X.env.scope.names.lookup n=some .local) (hs:∀ a:Addr,PSs (X.held (.ref a)) (b₀ :: suite) ts) (hdx:(x == ("__debug__" : Str))=false:=by decide) (hdy:(y == ("__debug__" : Str))=false:=by decide)
 (he:starEach (e :: es) X.env=(false,eval e X.env) :: starEach es X.env:=by rfl) (hpl:(backTo cpos (starEach es X.env)).any (·.1)=false:=by rfl) (hsw:swapsWith (.Call (.Name y p) (e :: es) [] cpos) none epos.line X.env=pure false:=by rfl) :
 PS X (.Try [.Expr (.Call (.Name y p) (e :: es) [] cpos) epos] [.ExceptHandler (some (.Name x np)) (some n) (b₀ :: suite) hpos] [] [] pos) (tTryX X.K Cp i sp t ts):=by
 intro pins s σ H D I h
 obtain ⟨f,fd,F,hm,hk,hb⟩:=C
 refine wpAny_Try_except (wpAny_execs_cons (wpAny_Expr_any ?_ I.quiet hsw))
 refine wpAny_Call_Name_kw (ld_glob I hgy hm ?_ hdy)
 refine PySem.W.callWith_K (h₀:=X.base) I.ok.mod.kin hk (wpAny_mono (ha cpos pins s σ H _ (I.wish _) h) (fun us s1 ⟨vs,H1,I1,r,q⟩=>⟨I1.kIn,?_⟩) fun _ _ z=>False.elim z) he hpl
 have I1:=I1.unwish
 have hl:us.length=ps.length:=by rw [←r.length]; exact F.len _ _ _ _ q
 have hb':=hb s1 us I1.kIn (by rw [List.append_nil]; exact hl)
 rw [List.append_nil] at hb'
 refine wpAny_call (codeAny_mono (F.run X.A X.stack s1 H1 ⟨us,[]⟩ us vs _ _ hr I1.env0 hb' r q) fun r s' hq=>?_)
 cases r with
 | error ev =>
   obtain ⟨a,C,dd,H',rfl,th,hfl,C',hc,kC,hsub,qs⟩:=hq
   cases hc
   exact handledX I1 hst hfm th hfl kC kP hsub hgx hmx hdx hN hi hln (hs a) (qs a th.free)
 | ok fl =>
   cases fl with
   | ret u =>
     obtain ⟨v,H2,I2,_,q2⟩:=I1.after hq
     exact wpAny_execs_nil (wpAny_execs_nil ⟨σ,H2,I2,q2⟩)
   | next=>exact False.elim hq
   | brk=>exact False.elim hq
   | cont=>exact False.elim hq
end
end L2
namespace L2
open PySem PySem.Spec PyProof.Rows Ord
section
variable {X:Cx}
def cutS (x:Str) (l u:Option Int):List Nat:=(x.cps.toList.drop (l.getD 0).toNat).take ((u.map Int.toNat).getD x.length - (l.getD 0).toNat)
theorem drop_min {α:Type} (xs:List α) (a:Nat):xs.drop (min a xs.length)=xs.drop a:=by
 rcases Nat.le_total a xs.length with h | h
 · rw [Nat.min_eq_left h]
 · rw [Nat.min_eq_right h,List.drop_of_length_le h,List.drop_of_length_le (Nat.le_refl _)]
theorem slice_cps (x:Str) {l u:Option Int} (hl:∀ i,l=some i→0≤i) (hu:∀ i,u=some i→0≤i):(Txt.slice x l u).cps.toList=cutS x l u:=by
 have hxl:x.cps.toList.length=x.length:=by rw [Array.length_toList]; rfl
 have e : Builtin.Str.strSliceIndices l u 1 x.length = (List.range (min ((u.map Int.toNat).getD x.length) x.length - min (l.getD 0).toNat x.length)).map (min (l.getD 0).toNat x.length + ·) := by
  rw [←sliceRange_one]
  unfold Builtin.Str.strSliceIndices
  cases l with
  | none =>
    cases u with
    | none=>simp
    | some j =>
      have:=hu j rfl
      simp only [show (1:Int) > 0 by decide,if_true,Option.getD_none,Option.map_some,Option.getD_some]
      rw [if_neg (by omega)]
      congr 1 <;> omega
  | some i =>
    have:=hl i rfl
    cases u with
    | none =>
      simp only [show (1:Int) > 0 by decide,if_true,Option.getD_none,Option.map_none,Option.getD_some]
      rw [if_neg (by omega)]
      congr 1 <;> omega
    | some j =>
      have:=hu j rfl
      simp only [show (1:Int) > 0 by decide,if_true,Option.map_some,Option.getD_some]
      rw [if_neg (by omega),if_neg (by omega)]
      congr 1 <;> omega
 have key:((Builtin.Str.strSliceIndices l u 1 x.length).filterMap (x.cps[·]?))=cutS x l u:=by
  rw [e,pick_run]
  unfold cutS
  rw [←hxl,drop_min]
  generalize (l.getD 0).toNat=a
  generalize (u.map Int.toNat).getD x.cps.toList.length=b
  rcases Nat.le_total b x.cps.toList.length with h | h
  · rw [Nat.min_eq_left h]
    rcases Nat.le_total a x.cps.toList.length with h2 | h2
    · rw [Nat.min_eq_left h2]
    · rw [List.drop_of_length_le h2,List.take_nil,List.take_nil]
  · rw [Nat.min_eq_right h]
    rcases Nat.le_total a x.cps.toList.length with h2 | h2
    · rw [Nat.min_eq_left h2,List.take_of_length_le (by rw [List.length_drop]; omega),List.take_of_length_le (by rw [List.length_drop]; omega)]
    · rw [List.drop_of_length_le h2,List.take_nil,List.take_nil]
 unfold Txt.slice
 split
 · rename_i h
   simp only [Bool.and_eq_true,beq_iff_eq] at h
   have h2:=h.2
   have hlen:(cutS x l u).length=x.length:=by
    rw [←key,e,pick_run]
    rw [e,List.length_map,List.length_range] at h2
    rw [List.length_take,List.length_drop,hxl]
    omega
   unfold cutS at hlen ⊢
   rw [List.length_take,List.length_drop,hxl] at hlen
   have ha:(l.getD 0).toNat=0∨x.length=0:=by omega
   rcases ha with ha | ha
   · rw [ha,List.drop_zero,List.take_of_length_le (by rw [hxl]; omega)]
   · have:x.cps.toList=[]:=List.length_eq_zero_iff.mp (by rw [hxl]; exact ha)
     rw [this,List.drop_nil,List.take_nil]
 · exact key
def rSlS:V→Option Int→Option Int→Hp→VK→Prop:=fun x lo hi H Q=>∃ a,x=.str a∧a.length≤sizeLine∧(∀ i,lo=some i→0≤i)∧(∀ i,hi=some i→0≤i)∧∀ z:Str,z.cps.toList=cutS a lo hi→Q (.str z) H
theorem sl_str:SlR X rSlS:=by
 intro pins s σ H x v vl vu lo hi sl Q I rx hs pl pu h
 obtain ⟨a,rfl,hz,hl,hu,q⟩:=h
 obtain ⟨t,rfl⟩:=rx
 obtain ⟨l',el,el2⟩:∃ l':Option (Int × Tok),vl=partValue l'∧l'.map (·.1)=lo:=by
  cases pl with
  | none=>exact ⟨none,rfl,rfl⟩
  | int i t=>exact ⟨some (i,t),rfl,rfl⟩
 obtain ⟨u',eu,eu2⟩:∃ u':Option (Int × Tok),vu=partValue u'∧u'.map (·.1)=hi:=by
  cases pu with
  | none=>exact ⟨none,rfl,rfl⟩
  | int i t=>exact ⟨some (i,t),rfl,rfl⟩
 subst el; subst eu; subst el2; subst eu2
 refine ⟨"str",_,F.slot_str_getitem.lookup,typeIs_str _ _ _,wpAny_getItem_str_slice (l:=l') (u:=u') (st:=none) hs rfl ?_⟩
 exact post_val_or_str ⟨Nat.le_trans (Txt.slice_le a _ _) hz,fun t' k=>⟨.str _,H,I.tok k,⟨_,rfl⟩,q _ (slice_cps a hl hu)⟩⟩
end
end L2
namespace L2
open PySem PySem.Spec PyProof.Rows Ord
structure Keeps (M:Addr→Prop) (H H':Hp):Prop where
 at_:∀ x o,H x=some o→¬ M x→H' x=some o
 ls:∀ x o,M x→H x=some o→∃ xs,o=HO.lst xs
section
variable {K:PySem.W.Frag} {M:Addr→Prop} {H H':Hp}
theorem Keeps.refl (h:∀ x o,M x→H x=some o→∃ xs,o=HO.lst xs):Keeps M H H:=⟨fun _ _ e _=>e,h⟩
theorem Keeps.set {D:Addr} {o:HO} (k:Keeps M H H') (hD:M D):Keeps M H (upd H' D o):=⟨fun x u e n=>by
 have hn:x≠D:=fun z=>n (by rw [z]; exact hD)
 rw [upd_ne hn]; exact k.at_ x u e n,k.ls⟩
theorem Keeps.one {D:Addr} {xs:List V} {o:HO} (hD:H D=some (.lst xs)):Keeps (·=D) H (upd H D o) :=
 ⟨fun x u e n=>by rw [upd_ne n]; exact e,fun x u m e=>by rw [m,hD] at e; exact ⟨xs,(Option.some.inj e).symm⟩⟩
theorem Keeps.same {H2:Hp} (k:Keeps M H H') (s:Same H' H2):Keeps M H H2:=⟨fun x o e n=>s _ _ (k.at_ x o e n),k.ls⟩
theorem Keeps.noT (k:Keeps M H H') {a:Addr} {xs:List V} (h:H a=some (.tup xs)):¬ M a:=fun m=>by
 obtain ⟨_,e⟩:=k.ls _ _ m h
 cases e
theorem Keeps.tup (k:Keeps M H H') {a:Addr} {xs:List V} (h:H a=some (.tup xs)):H' a=some (.tup xs):=k.at_ _ _ h (k.noT h)
end
theorem comp_listT {K:PySem.W.Frag} {a:Addr} {xs:List V} {k:Nat} {caps:List Nat} {g:TG} {tc:TT} {te:TE} {σ:St} {H1:Hp} {Q:Addr→Hp→Prop} (Pv:Addr→Nat→List V→Hp→Prop)
 (h0:∀ D,H1 D=none→Pv D 0 [] (upd H1 D (.lst []))) (hq:∀ D i ys H2,Pv D i ys H2→SqL K H2 a xs)
 (hs:∀ D i x ys H2 (R:VK) (R0:Hp→Prop),H1 D=none→xs[i]?=some x→Pv D i ys H2→(∀ y H6,H6 D=some (.lst ys)→ys.length < sizeLine→Pv D (i + 1) (ys++[y]) (upd H6 D (.lst (ys++[y])))→R y H6)→(∀ H5,Pv D (i + 1) ys H5→R0 H5)→g x (compSt k caps σ) H2 fun σ4 H4=>tc σ4 H4 fun b H5=>if b=true then te σ4 H5 R else R0 H5)
 (hd:∀ D ys H2,H1 D=none→Pv D xs.length ys H2→Q D H2) :
 ∀ D,H1 D=none→∃ W:Nat→Nat→List V→Hp→Prop,(∃ m,W 0 m [] (upd H1 D (.lst [])))∧∀ i m ys H2,W i m ys H2 →
  ((Itl K a).stop i H2∧Q D H2)∨((Itl K a).go i H2∧∀ x H3,(Itl K a).yld i H2 x H3→g x (compSt k caps σ) H3 fun σ4 H4=>tc σ4 H4 fun b H5 =>
   if b=true then te σ4 H5 fun y H6=>H6 D=some (.lst ys)∧ys.length < sizeLine∧∃ m',m' < m∧W (i + 1) m' (ys++[y]) (upd H6 D (.lst (ys++[y]))) else ∃ m',m' < m∧W (i + 1) m' ys H5):=by
 intro D hD
 refine ⟨fun i m ys H2=>m=xs.length - i∧i≤xs.length∧Pv D i ys H2,⟨xs.length,rfl,Nat.zero_le _,h0 D hD⟩,?_⟩
 rintro i m ys H2 ⟨rfl,hi,p⟩
 have q2:=hq D i ys H2 p
 by_cases hlt:i < xs.length
 · refine .inr ⟨⟨xs,xs[i],q2,by simp [hlt]⟩,fun x H3 y=>?_⟩
   obtain ⟨rfl,y⟩:=y
   have hx:=y xs q2
   refine hs D i x ys H3 _ _ hD hx p (fun v H6 e6 hz p6=>?_) (fun H5 p5=>?_)
   · exact ⟨e6,hz,xs.length - (i + 1),by omega,rfl,hlt,p6⟩
   · exact ⟨xs.length - (i + 1),by omega,rfl,hlt,p5⟩
 · have e:i=xs.length:=by omega
   subst e
   exact .inl ⟨⟨xs,q2,Nat.le_refl _⟩,hd D ys H2 hD p⟩
end L2
namespace L2
open PySem PySem.Spec PyProof.Rows Ord
section
variable {X:Cx}
end
abbrev rLen (K:PySem.W.Frag):List V→Hp→VK→Prop:=fun xs H Q=>∃ x n,xs=[x]∧LenV K x H n∧Q (.int n) H
section
variable {K:PySem.W.Frag} {H H':Hp} {a:Addr}
end
end L2
namespace L2
open PySem PySem.Spec PyProof.Rows Ord
section
variable {α:Type} {f:α→List V} {H H':Hp} {ts:List Addr} {rs:List α}
end
end L2
namespace L2
open PySem PySem.Spec PyProof.Rows Ord
section
variable {X:Cx}
end
def signB (c:Nat):Bool:=decide (97≤c) && decide (c≤122)
def nameB (x:Str):Bool:=decide (1≤x.length) && (decide (x.length≤8) && x.cps.toList.all signB)
def LowW (x:Str):Prop:=1≤x.length∧x.length≤8∧∀ c∈x.cps.toList,97≤c∧c≤122
end L2
namespace L2
open PySem PySem.Spec PyProof.Rows
structure AskI (K:PySem.W.Frag) (D c:Addr) (b:Bool):Prop where
 yes:b=true→PySem.W.isIn K (.ref D) c=true
 no:b=false→PySem.W.kin_not K D c=true
structure ClsI (K:PySem.W.Frag) (D:Addr):Prop where
 pg:PySem.W.plainGet K D "__class__" = true
 hd:PySem.W.hasDictIn K D=true
 fc:PySem.W.findIn K (.ref D) "__class__" = some (some (.builtin "object.__class__"))
 sp:PySem.W.specialIn K (.builtin "object.__class__") "__get__" = some (some (.builtin "getset_descriptor.__get__"))
 tk:PySem.W.takesIn K (.builtin "object.__class__")=some true
 mr:PySem.W.mroIn K D (.type "object")=some true
def rIsiI (K:PySem.W.Frag):List V→Hp→VK→Prop:=fun vs H Q=>∃ (a D dx c:Addr) (fs:List (Str × V)) (b:Bool),vs=[.ref a,.ref c]∧H a=some (.ins D dx fs)∧ClsI K D∧AskI K D c b∧Q (.bl b) H
theorem call_isiI {X:Cx}:CallR X (.builtin "isinstance") (rIsiI X.K):=by
 intro pins s σ H vs us Q I r h
 obtain ⟨a,D,dx,c,fs,b,rfl,hH,kC,ka,q⟩:=h
 obtain ⟨u1,u2,rfl,ru,ru2⟩:=vals2 r
 obtain rfl:u1=Value.ref a:=ru
 obtain rfl:u2=Value.ref c:=ru2
 obtain ⟨mA,O,_,_,_,ho⟩:=ins_get I.hok hH
 have e1:=O.obj
 cases b with
 | true =>
   refine PySem.W.isi_call (t:=.ref D) I.kIn (fun M=>?_) (ka.yes rfl) (by intro z; cases z) ⟨.bl true,H,I,rfl,q⟩
   exact show PySem.W.Looks M s.heap (typeOf (.ref a)) (PySem.W.instObj D dx).cls from (PySem.W.Looks.ld e1).andThen .now
 | false =>
   obtain ⟨od,hod⟩:∃ o,s.heap.get? dx=some o:=I.hok dx _ ho
   refine PySem.W.kin_callC (ox:=PySem.W.instObj D dx) (od:=od) I.kIn ⟨e1,rfl,rfl,hod⟩ (ka.no rfl) kC.pg kC.hd kC.fc kC.sp kC.tk kC.mr ⟨.bl false,H,I.tok _,rfl,q⟩
def CalleeN (P:Program) (w:World) (K:PySem.W.Frag) (mg:Str→Option Value) (base:Heap) (C:Addr) (k:Nat) (ps:List Str) (ds:List Value) (sp:Sp):Prop :=
 ∃ f fd,FnOk P w K mg base CX0 k f fd ps sp∧Mk K C f∧Binds K fd ps ds
theorem pe_mk {X:Cx} {C:Addr} {k:Nat} {ps:List Str} {ds:List Value} {dvs:List V} {sp:Sp} {x:Str} {p pos:Pos} {e:Expr} {es:List Expr} {t:TA} (c:CalleeN X.prog X.w X.K X.mg X.base C k ps ds sp) (hr:Room (k + 1) X.A) (hg:Gl X x) (hm:X.mg x=some (.ref C)) (hd:Vals dvs ds) (ha:PA X (e :: es) t)
 (hdb:(x == ("__debug__" : Str))=false:=by decide) (he:starEach (e :: es) X.env=(false,eval e X.env) :: starEach es X.env:=by rfl) (hpl:(backTo pos (starEach es X.env)).any (·.1)=false:=by rfl):PE X (.Call (.Name x p) (e :: es) [] pos) (tMake C sp dvs E0 t):=by
 obtain ⟨f,fd,F,M,hb⟩:=c
 exact pe_make M F hr hg hm hb hd (fun _ _ _ _ _ _ _ h=>h.elim) ha hdb he hpl
def CalleeM (P:Program) (w:World) (K:PySem.W.Frag) (mg:Str→Option Value) (base:Heap) (C:Addr) (m:Str) (k:Nat) (ps:List Str) (sp:Sp):Prop :=
 ∃ f fd,FnOk P w K mg base CX0 k f fd ps sp∧Meth K C m f∧Binds K fd ps []
structure FunD (K:PySem.W.Frag) (x qual:Str) (st:Stmt) (T:Addr) (f:Addr) (fd:FuncData):Prop where
 ex:∃ (oc:Value) (od:Option Addr) (kV doc pm:Value) (an:Option Addr) (cdv ct:Value) (osl:Array (Option Value)),
  fd=PySem.W.fnOf x qual (defArgs st) (defBody st) (defScope st) (.ref T) kV doc pm an cdv ct∧K.lookup f=some ⟨oc,od,.func fd,osl⟩∧PySem.W.codeIn K cdv qual=true
section
variable {P:Program} {w:World} {K:PySem.W.Frag} {mg:Str→Option Value} {base:Heap}
theorem FunD.ok {x qual:Str} {st:Stmt} {T f:Addr} {fd:FuncData} {N ps:List Str} {k:Nat} {sp:Sp} (F:FunD K x qual st T f fd) (S:FnScope N ps (defScope st)) (len:∀ vs H Q E,sp vs H Q E→vs.length=ps.length)
 (hbody:∀ (cdv:Value) (A:Around) (outer:List Env) (s:Shared) (H:Hp) (vs:List V) (Q:VK) (E:XK),Room k (A.deeper (envOfC qual (defScope st) s.heap.objs.size f cdv))→sp vs H Q E →
  ∃ t,PSs (cxOf CX0 P w K mg base N qual (defScope st) f cdv A outer s H E).nox (defBody st) t∧t { nx:=fun _ H'=>Q .non H',rt:=Q } (start N vs) H):FnOk P w K mg base CX0 (k + 1) f fd ps sp:=by
 obtain ⟨oc,od,kV,doc,pm,an,cdv,ct,osl,rfl,lk,hcd⟩:=F.ex
 refine fn_of lk hcd S len fun A outer s H vs Q E hr hsp=>?_
 obtain ⟨t,h,q⟩:=hbody cdv A outer s H vs Q E hr hsp
 exact ⟨t,h.nox,q⟩
theorem FunD.binds {x qual:Str} {st:Stmt} {T f:Addr} {fd:FuncData} {ps:List Str} {ds:List Value} {oT:Obj} {items:Array Value} {n:Nat} (F:FunD K x qual st T f fd) (lT:K.lookup T=some oT) (hT:oT.data=.seq items n)
 (h:∀ (kV doc pm:Value) (an:Option Addr) (cdv ct:Value) (us:List Value),(us++ds).length=ps.length→∃ k,bindArgs (PySem.W.fnOf x qual (defArgs st) (defBody st) (defScope st) (.ref T) kV doc pm an cdv ct) ⟨us,[]⟩=seqItems? (.ref T) >>= k∧k (some items)=pure (ps.zip (us++ds))):Binds K fd ps ds:=by
 obtain ⟨oc,od,kV,doc,pm,an,cdv,ct,osl,rfl,lk,hcd⟩:=F.ex
 intro s us X hl
 obtain ⟨k,h1,h2⟩:=h kV doc pm an cdv ct us hl
 exact BindsTo.of_defaults rfl (X _ _ lT) hT h1 h2
theorem funD_mk {x qual:Str} {st:Stmt} {T f:Addr} {oc:Value} {od an:Option Addr} {osl:Array (Option Value)} {kV doc pm cdv ct:Value} (l:K.lookup f=some ⟨oc,od,.func (PySem.W.fnOf x qual (defArgs st) (defBody st) (defScope st) (.ref T) kV doc pm an cdv ct),osl⟩)
 (c:PySem.W.codeIn K cdv qual=true):FunD K x qual st T f (PySem.W.fnOf x qual (defArgs st) (defBody st) (defScope st) (.ref T) kV doc pm an cdv ct):=⟨⟨oc,od,kV,doc,pm,an,cdv,ct,osl,rfl,l,c⟩⟩
end
end L2
namespace L2
open PySem PySem.Spec PyProof.Rows Ord
section
variable {C:Addr} {H0 H H':Hp} {g dx S T R:Addr} {us Gs Es ts qt:List Addr} {ss:List Sco} {gs:List (Str × Int)} {qs:List Qu}
theorem same_own {D:Addr} {o:HO} (h:Same H0 H) (hn:H0 D=none):Same H0 (upd H D o):=fun b u e=>by
 rw [upd_ne (ne_of_none e hn)]; exact h b u e
end
theorem four_le:([]:List V).length + 1 + 1 + 1 + 1≤sizeLine:=by decide
inductive Itm
 | part (r n:Str)
 | thing (r n:Str) (o:Option (List Str))
 | lett (n:Str) (o:Option (List Str))
 | elder (p:List Str)
 | all (p:List Str) (on:Bool)
 | one (r n:Str) (p:List Str)
 | ask (p:List Str)
def PthH (H:Hp) (v:V) (p:List Str):Prop:=∃ u,v=.ref u∧H u=some (.tup (p.map V.str))
def OfH (H:Hp) (v:V):Option (List Str)→Prop
 | none=>v=.non
 | some p=>PthH H v p
theorem PthH.same {H H':Hp} {v:V} {p:List Str} (e:Same H H') (h:PthH H v p):PthH H' v p:=by
 obtain ⟨u,h1,h2⟩:=h
 exact ⟨u,h1,e _ _ h2⟩
theorem OfH.same {H H':Hp} {v:V}:∀ {o:Option (List Str)},Same H H'→OfH H v o→OfH H' v o
 | none,_,h=>h
 | some _,e,h=>PthH.same e h
def ItmH (K:PySem.W.Frag) (H:Hp) (a:Addr):Itm→Prop
 | .part r n=>∃ dx l,H a=some (.ins (clsA K "Part") dx [(("reach" : Str),V.str r),(("name" : Str),V.str n),(("inner" : Str),V.ref l)])∧H l=some (.lst [])
 | .thing r n o=>∃ dx v,H a=some (.ins (clsA K "Thing") dx [(("reach" : Str),V.str r),(("name" : Str),V.str n),(("of" : Str),v)])∧OfH H v o
 | .lett n o=>∃ dx v,H a=some (.ins (clsA K "Let") dx [(("name" : Str),V.str n),(("of" : Str),v)])∧OfH H v o
 | .elder p=>∃ dx v,H a=some (.ins (clsA K "Elder") dx [(("path" : Str),v)])∧PthH H v p
 | .all p on=>∃ dx v,H a=some (.ins (clsA K "All") dx [(("path" : Str),v),(("on" : Str),V.bl on)])∧PthH H v p
 | .one r n p=>∃ dx v,H a=some (.ins (clsA K "One") dx [(("reach" : Str),V.str r),(("name" : Str),V.str n),(("path" : Str),v)])∧PthH H v p
 | .ask p=>∃ dx v,H a=some (.ins (clsA K "Ask") dx [(("path" : Str),v)])∧PthH H v p
theorem ItmH.same {K:PySem.W.Frag} {H H':Hp} {a:Addr}:∀ {it:Itm},Same H H'→ItmH K H a it→ItmH K H' a it
 | .part _ _,e,⟨dx,l,h1,h2⟩=>⟨dx,l,e _ _ h1,e _ _ h2⟩
 | .thing _ _ _,e,⟨dx,l,h1,h2⟩=>⟨dx,l,e _ _ h1,h2.same e⟩
 | .lett _ _,e,⟨dx,l,h1,h2⟩=>⟨dx,l,e _ _ h1,h2.same e⟩
 | .elder _,e,⟨dx,l,h1,h2⟩=>⟨dx,l,e _ _ h1,h2.same e⟩
 | .all _ _,e,⟨dx,l,h1,h2⟩=>⟨dx,l,e _ _ h1,h2.same e⟩
 | .one _ _ _,e,⟨dx,l,h1,h2⟩=>⟨dx,l,e _ _ h1,h2.same e⟩
 | .ask _,e,⟨dx,l,h1,h2⟩=>⟨dx,l,e _ _ h1,h2.same e⟩
theorem fresh_ins {H:Hp} {x dx:Addr} {o o':HO} (hx:H x=none) (hd:H dx=none):Same H (upd (upd H dx o) x o'):=fun b u e=>by
 rw [upd_ne (ne_of_none e hx),upd_ne (ne_of_none e hd)]; exact e
section
variable {K:PySem.W.Frag} {H0:Hp} {σ:St}
end
theorem nx_of {D:Ends} {σ:St} {H:Hp} (h:D.nx σ H):tNext D σ H:=h
def PthOk (p:List Str):Prop:=1≤p.length∧p.length≤6∧∀ x∈p,LowW x
def ItmOk:Itm→Prop
 | .part r n=>LowW r∧LowW n
 | .thing r n o=>LowW r∧LowW n∧∀ p,o=some p→PthOk p
 | .lett n o=>LowW n∧∀ p,o=some p→PthOk p
 | .elder p=>PthOk p
 | .all p _=>PthOk p
 | .one r n p=>LowW r∧LowW n∧PthOk p
 | .ask p=>PthOk p
def lowB (x:Str):Bool:=decide (1≤x.length) && (decide (x.length≤8) && x.cps.toList.all fun c=>decide (97≤c) && decide (c≤122))
theorem lowB_ok {x:Str} (h:lowB x=true):LowW x:=by
 unfold lowB at h
 simp only [Bool.and_eq_true,decide_eq_true_eq,List.all_eq_true] at h
 exact ⟨h.1,h.2.1,h.2.2⟩
theorem low_open:LowW ("open" : Str):=lowB_ok (by decide +kernel)
theorem low_own:LowW ("own" : Str):=lowB_ok (by decide +kernel)
theorem Keeps.old {M:Addr→Prop} {Ho H H':Hp} (k:Keeps M H H') (s:Same Ho H) (hM:∀ x,M x→Ho x=none):Same Ho H':=fun b o e=>k.at_ _ _ (s _ _ e) fun m=>by
 rw [hM b m] at e; cases e
end L2
namespace L2
open PySem PySem.Spec PyProof.Rows Ord
inductive Tre
 | leaf (it:Itm)
 | node (r n:Str) (ts:List Tre)
def NotPart:Itm→Prop
 | .part _ _=>False
 | _=>True
mutual
inductive TreH (K:PySem.W.Frag) (H:Hp):Addr→Tre→Prop
 | leaf {a:Addr} {it:Itm} (np:NotPart it) (h:ItmH K H a it):TreH K H a (.leaf it)
 | node {a dx l:Addr} {as:List Addr} {r n:Str} {ts:List Tre} (h:H a=some (.ins (clsA K "Part") dx [(("reach" : Str),V.str r),(("name" : Str),V.str n),(("inner" : Str),V.ref l)])) (hl:H l=some (.lst (as.map V.ref))) (t:TresH K H as ts):TreH K H a (.node r n ts)
inductive TresH (K:PySem.W.Frag) (H:Hp):List Addr→List Tre→Prop
 | nil:TresH K H [] []
 | cons {a:Addr} {t:Tre} {as:List Addr} {ts:List Tre} (h:TreH K H a t) (r:TresH K H as ts):TresH K H (a :: as) (t :: ts)
end
mutual
theorem TreH.same {K:PySem.W.Frag} {H H':Hp} (e:Same H H') {a:Addr} {t:Tre} (h:TreH K H a t):TreH K H' a t:=by
 cases h with
 | leaf np h=>exact .leaf np (h.same e)
 | node h hl t=>exact .node (e _ _ h) (e _ _ hl) (TresH.same e t)
theorem TresH.same {K:PySem.W.Frag} {H H':Hp} (e:Same H H') {as:List Addr} {ts:List Tre} (h:TresH K H as ts):TresH K H' as ts:=by
 cases h with
 | nil=>exact .nil
 | cons h t=>exact .cons (TreH.same e h) (TresH.same e t)
end
theorem TresH.len {K:PySem.W.Frag} {H:Hp}:∀ {as:List Addr} {ts:List Tre},TresH K H as ts→as.length=ts.length
 | _,_,.nil=>rfl
 | _,_,.cons _ t=>congrArg Nat.succ t.len
theorem TresH.get {K:PySem.W.Frag} {H:Hp}:∀ {as:List Addr} {ts:List Tre},TresH K H as ts→∀ {i:Nat} {a:Addr},as[i]?=some a→∃ t,ts[i]?=some t∧TreH K H a t
 | _,_,.nil,i,a,h=>by simp at h
 | _,_,.cons h t,0,a,e=>by
   cases e
   exact ⟨_,rfl,h⟩
 | _,_,.cons h t,i + 1,a,e=>by
   rw [List.getElem?_cons_succ] at e
   obtain ⟨u,h1,h2⟩:=t.get e
   exact ⟨u,by rw [List.getElem?_cons_succ]; exact h1,h2⟩
mutual
def dep:Tre→Nat
 | .leaf _=>0
 | .node _ _ ts=>depL ts + 1
def depL:List Tre→Nat
 | []=>0
 | t :: ts=>max (dep t) (depL ts)
end
mutual
def szT:Tre→Nat
 | .leaf _=>1
 | .node _ _ ts=>szL ts + 1
def szL:List Tre→Nat
 | []=>0
 | t :: ts=>szT t + szL ts
end
theorem dep_mem:∀ {ts:List Tre} {t:Tre},t∈ts→dep t≤depL ts
 | u :: ts,t,h=>by
   rw [depL]
   rcases List.mem_cons.mp h with rfl | h
   · exact Nat.le_max_left _ _
   · exact Nat.le_trans (dep_mem h) (Nat.le_max_right _ _)
mutual
def NoPart:Tre→Prop
 | .leaf it=>NotPart it
 | .node _ _ ts=>NoPartL ts
def NoPartL:List Tre→Prop
 | []=>True
 | t :: ts=>NoPart t∧NoPartL ts
end
def inn:List Tre→List Tre
 | []=>[]
 | .leaf _ :: ts=>inn ts
 | .node _ _ us :: ts=>us++inn ts
theorem szL_app:∀ ts us:List Tre,szL (ts++us)=szL ts + szL us
 | [],us=>by rw [List.nil_append,szL,Nat.zero_add]
 | t :: ts,us=>by rw [List.cons_append,szL,szL,szL_app ts us,Nat.add_assoc]
theorem depL_app:∀ ts us:List Tre,depL (ts++us)=max (depL ts) (depL us)
 | [],us=>by rw [List.nil_append,depL,Nat.zero_max]
 | t :: ts,us=>by rw [List.cons_append,depL,depL,depL_app ts us,Nat.max_assoc]
theorem szL_inn:∀ ts:List Tre,szL (inn ts) + ts.length=szL ts
 | []=>by rw [inn,szL]; rfl
 | .leaf _ :: ts=>by
   have:=szL_inn ts
   rw [inn,szL,szT,List.length_cons]; omega
 | .node _ _ vs :: ts=>by
   have:=szL_inn ts
   rw [inn,szL,szT,szL_app,List.length_cons]; omega
theorem len_szL:∀ ts:List Tre,ts.length≤szL ts:=fun ts=>by
 have:=szL_inn ts; omega
theorem szL_at:∀ {ts:List Tre} {i:Nat} {t:Tre},ts[i]?=some t→szL (ts.take i) + szT t≤szL ts
 | [],i,t,h=>by simp at h
 | u :: us,0,t,h=>by
   cases h
   rw [List.take_zero,szL,szL]; omega
 | u :: us,i + 1,t,h=>by
   rw [List.getElem?_cons_succ] at h
   have:=szL_at h
   rw [List.take_succ_cons,szL,szL]; omega
def pick (ls:List Str) (z:Int):Str:=(ls[(z % (ls.length:Int)).toNat]?).getD ""
theorem pick_get {ls:List Str} (h:1≤ls.length) (z:Int):∃ n:Nat,z % (ls.length:Int)=(n:Int)∧ls[n]?=some (pick ls z):=by
 have h0:=Int.emod_nonneg z (show (ls.length:Int)≠0 by omega)
 have h1:=Int.emod_lt_of_pos z (show (0:Int) < ls.length by omega)
 obtain ⟨n,hn⟩:=Int.eq_ofNat_of_zero_le h0
 refine ⟨n,hn,?_⟩
 unfold pick
 rw [hn,Int.toNat_natCast]
 have hl:n < ls.length:=by omega
 rw [List.getElem?_eq_getElem hl]; rfl
theorem pick_at {ls:List Str} (h:1≤ls.length) (z:Int):atI (ls.map V.str) (z % (ls.length:Int))=some (.str (pick ls z)):=by
 obtain ⟨n,e,hn⟩:=pick_get h z
 rw [e]
 exact atI_nat (by rw [List.getElem?_map,hn]; rfl)
theorem pick_mem {ls:List Str} (h:1≤ls.length) (z:Int):pick ls z∈ls:=by
 obtain ⟨n,_,hn⟩:=pick_get h z
 exact List.mem_of_getElem? hn
def RowH (H:Hp) (t:Addr):Itm→Prop
 | .part _ _=>False
 | .thing r n o=>∃ v,H t=some (.tup [.str ("thing" : Str),.str r,.str n,v])∧OfH H v o
 | .lett n o=>∃ v,H t=some (.tup [.str ("let" : Str),.str n,v])∧OfH H v o
 | .elder p=>∃ v,H t=some (.tup [.str ("elder" : Str),v])∧PthH H v p
 | .all p on=>∃ v,H t=some (.tup [.str ("all" : Str),v,.bl on])∧PthH H v p
 | .one r n p=>∃ v,H t=some (.tup [.str ("one" : Str),.str r,.str n,v])∧PthH H v p
 | .ask p=>∃ v,H t=some (.tup [.str ("ask" : Str),v])∧PthH H v p
theorem RowH.same {H H':Hp} {t:Addr}:∀ {it:Itm},Same H H'→RowH H t it→RowH H' t it
 | .part _ _,_,h=>h
 | .thing _ _ _,e,⟨v,h1,h2⟩=>⟨v,e _ _ h1,h2.same e⟩
 | .lett _ _,e,⟨v,h1,h2⟩=>⟨v,e _ _ h1,h2.same e⟩
 | .elder _,e,⟨v,h1,h2⟩=>⟨v,e _ _ h1,h2.same e⟩
 | .all _ _,e,⟨v,h1,h2⟩=>⟨v,e _ _ h1,h2.same e⟩
 | .one _ _ _,e,⟨v,h1,h2⟩=>⟨v,e _ _ h1,h2.same e⟩
 | .ask _,e,⟨v,h1,h2⟩=>⟨v,e _ _ h1,h2.same e⟩
theorem PthH.keeps {M:Addr→Prop} {H H':Hp} {v:V} {p:List Str} (k:Keeps M H H') (h:PthH H v p):PthH H' v p:=by
 obtain ⟨u,h1,h2⟩:=h
 exact ⟨u,h1,k.tup h2⟩
theorem OfH.keeps {M:Addr→Prop} {H H':Hp} {v:V}:∀ {o:Option (List Str)},Keeps M H H'→OfH H v o→OfH H' v o
 | none,_,h=>h
 | some _,k,h=>PthH.keeps k h
theorem RowH.keeps {M:Addr→Prop} {H H':Hp} {t:Addr}:∀ {it:Itm},Keeps M H H'→RowH H t it→RowH H' t it
 | .part _ _,_,h=>h
 | .thing _ _ _,e,⟨v,h1,h2⟩=>⟨v,e.tup h1,h2.keeps e⟩
 | .lett _ _,e,⟨v,h1,h2⟩=>⟨v,e.tup h1,h2.keeps e⟩
 | .elder _,e,⟨v,h1,h2⟩=>⟨v,e.tup h1,h2.keeps e⟩
 | .all _ _,e,⟨v,h1,h2⟩=>⟨v,e.tup h1,h2.keeps e⟩
 | .one _ _ _,e,⟨v,h1,h2⟩=>⟨v,e.tup h1,h2.keeps e⟩
 | .ask _,e,⟨v,h1,h2⟩=>⟨v,e.tup h1,h2.keeps e⟩
def stpI:Itm→Nat
 | .elder _=>1
 | .all _ _=>1
 | _=>0
def telI:Itm→Nat
 | .part _ _=>1
 | .thing _ _ _=>1
 | .one _ _ _=>1
 | _=>0
end L2
namespace L2
open PySem PySem.Spec PyProof.Rows Ord
section
variable {H0 H H':Hp} {g S T R:Addr} {us Gs Es ts qt:List Addr} {ss:List Sco} {gs:List (Str × Int)} {qs:List Qu}
end
end L2
namespace L2
open PySem PySem.Spec PyProof.Rows Ord
mutual
inductive RowT (H:Hp):Addr→Tre→Prop
 | leaf {t:Addr} {it:Itm} (h:RowH H t it):RowT H t (.leaf it)
 | node {t l:Addr} {as:List Addr} {r n:Str} {ts:List Tre} (h:H t=some (.tup [.str ("part" : Str),.str r,.str n,.ref l])) (hl:H l=some (.lst (as.map V.ref))) (hr:RowsT H as ts):RowT H t (.node r n ts)
inductive RowsT (H:Hp):List Addr→List Tre→Prop
 | nil:RowsT H [] []
 | cons {t:Addr} {u:Tre} {as:List Addr} {ts:List Tre} (h:RowT H t u) (r:RowsT H as ts):RowsT H (t :: as) (u :: ts)
end
mutual
theorem RowT.same {H H':Hp} (e:Same H H') {a:Addr} {t:Tre} (h:RowT H a t):RowT H' a t:=by
 cases h with
 | leaf h=>exact .leaf (h.same e)
 | node h hl t=>exact .node (e _ _ h) (e _ _ hl) (RowsT.same e t)
theorem RowsT.same {H H':Hp} (e:Same H H') {as:List Addr} {ts:List Tre} (h:RowsT H as ts):RowsT H' as ts:=by
 cases h with
 | nil=>exact .nil
 | cons h t=>exact .cons (RowT.same e h) (RowsT.same e t)
end
theorem RowsT.len {H:Hp}:∀ {as:List Addr} {ts:List Tre},RowsT H as ts→as.length=ts.length
 | _,_,.nil=>rfl
 | _,_,.cons _ t=>congrArg Nat.succ t.len
theorem RowsT.get {H:Hp}:∀ {as:List Addr} {ts:List Tre},RowsT H as ts→∀ {i:Nat} {a:Addr},as[i]?=some a→∃ t,ts[i]?=some t∧RowT H a t
 | _,_,.nil,i,a,h=>by simp at h
 | _,_,.cons h t,0,a,e=>by
   cases e
   exact ⟨_,rfl,h⟩
 | _,_,.cons h t,i + 1,a,e=>by
   rw [List.getElem?_cons_succ] at e
   obtain ⟨u,h1,h2⟩:=t.get e
   exact ⟨u,by rw [List.getElem?_cons_succ]; exact h1,h2⟩
theorem ItmH.keeps {K:PySem.W.Frag} {M:Addr→Prop} {H H':Hp} {a:Addr} {it:Itm} (k:Keeps M H H') (np:NotPart it) (h:ItmH K H a it):ItmH K H' a it:=by
 have ki:∀ {x c d:Addr} {fs:List (Str × V)},H x=some (.ins c d fs)→H' x=some (.ins c d fs):=fun {x c d fs} e=>k.at_ _ _ e fun m=>by
  obtain ⟨xs,z⟩:=k.ls _ _ m e
  cases z
 cases it with
 | part r n=>exact np.elim
 | thing r n o=>obtain ⟨dx,v,h1,h2⟩:=h; exact ⟨dx,v,ki h1,h2.keeps k⟩
 | lett n o=>obtain ⟨dx,v,h1,h2⟩:=h; exact ⟨dx,v,ki h1,h2.keeps k⟩
 | elder p=>obtain ⟨dx,v,h1,h2⟩:=h; exact ⟨dx,v,ki h1,h2.keeps k⟩
 | all p on=>obtain ⟨dx,v,h1,h2⟩:=h; exact ⟨dx,v,ki h1,h2.keeps k⟩
 | one r n p=>obtain ⟨dx,v,h1,h2⟩:=h; exact ⟨dx,v,ki h1,h2.keeps k⟩
 | ask p=>obtain ⟨dx,v,h1,h2⟩:=h; exact ⟨dx,v,ki h1,h2.keeps k⟩
mutual
inductive TreF (K:PySem.W.Frag) (F:Addr→Prop) (H:Hp):Addr→Tre→Prop
 | leaf {a:Addr} {it:Itm} (np:NotPart it) (h:ItmH K H a it):TreF K F H a (.leaf it)
 | node {a dx l:Addr} {as:List Addr} {r n:Str} {ts:List Tre} (h:H a=some (.ins (clsA K "Part") dx [(("reach" : Str),V.str r),(("name" : Str),V.str n),(("inner" : Str),V.ref l)])) (hl:H l=some (.lst (as.map V.ref))) (hF:F l) (t:TresF K F H as ts):TreF K F H a (.node r n ts)
inductive TresF (K:PySem.W.Frag) (F:Addr→Prop) (H:Hp):List Addr→List Tre→Prop
 | nil:TresF K F H [] []
 | cons {a:Addr} {t:Tre} {as:List Addr} {ts:List Tre} (h:TreF K F H a t) (r:TresF K F H as ts):TresF K F H (a :: as) (t :: ts)
end
mutual
theorem TreF.toH {K:PySem.W.Frag} {F:Addr→Prop} {H:Hp} {a:Addr} {t:Tre} (h:TreF K F H a t):TreH K H a t:=by
 cases h with
 | leaf np h=>exact .leaf np h
 | node h hl _ t=>exact .node h hl (TresF.toH t)
theorem TresF.toH {K:PySem.W.Frag} {F:Addr→Prop} {H:Hp} {as:List Addr} {ts:List Tre} (h:TresF K F H as ts):TresH K H as ts:=by
 cases h with
 | nil=>exact .nil
 | cons h t=>exact .cons (TreF.toH h) (TresF.toH t)
end
mutual
theorem TreF.keeps {K:PySem.W.Frag} {F F' M:Addr→Prop} {H H':Hp} (k:Keeps M H H') (hM:∀ x,F x→¬ M x) (hF:∀ x,F x→F' x) {a:Addr} {t:Tre} (h:TreF K F H a t):TreF K F' H' a t:=by
 cases h with
 | leaf np h=>exact .leaf np (h.keeps k np)
 | node h hl f t =>
   refine .node (k.at_ _ _ h fun m=>?_) (k.at_ _ _ hl (hM _ f)) (hF _ f) (TresF.keeps k hM hF t)
   obtain ⟨xs,z⟩:=k.ls _ _ m h
   cases z
theorem TresF.keeps {K:PySem.W.Frag} {F F' M:Addr→Prop} {H H':Hp} (k:Keeps M H H') (hM:∀ x,F x→¬ M x) (hF:∀ x,F x→F' x) {as:List Addr} {ts:List Tre} (h:TresF K F H as ts):TresF K F' H' as ts:=by
 cases h with
 | nil=>exact .nil
 | cons h t=>exact .cons (TreF.keeps k hM hF h) (TresF.keeps k hM hF t)
end
theorem Same.toKeeps {H H':Hp} (e:Same H H'):Keeps (fun _=>False) H H':=⟨fun x o h _=>e _ _ h,fun _ _ m=>m.elim⟩
theorem TresF.snoc {K:PySem.W.Frag} {F:Addr→Prop} {H:Hp} {a:Addr} {t:Tre} (h2:TreF K F H a t):∀ {as:List Addr} {ts:List Tre},TresF K F H as ts→TresF K F H (as++[a]) (ts++[t])
 | _,_,.nil=>.cons h2 .nil
 | _,_,.cons h t=>.cons h (TresF.snoc h2 t)
theorem TresF.len {K:PySem.W.Frag} {F:Addr→Prop} {H:Hp} {as:List Addr} {ts:List Tre} (h:TresF K F H as ts):as.length=ts.length:=h.toH.len
mutual
theorem TreF.live {K:PySem.W.Frag} {F:Addr→Prop} {H:Hp} {a:Addr} {t:Tre} (h:TreF K F H a t):TreF K (fun y=>F y∧H y≠none) H a t:=by
 cases h with
 | leaf np h=>exact .leaf np h
 | node h hl f t=>exact .node h hl ⟨f,by rw [hl]; intro z; cases z⟩ (TresF.live t)
theorem TresF.live {K:PySem.W.Frag} {F:Addr→Prop} {H:Hp} {as:List Addr} {ts:List Tre} (h:TresF K F H as ts):TresF K (fun y=>F y∧H y≠none) H as ts:=by
 cases h with
 | nil=>exact .nil
 | cons h t=>exact .cons (TreF.live h) (TresF.live t)
end
theorem RowH.np {H:Hp} {t:Addr}:∀ {it:Itm},RowH H t it→NotPart it
 | .part _ _,h=>h
 | .thing _ _ _,_=>trivial
 | .lett _ _,_=>trivial
 | .elder _,_=>trivial
 | .all _ _,_=>trivial
 | .one _ _ _,_=>trivial
 | .ask _,_=>trivial
theorem TresF.same {K:PySem.W.Frag} {F:Addr→Prop} {H H':Hp} (e:Same H H') {as:List Addr} {ts:List Tre} (h:TresF K F H as ts):TresF K F H' as ts:=h.keeps e.toKeeps (fun _ _ z=>z) fun _ z=>z
theorem take_snoc {α:Type} {ts:List α} {i:Nat} {t:α} (h:ts[i]?=some t):ts.take (i + 1)=ts.take i++[t]:=by rw [List.take_succ,h]; rfl
end L2
namespace L2
open PySem PySem.Spec PyProof.Rows Ord
def stpT:Tre→Nat
 | .leaf it=>stpI it
 | .node _ _ _=>0
def telT:Tre→Nat
 | .leaf it=>telI it
 | .node _ _ _=>1
def stpL:List Tre→Nat
 | []=>0
 | t :: ts=>stpT t + stpL ts
def telL:List Tre→Nat
 | []=>0
 | t :: ts=>telT t + telL ts
mutual
def RoomT:Tre→Prop
 | .leaf _=>True
 | .node _ _ ts=>stpL ts + 1≤8∧telL ts≤12∧RoomL ts
def RoomL:List Tre→Prop
 | []=>True
 | t :: ts=>RoomT t∧RoomL ts
end
end L2
namespace L2
open PySem PySem.Spec PyProof.Rows Ord
mutual
def OkT:Tre→Prop
 | .leaf it=>ItmOk it
 | .node r n ts=>LowW r∧LowW n∧OkL ts
def OkL:List Tre→Prop
 | []=>True
 | t :: ts=>OkT t∧OkL ts
end
end L2
namespace L2
open PySem PySem.Spec PyProof.Rows Ord
theorem mr_pop {X:Cx}:MtR X "list.pop" rPop:=mt_pop
theorem upd_as {o:HO} (o':HO) {H:Hp} {a:Addr} {N:Hp→Prop} (e:o=o') (h:N (upd H a o')):N (upd H a o):=e ▸ h
theorem or_cut {t u:TT} {σ:St} {H:Hp} {Q:Bool→Hp→Prop} (P:Hp→Prop) (hu:∀ H',P H'→u σ H' Q) (ht:∀ N:Hp→Prop,(∀ H',P H'→N H')→t σ H fun c H1=>if c=true then Q true H1 else N H1):tOr t u σ H Q:=ht (fun H'=>u σ H' Q) hu
theorem if_cut {c:TT} {t u:TS} {D:Ends} {σ:St} {H:Hp} (P P':Hp→Prop) (h1:∀ H',P H'→t D σ H') (h2:∀ H',P' H'→u D σ H') (hc:∀ N1 N2:Hp→Prop,(∀ H',P H'→N1 H')→(∀ H',P' H'→N2 H')→c σ H fun b H1=>if b=true then N1 H1 else N2 H1):tIfS c t u D σ H:=hc _ _ h1 h2
mutual
inductive RowF (F:Addr→Prop) (H:Hp):Addr→Tre→Prop
 | leaf {t:Addr} {it:Itm} (h:RowH H t it):RowF F H t (.leaf it)
 | node {t l:Addr} {as:List Addr} {r n:Str} {ts:List Tre} (h:H t=some (.tup [.str ("part" : Str),.str r,.str n,.ref l])) (hl:H l=some (.lst (as.map V.ref))) (hF:F l) (hr:RowsF F H as ts):RowF F H t (.node r n ts)
inductive RowsF (F:Addr→Prop) (H:Hp):List Addr→List Tre→Prop
 | nil:RowsF F H [] []
 | cons {t:Addr} {u:Tre} {as:List Addr} {ts:List Tre} (h:RowF F H t u) (r:RowsF F H as ts):RowsF F H (t :: as) (u :: ts)
end
mutual
theorem RowF.toT {F:Addr→Prop} {H:Hp} {a:Addr} {t:Tre} (h:RowF F H a t):RowT H a t:=by
 cases h with
 | leaf h=>exact .leaf h
 | node h hl _ t=>exact .node h hl (RowsF.toT t)
theorem RowsF.toT {F:Addr→Prop} {H:Hp} {as:List Addr} {ts:List Tre} (h:RowsF F H as ts):RowsT H as ts:=by
 cases h with
 | nil=>exact .nil
 | cons h t=>exact .cons (RowF.toT h) (RowsF.toT t)
end
mutual
theorem RowF.keeps {F F' M:Addr→Prop} {H H':Hp} (k:Keeps M H H') (hM:∀ x,F x→¬ M x) (hF:∀ x,H x≠none→F x→F' x) {a:Addr} {t:Tre} (h:RowF F H a t):RowF F' H' a t:=by
 cases h with
 | leaf h=>exact .leaf (h.keeps k)
 | node h hl f t=>exact .node (k.tup h) (k.at_ _ _ hl (hM _ f)) (hF _ (by rw [hl]; intro z; cases z) f) (RowsF.keeps k hM hF t)
theorem RowsF.keeps {F F' M:Addr→Prop} {H H':Hp} (k:Keeps M H H') (hM:∀ x,F x→¬ M x) (hF:∀ x,H x≠none→F x→F' x) {as:List Addr} {ts:List Tre} (h:RowsF F H as ts):RowsF F' H' as ts:=by
 cases h with
 | nil=>exact .nil
 | cons h t=>exact .cons (RowF.keeps k hM hF h) (RowsF.keeps k hM hF t)
end
theorem RowsF.snoc {F:Addr→Prop} {H:Hp} {a:Addr} {t:Tre} (h2:RowF F H a t):∀ {as:List Addr} {ts:List Tre},RowsF F H as ts→RowsF F H (as++[a]) (ts++[t])
 | _,_,.nil=>.cons h2 .nil
 | _,_,.cons h t=>.cons h (RowsF.snoc h2 t)
theorem npL_app:∀ {ts us:List Tre},NoPartL ts→NoPartL us→NoPartL (ts++us)
 | [],_,_,h=>h
 | _ :: _,_,h,g=>⟨h.1,npL_app h.2 g⟩
theorem okL_app:∀ {ts us:List Tre},OkL ts→OkL us→OkL (ts++us)
 | [],_,_,h=>h
 | _ :: _,_,h,g=>⟨h.1,okL_app h.2 g⟩
theorem rmL_app:∀ {ts us:List Tre},RoomL ts→RoomL us→RoomL (ts++us)
 | [],_,_,h=>h
 | _ :: _,_,h,g=>⟨h.1,rmL_app h.2 g⟩
theorem stpL_app:∀ ts us:List Tre,stpL (ts++us)=stpL ts + stpL us
 | [],us=>by rw [List.nil_append,stpL,Nat.zero_add]
 | t :: ts,us=>by rw [List.cons_append,stpL,stpL,stpL_app ts us,Nat.add_assoc]
theorem telL_app:∀ ts us:List Tre,telL (ts++us)=telL ts + telL us
 | [],us=>by rw [List.nil_append,telL,Nat.zero_add]
 | t :: ts,us=>by rw [List.cons_append,telL,telL,telL_app ts us,Nat.add_assoc]
def Rch (r:Str):Prop:=r=("open" : Str)∨r=("own" : Str)
theorem Rch.low {r:Str} (h:Rch r):LowW r:=by
 rcases h with rfl | rfl
 · exact low_open
 · exact low_own
def RchI:Itm→Prop
 | .part r _=>Rch r
 | .thing r _ _=>Rch r
 | .one r _ _=>Rch r
 | _=>True
mutual
def RchT:Tre→Prop
 | .leaf it=>RchI it
 | .node r _ ts=>Rch r∧RchL ts
def RchL:List Tre→Prop
 | []=>True
 | t :: ts=>RchT t∧RchL ts
end
theorem rchL_app:∀ {ts us:List Tre},RchL ts→RchL us→RchL (ts++us)
 | [],_,_,h=>h
 | _ :: _,_,h,g=>⟨h.1,rchL_app h.2 g⟩
structure FrO (k:Nat) (ts:List Tre) (a:Nat):Prop where
 np:NoPartL ts
 ok:OkL ts
 rm:RoomL ts
 st:a=stpL ts + min k 1
 a8:a≤8
 dp:depL ts + k≤30
 rc:RchL ts
theorem FrO.leaf {k a:Nat} {ts:List Tre} {it:Itm} (h:FrO k ts a) (np:NotPart it) (ok:ItmOk it) (rc:RchI it) (h8:a + stpI it≤8):FrO k (ts++[.leaf it]) (a + stpI it):=by
 obtain ⟨h1,h2,h3,h4,h5,h6,h7⟩:=h
 refine ⟨npL_app h1 ⟨np,trivial⟩,okL_app h2 ⟨ok,trivial⟩,rmL_app h3 ⟨trivial,trivial⟩,?_,h8,?_,rchL_app h7 ⟨rc,trivial⟩⟩
 · rw [stpL_app,stpL,stpL,stpT]; omega
 · rw [depL_app,depL,dep,depL]; omega
theorem FrO.node {k a a':Nat} {ts us:List Tre} {r n:Str} (h:FrO k ts a) (g:FrO (k + 1) us a') (lr:Rch r) (ln:LowW n) (h12:telL us≤12):FrO k (ts++[.node r n us]) a:=by
 obtain ⟨h1,h2,h3,h4,h5,h6,h7⟩:=h
 obtain ⟨g1,g2,g3,g4,g5,g6,g7⟩:=g
 refine ⟨npL_app h1 ⟨g1,trivial⟩,okL_app h2 ⟨⟨lr.low,ln,g2⟩,trivial⟩,rmL_app h3 ⟨⟨?_,h12,g3⟩,trivial⟩,?_,h5,?_,rchL_app h7 ⟨⟨lr,g7⟩,trivial⟩⟩
 · omega
 · rw [stpL_app,stpL,stpL,stpT]; omega
 · rw [depL_app,depL,dep,depL]; omega
inductive Ctx (H0 H:Hp) (P:Addr) (τ:Addr→Nat):Nat→List Addr→Addr→Nat→Prop
 | nil:Ctx H0 H P τ 0 [] P 0
 | cons {k sz a b:Nat} {Ts as:List Addr} {L T R p L':Addr} {ts:List Tre} {r n:Str} (c:Ctx H0 H P τ k Ts L sz) (hT:H T=some (.tup [.ref L,.ref R])) (hR:H R=some (.lst [.int (a:Int),.int (b:Int)])) (hL:H L=some (.lst ((as++[p]).map V.ref)))
  (hp:H p=some (.tup [.str ("part" : Str),.str r,.str n,.ref L'])) (tL:τ L=2 * k + 2) (tR:τ R=2 * k + 3) (hr:RowsF (fun x=>τ x=0) H as ts) (fo:FrO k ts a) (hb:b=telL ts + 1) (b12:b≤12) (lr:Rch r) (ln:LowW n) (f1:H0 L=none) (f2:H0 R=none):Ctx H0 H P τ (k + 1) (Ts++[T]) L' (sz + szL ts + 1)
theorem Ctx.len {H0 H:Hp} {P L:Addr} {τ:Addr→Nat} {k sz:Nat} {Ts:List Addr} (c:Ctx H0 H P τ k Ts L sz):Ts.length=k:=by
 induction c with
 | nil=>rfl
 | cons c _ _ _ _ _ _ _ _ _ _ _ _ _ _ ih=>rw [List.length_append,ih]; rfl
theorem Ctx.step {H0 H H':Hp} {P L:Addr} {τ τ':Addr→Nat} {k sz:Nat} {Ts:List Addr} {M:Addr→Prop} (kp:Keeps M H H') (c:Ctx H0 H P τ k Ts L sz) (hM:∀ x,M x→τ x=1∨2 * k + 2≤τ x) (ht:∀ x,H x≠none→τ x < 2 * k + 2→τ' x=τ x):Ctx H0 H' P τ' k Ts L sz:=by
 induction c with
 | nil=>exact .nil
 | @cons k sz a b Ts as L T R p L' ts r n c hT hR hL hp tL tR hr fo hb b12 lr ln f1 f2 ih =>
   have nM:∀ x,τ x < 2 * k + 4→τ x≠1→¬ M x:=fun x h1 h2 m=>by
    rcases hM x m with z | z <;> omega
   have live:∀ {x o},H x=some o→H x≠none:=fun e z=>by rw [e] at z; cases z
   refine .cons (ih (fun x m=>?_) fun x h1 h2=>ht x h1 (by omega)) (kp.tup hT) (kp.at_ _ _ hR (nM _ (by omega) (by omega))) (kp.at_ _ _ hL (nM _ (by omega) (by omega))) (kp.tup hp) ?_ ?_ (hr.keeps kp (fun x z=>nM x (by omega) (by omega)) fun x h1 h2=>?_) fo hb b12 lr ln f1 f2
   · rcases hM x m with z | z
     · exact .inl z
     · exact .inr (by omega)
   · rw [ht L (live hL) (by omega)]; exact tL
   · rw [ht R (live hR) (by omega)]; exact tR
   · show τ' x=0
     rw [ht x h1 (by omega)]; exact h2
structure Cur (H0 H:Hp) (P:Addr) (τ:Addr→Nat) (k:Nat) (Ts:List Addr) (T L R:Addr) (as:List Addr) (ts:List Tre) (a b sz:Nat):Prop where
 c:Ctx H0 H P τ k Ts L sz
 hT:H T=some (.tup [.ref L,.ref R])
 hR:H R=some (.lst [.int (a:Int),.int (b:Int)])
 hL:H L=some (.lst (as.map V.ref))
 tL:τ L=2 * k + 2
 tR:τ R=2 * k + 3
 hr:RowsF (fun x=>τ x=0) H as ts
 fo:FrO k ts a
 hb:b=telL ts
 b12:b≤12
 f1:H0 L=none
 f2:H0 R=none
theorem Cur.step {H0 H H':Hp} {P T L R:Addr} {τ:Addr→Nat} {k a b sz:Nat} {Ts as:List Addr} {ts:List Tre} {M:Addr→Prop} (kp:Keeps M H H') (c:Cur H0 H P τ k Ts T L R as ts a b sz) (hM:∀ x,M x→τ x=1):Cur H0 H' P τ k Ts T L R as ts a b sz:=by
 have nM:∀ x,τ x≠1→¬ M x:=fun x h m=>h (hM x m)
 exact ⟨c.c.step kp (fun x m=>.inl (hM x m)) fun _ _ _=>rfl,kp.tup c.hT,kp.at_ _ _ c.hR (nM _ (by rw [c.tR]; omega)),kp.at_ _ _ c.hL (nM _ (by rw [c.tL]; omega)),c.tL,c.tR,c.hr.keeps kp (fun x z=>nM x (by omega)) fun _ _ z=>z,c.fo,c.hb,c.b12,c.f1,c.f2⟩
theorem Cur.same {H0 H H':Hp} {P T L R:Addr} {τ:Addr→Nat} {k a b sz:Nat} {Ts as:List Addr} {ts:List Tre} (s:Same H H') (c:Cur H0 H P τ k Ts T L R as ts a b sz):Cur H0 H' P τ k Ts T L R as ts a b sz:=c.step s.toKeeps fun _ z=>z.elim
theorem Cur.leaf {H0 H H':Hp} {P T L R t:Addr} {τ:Addr→Nat} {k a b sz:Nat} {Ts as:List Addr} {ts:List Tre} {it:Itm} (kp:Keeps (fun x=>x=L∨x=R) H H') (c:Cur H0 H P τ k Ts T L R as ts a b sz) (hL:H' L=some (.lst ((as++[t]).map V.ref))) (hR:H' R=some (.lst [.int ((a + stpI it:Nat):Int),.int ((b + telI it:Nat):Int)]))
 (ht:RowH H t it) (ok:ItmOk it) (rc:RchI it) (h8:a + stpI it≤8) (h12:b + telI it≤12):Cur H0 H' P τ k Ts T L R (as++[t]) (ts++[.leaf it]) (a + stpI it) (b + telI it) sz:=by
 have hM:∀ x,x=L∨x=R→2 * k + 2≤τ x:=fun x m=>by
  rcases m with rfl | rfl
  · rw [c.tL]; omega
  · rw [c.tR]; omega
 refine ⟨c.c.step kp (fun x m=>.inr (hM x m)) fun _ _ _=>rfl,kp.tup c.hT,hR,hL,c.tL,c.tR,RowsF.snoc (.leaf (ht.keeps kp)) (c.hr.keeps kp (fun x z m=>by have:=hM x m; omega) fun _ _ z=>z),c.fo.leaf ht.np ok rc h8,?_,h12,c.f1,c.f2⟩
 rw [telL_app,telL,telL,telT,←c.hb]; omega
theorem Cur.pop {H0 H:Hp} {P T L R:Addr} {τ:Addr→Nat} {k a b sz:Nat} {Ts as:List Addr} {ts:List Tre} (c:Cur H0 H P τ (k + 1) Ts T L R as ts a b sz) :
 ∃ τ' Ts' T' L' R' as' ts' a' b' sz',Ts=Ts'++[T']∧Cur H0 H P τ' k Ts' T' L' R' as' ts' a' b' sz'∧sz' + szL ts'=sz + szL ts∧∀ x,τ x=1→τ' x=1:=by
 obtain ⟨c0,_,_,hL,tL,tR,hr,fo,hb,b12,f1,f2⟩:=c
 cases c0 with
 | @cons k' sz' a' b' Ts' as' L' T' R' p _ ts' r n c1 hT1 hR1 hL1 hp1 tL1 tR1 hr1 fo1 hb1 b121 lr ln f11 f21 =>
   have tau:∀ x,τ x≠2 * k + 4→(if x=L then 0 else τ x)=τ x:=fun x h=>if_neg fun z=>h (by rw [z,tL]; omega)
   refine ⟨fun x=>if x=L then 0 else τ x,Ts',T',L',R',as'++[p],ts'++[.node r n ts],a',b',sz',rfl,⟨c1.step (Same.refl _).toKeeps (fun _ z=>z.elim) fun x _ h=>tau x (by omega),hT1,hR1,hL1,(tau L' (by omega)).trans tL1,(tau R' (by omega)).trans tR1,RowsF.snoc (F:=fun x=>(if x=L then 0 else τ x)=0) (.node hp1 hL (if_pos rfl) (hr.keeps (Same.refl _).toKeeps (fun _ _ z=>z) fun x _ z=>?_)) (hr1.keeps (Same.refl _).toKeeps (fun _ _ z=>z) fun x _ z=>?_),fo1.node fo lr ln (by omega),?_,b121,f11,f21⟩,?_,fun x h=>(tau x (by omega)).trans h⟩
   · exact (tau x (by omega)).trans z
   · exact (tau x (by omega)).trans z
   · rw [telL_app,telL,telL,telT,hb1]
   · rw [szL_app,szL,szL,szT]; omega
theorem Cur.push {H0 H H':Hp} {P T L R S p N R' T':Addr} {τ:Addr→Nat} {k a b sz:Nat} {Ts as:List Addr} {ts:List Tre} {r n:Str} (kp:Keeps (fun x=>x=S∨x=L∨x=R) H H') (c:Cur H0 H P τ k Ts T L R as ts a b sz) (tS:τ S=1) (eS:H S≠none)
 (hL:H' L=some (.lst ((as++[p]).map V.ref))) (hR:H' R=some (.lst [.int (a:Int),.int ((b + 1:Nat):Int)])) (hp:H' p=some (.tup [.str ("part" : Str),.str r,.str n,.ref N])) (lr:Rch r) (ln:LowW n) (h12:b + 1≤12) (hk:k + 1≤30)
 (hN:H' N=some (.lst [])) (hR':H' R'=some (.lst [.int ((1:Nat):Int),.int ((0:Nat):Int)])) (hT':H' T'=some (.tup [.ref N,.ref R'])) (nN:H N=none) (nR:H R'=none) (hne:N≠R') (fN:H0 N=none) (fR:H0 R'=none) :
 ∃ τ',Cur H0 H' P τ' (k + 1) (Ts++[T]) T' N R' [] [] 1 0 (sz + szL ts + 1)∧τ' S=1:=by
 have hM:∀ x,x=S∨x=L∨x=R→τ x=1∨2 * k + 2≤τ x:=fun x m=>by
  rcases m with rfl | rfl | rfl
  · exact .inl tS
  · rw [c.tL]; exact .inr (by omega)
  · rw [c.tR]; exact .inr (by omega)
 have live:∀ {x o},H x=some o→H x≠none:=fun e z=>by rw [e] at z; cases z
 have tau:∀ x,H x≠none→(if x=N then 2 * (k + 1) + 2 else if x=R' then 2 * (k + 1) + 3 else τ x)=τ x:=fun x h=>by
  rw [if_neg fun z=>h (by rw [z]; exact nN),if_neg fun z=>h (by rw [z]; exact nR)]
 refine ⟨fun x=>if x=N then 2 * (k + 1) + 2 else if x=R' then 2 * (k + 1) + 3 else τ x,⟨?_,hT',hR',hN,if_pos rfl,?_,.nil,⟨trivial,trivial,trivial,?_,by omega,?_,trivial⟩,rfl,by omega,fN,fR⟩,(tau S eS).trans tS⟩
 · exact .cons (c.c.step kp hM fun x h _=>tau x h) (kp.tup c.hT) hR hL hp ((tau L (live c.hL)).trans c.tL) ((tau R (live c.hR)).trans c.tR) (c.hr.keeps kp (fun x z m=>by rcases hM x m with q | q <;> omega) fun x h z=>(tau x h).trans z) c.fo (by rw [c.hb]) h12 lr ln c.f1 c.f2
 · show (if R'=N then _ else if R'=R' then _ else τ R')=_
   rw [if_neg (Ne.symm hne),if_pos rfl]
 · rw [stpL]; omega
 · rw [depL]; omega
theorem Cur.close {H0 H:Hp} {P:Addr}:∀ {k a b sz:Nat} {T L R:Addr} {τ:Addr→Nat} {Ts as:List Addr} {ts:List Tre},Cur H0 H P τ k Ts T L R as ts a b sz →
 ∃ as ts' ,H P=some (.lst (as.map V.ref))∧RowsT H as ts'∧NoPartL ts'∧OkL ts'∧RoomL ts'∧stpL ts'≤8∧telL ts'≤12∧szL ts'=sz + szL ts∧depL ts'≤30∧RchL ts'
 | 0,_,_,_,_,_,_,_,_,_,_,c=>by
   obtain ⟨c0,_,_,hL,tL,tR,hr,fo,hb,b12,f1,f2⟩:=c
   cases c0
   exact ⟨_,_,hL,hr.toT,fo.np,fo.ok,fo.rm,by have:=fo.st; have:=fo.a8; omega,by omega,(Nat.zero_add _).symm,fo.dp,fo.rc⟩
 | k + 1,_,_,_,_,_,_,_,_,_,_,c=>by
   obtain ⟨τ',Ts',T',L',R',as',ts',a',b',sz',_,c',e,_⟩:=c.pop
   obtain ⟨as2,ts2,h1,h2,h3,h4,h5,h6,h7,h8,h9,h10⟩:=c'.close
   exact ⟨as2,ts2,h1,h2,h3,h4,h5,h6,h7,by rw [h8,e],h9,h10⟩
end L2
namespace L2
open PySem PySem.Spec PySem.Calls PyProof.Rows PySem.W
def rSplit:V→List V→Hp→VK→Prop:=fun x vs H Q=>∃ (a b:Str),x=.str a∧vs=[.str b]∧(b.length == 0)=false∧a.length≤100000∧∀ D,H D=none→Q (.ref D) (upd H D (.lst ((Txt.split a b).map V.str)))
theorem vals_of_sv:∀ (l:List (Str × Tok)),Vals ((l.map (·.1)).map V.str) (strValues l)
 | []=>.nil
 | p :: l=>.cons ⟨p.2,rfl⟩ (vals_of_sv l)
theorem mt_split {X:Cx}:MtR X "str.split" rSplit:=by
 intro pins s σ H x vs v us Q I rx rv h
 obtain ⟨a,b,rfl,rfl,hb,ha,q⟩:=h
 obtain ⟨t,rfl⟩:=rx
 obtain ⟨u,rfl,ru⟩:=vals1 rv
 obtain ⟨t2,rfl⟩:=ru
 have hs:(200000:Nat)≤sizeLine:=by decide
 have e1:=StrLaws.occ_length_le a b 0 a.length (a.length + 1)
 have hn:(Builtin.Str.partsBetween a (Builtin.Str.occurrences a b 0 a.length (a.length + 1)) b.length).length≤sizeLine:=by
  rw [length_partsBetween]; omega
 have fin:∀ (l:List (Str × Tok)) (k:Nat),l.map (·.1)=Txt.split a b→l.length≤sizeLine→EP X pins σ Q (.ref s.heap.objs.size) { s with heap:=s.heap.push { cls:=.type "list",data:=.seq (strValues l).toArray },toks:=k }:=fun l k e hz =>
  ⟨.ref s.heap.objs.size,_,I.laid (t':=k) (fun b o e=>Heap.get?_push_of_some _ e) (Nat.le_refl _) (show ObjOk X.prog X.w _ _ _ (.lst ((Txt.split a b).map V.str)) from ⟨by rw [←e,List.length_map,List.length_map]; exact hz,strValues l,0,by rw [←e]; exact vals_of_sv l,Heap.get?_push_size _ rfl⟩),rfl,q _ (I.hok.fresh (Nat.le_refl _))⟩
 cases h1:(decide (a.length < b.length) || decide (Builtin.Str.strKind a < Builtin.Str.strKind b))
 · cases hf:(Builtin.Str.occurrences a b 0 a.length (a.length + 1)).isEmpty
   · refine call_meets F.slot_str_split (typeIs_str _ _ _) F.entry_str_split (F.args_str_split_2 _ _) (meets_str_split_sep a b t t2 h1 hb hf (by omega) hn) ?_
     show wants _ _ _ { s with toks:=_,heap:=s.heap.push { cls:=.type "list",data:=.seq (strsFrom s.toks (Builtin.Str.partsBetween a (Builtin.Str.occurrences a b 0 a.length (a.length + 1)) b.length)).toArray } }
     rw [strsFrom_eq]
     have e2:=numbered_texts s.toks (Builtin.Str.partsBetween a (Builtin.Str.occurrences a b 0 a.length (a.length + 1)) b.length)
     exact fin (numbered s.toks _) _ (e2.trans ((if_neg (ne_true_of_eq_false h1)).trans (if_neg (ne_true_of_eq_false hf))).symm) (by rw [←List.length_map (f:=fun p:Str × Tok=>p.1),e2]; exact hn)
   · exact call_meets F.slot_str_split (typeIs_str _ _ _) F.entry_str_split (F.args_str_split_2 _ _) (meets_str_split_not_found a b t t2 h1 hb hf) (fin [(a,t)] s.toks ((if_neg (ne_true_of_eq_false h1)).trans (if_pos hf)).symm (show 1≤sizeLine by decide))
 · exact call_meets F.slot_str_split (typeIs_str _ _ _) F.entry_str_split (F.args_str_split_2 _ _) (meets_str_split_cannot_occur a b t t2 h1) (fin [(a,t)] s.toks (if_pos h1).symm (show 1≤sizeLine by decide))
end L2
namespace L2
open PySem PySem.Spec PyProof.Rows Ord
theorem cut_uniq {c:Nat}:∀ {a b r q:List Nat},c ∉ a→c ∉ b→a++c :: r=b++c :: q→a=b∧r=q
 | [],[],_,_,_,_,e=>⟨rfl,by injection e⟩
 | [],y :: b,_,_,_,hb,e=>by
   injection e with e1 _
   exact absurd (by rw [e1]; exact List.mem_cons_self) hb
 | x :: a,[],_,_,ha,_,e=>by
   injection e with e1 _
   exact absurd (by rw [e1]; exact List.mem_cons_self) ha
 | x :: a,y :: b,r,q,ha,hb,e=>by
   injection e with e1 e2
   obtain ⟨h1,h2⟩:=cut_uniq (fun h=>ha (List.mem_cons_of_mem _ h)) (fun h=>hb (List.mem_cons_of_mem _ h)) e2
   exact ⟨by rw [e1,h1],h2⟩
theorem join_c2 (c:Nat) (a b:Str) (r:List Str):(Str.join ⟨#[c]⟩ (a :: b :: r)).cps.toList=a.cps.toList++c :: (Str.join ⟨#[c]⟩ (b :: r)).cps.toList:=by
 rw [join_cons_cons,app_lst,app_lst]
 show a.cps.toList++[c]++_=_
 rw [List.append_assoc]; rfl
theorem join_uniq {c:Nat}:∀ {l m:List Str},l≠[]→m≠[]→(∀ x∈l,c ∉ x.cps.toList)→(∀ x∈m,c ∉ x.cps.toList)→(Str.join ⟨#[c]⟩ l).cps.toList=(Str.join ⟨#[c]⟩ m).cps.toList→l=m
 | [],_,h,_,_,_,_=>absurd rfl h
 | _,[],_,h,_,_,_=>absurd rfl h
 | [a],[b],_,_,_,_,e=>by rw [show a=b from ext_toList e]
 | [a],b :: d :: r,_,_,hl,hm,e=>by
   rw [join_c2] at e
   have e':a.cps.toList=b.cps.toList++c :: (Str.join ⟨#[c]⟩ (d :: r)).cps.toList:=e
   exact absurd (by rw [e']; simp) (hl a (by simp))
 | a :: d :: r,[b],_,_,hl,hm,e=>by
   rw [join_c2] at e
   have e':a.cps.toList++c :: (Str.join ⟨#[c]⟩ (d :: r)).cps.toList=b.cps.toList:=e
   exact absurd (by rw [←e']; simp) (hm b (by simp))
 | a :: d :: r,b :: f :: q,_,_,hl,hm,e=>by
   rw [join_c2,join_c2] at e
   obtain ⟨h1,h2⟩:=cut_uniq (hl a (by simp)) (hm b (by simp)) e
   have ih:=join_uniq (c:=c) (l:=d :: r) (m:=f :: q) (by simp) (by simp) (fun x hx=>hl x (List.mem_cons_of_mem _ hx)) (fun x hx=>hm x (List.mem_cons_of_mem _ hx)) h2
   rw [ext_toList h1,ih]
theorem split_ne (x y:Str):Txt.split x y≠[]:=by
 unfold Txt.split
 split
 · simp
 · split
   · simp
   · rw [StrLaws.partsBetween_eq]
     obtain ⟨p,r,e⟩:=StrLaws.partsFrom_ne x y.length 0 (Builtin.Str.occurrences x y 0 x.length (x.length + 1))
     rw [e]; simp
theorem split_join {c:Nat} {ws:List Str} (h:ws≠[]) (hf:∀ x∈ws,c ∉ x.cps.toList):Txt.split (Txt.join ⟨#[c]⟩ ws) ⟨#[c]⟩=ws:=by
 have e:Txt.join ⟨#[c]⟩ ws=Str.join ⟨#[c]⟩ ws:=StrLaws.glued_eq_join _ _
 rw [e]
 exact join_uniq (split_ne _ _) h (StrLaws.split_free _ c) hf (by rw [StrLaws.join_split])
theorem join_len {c:Nat}:∀ (ws:List Str),(∀ x∈ws,x.length≤8)→(Str.join ⟨#[c]⟩ ws).length≤9 * ws.length
 | [],_=>Nat.le_refl _
 | [a],h=>by have:=h a (by simp); show a.length≤9 * 1; omega
 | a :: b :: r,h=>by
   have h1:=h a (by simp)
   have h2:=join_len (c:=c) (b :: r) fun x hx=>h x (List.mem_cons_of_mem _ hx)
   have e:=congrArg List.length (join_c2 c a b r)
   rw [List.length_append,List.length_cons] at e
   have z:∀ s:Str,s.cps.toList.length=s.length:=fun s=>by simp [Str.length]
   rw [z,z,z] at e
   rw [List.length_cons]
   omega
theorem blank_is:(" " : Str)=⟨#[32]⟩:=by decide +kernel
theorem split_blank {ws:List Str} (h:ws≠[]) (hf:∀ x∈ws,32 ∉ x.cps.toList):Txt.split (Txt.join (" " : Str) ws) (" " : Str)=ws:=by
 rw [blank_is]; exact split_join h hf
def btw (sg:Str):List (List Str)→List Str
 | []=>[]
 | [g]=>g
 | g :: h :: r=>g++sg :: btw sg (h :: r)
theorem btw_snoc {sg:Str} {g:List Str}:∀ {gs:List (List Str)},gs≠[]→btw sg (gs++[g])=btw sg gs++[sg]++g
 | [],h=>absurd rfl h
 | [a],_=>by show a++sg :: g=_; simp [btw]
 | a :: b :: r,_=>by
   have:=btw_snoc (sg:=sg) (g:=g) (gs:=b :: r) (by simp)
   show a++sg :: btw sg (b :: r++[g])=_
   rw [this]
   simp [btw]
theorem btw_take {sg:Str} {ws:List (List Str)} {i:Nat} {g:List Str} (h:ws[i]?=some g):btw sg (ws.take (i + 1))=(if i=0 then [] else btw sg (ws.take i)++[sg])++g:=by
 rw [List.take_succ,h]
 have hi:i < ws.length:=(List.getElem?_eq_some_iff.mp h).1
 by_cases h0:i=0
 · subst h0
   rw [if_pos rfl,List.take_zero]; rfl
 · rw [if_neg h0]
   exact btw_snoc (g:=g) (fun z=>by have:=congrArg List.length z; rw [List.length_take,List.length_nil] at this; omega)
theorem btw_len {sg:Str} {m:Nat}:∀ {gs:List (List Str)},(∀ g∈gs,g.length≤m)→(btw sg gs).length≤gs.length * (m + 1)
 | [],_=>Nat.zero_le _
 | [a],h=>by have:=h a (by simp); show a.length≤1 * (m + 1); omega
 | a :: b :: r,h=>by
   have h1:=h a (by simp)
   have h2:=btw_len (sg:=sg) (gs:=b :: r) fun g hg=>h g (List.mem_cons_of_mem _ hg)
   show (a++sg :: btw sg (b :: r)).length≤_
   rw [List.length_append,List.length_cons]
   rw [show (a :: b :: r).length=(b :: r).length + 1 from rfl,Nat.succ_mul]
   omega
structure Wds (H:Hp) (us:List Addr) (ws:List (List Str)):Prop where
 len:us.length=ws.length
 at_:∀ (n:Nat) (u:Addr) (g:List Str),us[n]?=some u→ws[n]?=some g→H u=some (.lst (g.map V.str))
theorem Wds.nil {H:Hp}:Wds H [] []:=⟨rfl,fun n u g h=>by simp at h⟩
theorem Wds.same {H H':Hp} {us:List Addr} {ws:List (List Str)} (e:Same H H') (h:Wds H us ws):Wds H' us ws:=⟨h.len,fun n u g a b=>e _ _ (h.at_ n u g a b)⟩
theorem Wds.upd {H:Hp} {D:Addr} {o:HO} {us:List Addr} {ws:List (List Str)} (h:Wds H us ws) (hn:∀ u∈us,u≠D):Wds (upd H D o) us ws:=⟨h.len,fun n u g a b=>by rw [upd_ne (hn u (List.mem_of_getElem? a))]; exact h.at_ n u g a b⟩
theorem Wds.snoc {H:Hp} {u:Addr} {us:List Addr} {ws:List (List Str)} {g:List Str} (h:Wds H us ws) (e:H u=some (.lst (g.map V.str))):Wds H (us++[u]) (ws++[g]):=by
 refine ⟨by rw [List.length_append,List.length_append,h.len]; rfl,fun n v q h1 h2=>?_⟩
 rcases Nat.lt_or_ge n us.length with hlt | hge
 · rw [List.getElem?_append_left hlt] at h1
   rw [List.getElem?_append_left (by rw [←h.len]; exact hlt)] at h2
   exact h.at_ n v q h1 h2
 · have hn1:n < (us++[u]).length:=(List.getElem?_eq_some_iff.mp h1).1
   rw [List.length_append,List.length_singleton] at hn1
   have e':n=us.length:=by omega
   subst e'
   rw [List.getElem?_append_right (Nat.le_refl _),Nat.sub_self] at h1
   rw [List.getElem?_append_right (by rw [h.len]; exact Nat.le_refl _),h.len,Nat.sub_self] at h2
   cases h1; cases h2
   exact e
end L2
namespace L2
open PySem PySem.Spec PyProof.Rows
def Ite (K:PySem.W.Frag) (l:Addr):It :=
 ⟨fun i H=>∃ xs x,SqL K H l xs∧xs[i]?=some x,
  fun i H v H'=>∃ T x,H T=none∧v=.ref T∧H'=upd H T (.tup [.int i,x])∧∀ xs,SqL K H l xs→xs[i]?=some x,
  fun i H=>∃ xs,SqL K H l xs∧xs.length≤i⟩
def EnumSt (e it l:Addr) (i:Nat) (h:Heap):Prop:=(∃ old,IsEnum h e it i old)∧h.IsListIter it l i
theorem turn_enum {P:Program} {w:World} {K:PySem.W.Frag} {es:List Expr} {k:Nat} {pos:Pos} {e it l:Addr} (hei:e≠it) :
 Turn P w K (.Tuple es k pos) (Ite K l) [e,it] e (EnumSt e it l) where
 mem:=by simp
 obj:=fun i h st b hb=>by
  obtain ⟨⟨old,he⟩,⟨o1,e1,c1,d1⟩⟩:=st
  simp at hb
  rcases hb with rfl | rfl
  · exact ⟨_,he,fun v q=>by cases q⟩
  · exact ⟨_,e1,fun v q=>by rw [d1] at q; cases q⟩
 keep:=fun i h h' st kk=>by
  obtain ⟨⟨old,he⟩,h1⟩:=st
  exact ⟨⟨old,kk e (by simp) _ he⟩,h1.at fun o x=>kk it (by simp) o x⟩
 item := by
  intro X hP hw hK hc i pins s σ H E I hf st hg
  subst hP hw hK
  obtain ⟨xs,x,hq1,hx⟩:=hg
  obtain ⟨⟨old,he⟩,h1⟩:=st
  obtain ⟨its1,rv1,p1,hz1⟩:=I.list hq1
  obtain ⟨u1,hu1,ru1⟩:=rv1.get hx
  refine wpAny_pyNext_enum_item he h1 p1.isList (x:=u1) (by simpa using hu1) hei fun h' a1 a2 a3 a4 hk=>?_
  refine ⟨_,rfl,wpAny_letOwnedTupleGo_enum (s:={ s with heap:=h',toks:=s.toks + 1 }) a1 fun h'' hz'' hs''=>?_⟩
  have fe:=hf e (by simp)
  have fi:=hf it (by simp)
  have trk:∀ b u,H b=some u→b≠e∧b≠it:=fun b u z=>⟨ne_of_none z fe.1,ne_of_none z fi.1⟩
  have keep:∀ b o,b≠e→b≠it→s.heap.get? b=some o→h''.get? b=some o:=fun b o n1 n2 z=>(hs''.2 b n1).trans (hk b o n1 n2 z)
  have nch:∀ {b:Addr},b ∉ [e,it]→b≠e∧b≠it:=fun {b} hb=>by simpa using hb
  have I1:Inv X pins σ H { s with heap:=h'',toks:=s.toks + 1 }:=by
   refine I.step (g':=s.gens) (t':=s.toks + 1) (d':=s.drawn) (h':=h'') (ch:=[e,it]) (fun b hb=>?_) (fun b ob _ _ hb z _=>keep b ob (nch hb).1 (nch hb).2 z) (fun b ob _ _ hb z _=>⟨ob.slots,keep b ob (nch hb).1 (nch hb).2 z⟩)
    (fun _ _ _ _ n=>n) (fun b ob hb z=>⟨ob,keep b ob (nch hb).1 (nch hb).2 z⟩) (fun _ _ z=>z) (fun _ _ _ z=>z) (fun b ps z=>⟨#[],by rw [z]; simp⟩) (fun m hm=>?_) (fun b u z=>?_) I.bare
   · have:b=e∨b=it:=by simpa using hb
     rcases this with rfl | rfl
     · exact ⟨fe.2.2.2.1,fe.2.1,fe.2.2.2.2.1,fe.2.2.2.2.2⟩
     · exact ⟨fi.2.2.2.1,fi.2.1,fi.2.2.2.2.1,fi.2.2.2.2.2⟩
   · obtain ⟨o,es,ep,ho,r⟩:=hm
     exact ⟨o,es,ep,keep _ o (Ne.symm fe.2.1) (Ne.symm fi.2.1) ho,r⟩
   · refine (I.hok b u z).stay (fun c v hc q=>?_) (fun _ q=>q) fun _ _ q=>q
     have hc':∃ u',H c=some u':=by
      rcases hc with rfl | hc
      · exact ⟨_,z⟩
      · exact ⟨_,hc⟩
     obtain ⟨u',e'⟩:=hc'
     obtain ⟨n1,n2⟩:=trk c u' e'
     exact keep c v n1 n2 q
  have hTz:s.heap.objs.size≠e:=Nat.ne_of_gt (Heap.lt_size he)
  have hT0:H s.heap.objs.size=none:=I.hok.fresh (Nat.le_refl _)
  have hTget:h''.get? s.heap.objs.size=some { cls:=.type "tuple",data:=.seq #[.int i s.toks,u1] }:=(hs''.2 _ hTz).trans a3
  have I2:Inv X pins σ (upd H s.heap.objs.size (.tup [.int i,x])) { s with heap:=h'',toks:=s.toks + 1 }:=by
   refine I1.track (I.fpOk (Nat.le_refl _) hT0) ⟨_,hTget⟩ ?_
   exact ⟨by show 2≤sizeLine; decide,[.int i s.toks,u1],.cons ⟨_,rfl⟩ (.cons ru1 .nil),⟨_,hTget,rfl,_,rfl⟩⟩
  refine ⟨.ref s.heap.objs.size,_,I2,rfl,⟨s.heap.objs.size,x,hT0,rfl,rfl,fun zs hzs=>by rw [I.list_inj hzs hq1]; exact hx⟩,?_,fun b hb=>?_⟩
  · refine ⟨⟨u1,by simpa using hz''⟩,a2.extBut hs''.extBut (Ne.symm hei)⟩
  · have hb':=(hf b hb).1
    rw [upd_ne (fun q=>?_)]
    · exact hb'
    · have hb2:b=e∨b=it:=by simpa using hb
      obtain ⟨o1,e1,_⟩:=h1
      have lt:b < s.heap.objs.size:=by
       rcases hb2 with rfl | rfl
       · exact Heap.lt_size he
       · exact Heap.lt_size e1
      rw [q] at lt
      exact absurd lt (Nat.lt_irrefl _)
 done:=by
  intro X hP hw hK hc i pins s σ H E I hf st hg
  subst hP hw hK
  obtain ⟨xs,hq1,hend⟩:=hg
  obtain ⟨⟨old,he⟩,h1⟩:=st
  obtain ⟨its1,rv1,p1,hz1⟩:=I.list hq1
  have l1':=rv1.length
  obtain ⟨f0,f1,f2,f3,f4,f5⟩:=hf it (by simp)
  exact wpAny_pyNext_enum_end (I.ok.hd hc) he h1 p1.isList (by simp; omega) fun h' eb=>⟨rfl,I.turned (t':=s.toks) (fun b o hb z=>eb b o hb z) f0 f1 f3 f4 f5⟩
 self:=fun _ _ _ _ _ st h=>by
  obtain ⟨⟨old,he⟩,_⟩:=st
  exact wpAny_pyIter_enum he h
def iEnum (K:PySem.W.Frag) (ta:TA):TI:=fun σ H R=>ta σ H fun vs H1=>∃ l,vs=[.ref l]∧(∃ xs,H1 l=some (.lst xs))∧R (Ite K l) H1
theorem pi_enum {X:Cx} {es:List Expr} {k:Nat} {tpos:Pos} {a:Expr} {ta:TA} {p pos:Pos} (hg:Gl X "enumerate") (hm:X.mg "enumerate" = none) (ha:PA X [a] ta) (hs:starEach [a] X.env=[(false,eval a X.env)]:=by rfl) :
 PI X (.Tuple es k tpos) (.Call (.Name "enumerate" p) [a] [] pos) (iEnum X.K ta):=by
 intro pins s σ H R I h
 refine Call_ (ld_blt I hg hm (u:=.type "enumerate") (by decide +kernel) (PyProof.Rows.callWith_type1 (thn (ha pos pins s σ H _ I h) fun us s1 ⟨vs,H1,I1,r1,q1⟩=>?_) (by rw [hs]; rfl) (by rfl)))
 obtain ⟨l,rfl,⟨xs,hq⟩,q⟩:=q1
 obtain ⟨u1,rfl,ru1⟩:=vals1 r1
 obtain rfl:u1=Value.ref l:=ru1
 obtain ⟨z,its,n,rv,e⟩:=I1.hok l _ hq
 have a1:l < s1.heap.objs.size:=Heap.lt_size e
 refine call_enumerate_1 e fun h' he hi hsz hk=>?_
 refine wpAny_pyIter_enum (s:={ s1 with heap:=h' }) he ?_
 refine ⟨_,[s1.heap.objs.size + 1,s1.heap.objs.size],_,_,H1,rfl,I1.kept (t':=s1.toks) hk,turn_enum (Nat.succ_ne_self _),⟨⟨_,he⟩,hi⟩,fun b hb=>?_,q⟩
 have hb':s1.heap.objs.size≤b:=by
  have hb2:b=s1.heap.objs.size + 1∨b=s1.heap.objs.size:=by simpa using hb
  rcases hb2 with rfl | rfl
  · exact Nat.le_add_right _ _
  · exact Nat.le_refl _
 exact I1.fpOk hb' (I1.hok.fresh hb')
theorem for_enum {K:PySem.W.Frag} {l:Addr} {xs:List V} {g:TG} {tb:TS} {D:Ends} {σ:St} {H:Hp} (Pv:Nat→St→Hp→Prop) (h0:Pv 0 σ H) (hl:∀ i σ H,Pv i σ H→SqL K H l xs)
 (hs:∀ i x T σ H,xs[i]?=some x→H T=none→Pv i σ H→g (.ref T) σ (upd H T (.tup [.int i,x])) fun σ2 H2=>tb { D with nx:=Pv (i + 1),ct:=Pv (i + 1),bk:=D.nx } σ2 H2) (hd:∀ σ H,Pv xs.length σ H→D.nx σ H) :
 ∃ W:Nat→Nat→St→Hp→Prop,(∃ m,W 0 m σ H)∧∀ i m σ H,W i m σ H →
  ((Ite K l).stop i H∧D.nx σ H)∨((Ite K l).go i H∧∃ N:St→Hp→Prop,(∀ σ' H',N σ' H'→∃ m',m' < m∧W (i + 1) m' σ' H')∧∀ x H',(Ite K l).yld i H x H'→g x σ H' fun σ2 H2=>tb { D with nx:=N,ct:=N,bk:=D.nx } σ2 H2):=by
 refine ⟨fun i m σ H=>m=xs.length - i∧i≤xs.length∧Pv i σ H,⟨_,rfl,Nat.zero_le _,h0⟩,?_⟩
 rintro i m σ H ⟨rfl,hi,p⟩
 have q1:=hl i σ H p
 by_cases hlt:i < xs.length
 · refine .inr ⟨⟨xs,xs[i],q1,by simp [hlt]⟩,Pv (i + 1),fun σ' H' p'=>⟨xs.length - (i + 1),by omega,rfl,hlt,p'⟩,fun v H' y=>?_⟩
   obtain ⟨T,x,hT,rfl,rfl,e1⟩:=y
   exact hs i x T σ H (e1 xs q1) hT p
 · have e:i=xs.length:=by omega
   refine .inl ⟨⟨xs,q1,by omega⟩,?_⟩
   rw [e] at p
   exact hd σ H p
end L2
namespace L2
open PySem PySem.Spec PySem.Calls PyProof.Rows PySem.W Ord
theorem pe_mth0 {X:Cx} {C:Addr} {m:Str} {k:Nat} {ps:List Str} {sp:Sp} {pl:Sem Bool} {o:Expr} {apos pos:Pos} {ta:TE} (c:CalleeM X.prog X.w X.K X.mg X.base C m k ps sp) (cl:Cls X.K C) (hr:Room k X.A) (he:PE X o ta)
 (ht:eval (.Call (.Attribute o m apos) [] [] pos) X.env=(do
  let ov ←eval o X.env
  standAt apos.atName
  let (f,first) ←holding [ov] (getMethod ov m pl)
  callWith pos f first (backTo pos (starEach [] X.env)) (backToKw pos (keywordEach [] X.env))):=by rfl):PE X (.Call (.Attribute o m apos) [] [] pos) (tMeth C m sp [] E0 ta tNil):=by
 obtain ⟨f,fd,F,M,hb⟩:=c
 exact pe_meth0 he cl M F hr hb .nil (fun _ _ _ _ _ _ _ h=>h.elim) ht
def rJoinT (K:PySem.W.Frag):V→List V→Hp→VK→Prop:=fun x vs H Q=>∃ sep a xs,x=.str sep∧vs=[.ref a]∧SqT K H a (xs.map V.str)∧JoinOk sep xs=true∧Q (.str (Txt.join sep xs)) H
theorem mt_joinT {X:Cx}:MtR X "str.join" (rJoinT X.K):=by
 intro pins s σ H x vs v us Q I rx rv h
 obtain ⟨sep,a,xs,rfl,rfl,hq,hok,q⟩:=h
 obtain ⟨t,rfl⟩:=rx
 obtain ⟨u,rfl,ru⟩:=vals1 rv
 obtain rfl:u=Value.ref a:=ru
 obtain ⟨its,r,p,hz⟩:=I.tuple hq
 obtain ⟨l,rfl,hl⟩:=vals_strs r
 subst hl
 unfold JoinOk at hok
 rw [Bool.not_eq_true'] at hok
 obtain ⟨o,ho,hc,n,hd⟩:=p
 exact call_meets F.slot_str_join (typeIs_str _ _ _) F.entry_str_join (F.args_str_join_2 _ _) (meets_str_join_tuple sep t a l hok) ⟨⟨o,n,ho,hc,hd⟩,post_join l ⟨joinFit_length hok,fun t' k=>⟨.str _,H,I.tok k,⟨t',rfl⟩,q⟩⟩⟩
theorem dot_is:("." : Str)=⟨#[46]⟩:=by decide +kernel
abbrev dotW (p:List Str):Str:=Txt.join ("." : Str) p
def ofW:Option (List Str)→List Str
 | none=>[]
 | some p=>[("of" : Str),dotW p]
def wrdI:Itm→List Str
 | .part r n=>[("part" : Str),r,n,("(" : Str),(")" : Str)]
 | .thing r n o=>[("thing" : Str),r,n]++ofW o
 | .lett n o=>[("let" : Str),n]++ofW o
 | .elder p=>[("elder" : Str),dotW p]
 | .all p on=>(if on then [("all" : Str),("on" : Str)] else [("all" : Str)])++[dotW p]
 | .one r n p=>[("one" : Str),r,n,("from" : Str),dotW p]
 | .ask p=>[("ask" : Str),dotW p]
mutual
def wrdT:Tre→List Str
 | .leaf it=>wrdI it
 | .node r n ts=>[("part" : Str),r,n,("(" : Str)]++wrdL ts++[(")" : Str)]
def wrdL:List Tre→List Str
 | []=>[]
 | t :: ts=>wrdT t++tlW ts
def tlW:List Tre→List Str
 | []=>[]
 | t :: ts=>(";" : Str) :: (wrdT t++tlW ts)
end
theorem wrdL_btw:∀ ts:List Tre,wrdL ts=btw (";" : Str) (ts.map wrdT)
 | []=>by rw [wrdL]; rfl
 | [t]=>by rw [wrdL,tlW,List.append_nil]; rfl
 | t :: u :: ts=>by
   have e:=wrdL_btw (u :: ts)
   rw [wrdL] at e
   rw [wrdL,tlW,e]
   show _=btw (";" : Str) (wrdT t :: wrdT u :: ts.map wrdT)
   rw [btw]
   first | rfl | (simp only [List.append_assoc,List.singleton_append,List.cons_append,List.nil_append,List.map_cons])
theorem wrdI_ne (it:Itm):wrdI it≠[]:=by
 cases it with
 | all p on=>cases on <;> (intro z; cases z)
 | _=>intro z; cases z
theorem wrdT_ne:∀ t:Tre,wrdT t≠[]
 | .leaf it=>by rw [wrdT]; exact wrdI_ne it
 | .node r n ts=>by rw [wrdT]; intro z; cases z
theorem wrdI_len (it:Itm):(wrdI it).length≤6:=by
 cases it with
 | part r n=>exact Nat.le_of_ble_eq_true rfl
 | thing r n o=>cases o <;> exact Nat.le_of_ble_eq_true rfl
 | lett n o=>cases o <;> exact Nat.le_of_ble_eq_true rfl
 | elder p=>exact Nat.le_of_ble_eq_true rfl
 | all p on=>cases on <;> exact Nat.le_of_ble_eq_true rfl
 | one r n p=>exact Nat.le_of_ble_eq_true rfl
 | ask p=>exact Nat.le_of_ble_eq_true rfl
mutual
theorem wrdT_len:∀ t:Tre,(wrdT t).length + 1≤7 * szT t
 | .leaf it=>by
   have:=wrdI_len it
   rw [wrdT,szT]; omega
 | .node r n ts=>by
   have:=wrdL_len ts
   rw [wrdT,szT,List.length_append,List.length_append]
   show 4 + (wrdL ts).length + 1 + 1≤_
   omega
theorem wrdL_len:∀ ts:List Tre,(wrdL ts).length≤7 * szL ts
 | []=>by rw [wrdL]; exact Nat.zero_le _
 | t :: ts=>by
   have:=wrdT_len t
   have:=tlW_len ts
   rw [wrdL,szL,List.length_append]; omega
theorem tlW_len:∀ ts:List Tre,(tlW ts).length≤7 * szL ts
 | []=>by rw [tlW]; exact Nat.zero_le _
 | t :: ts=>by
   have:=wrdT_len t
   have:=tlW_len ts
   rw [tlW,szL,List.length_cons,List.length_append]; omega
end
def WdOk (w:Str):Prop:=w.length≤60∧32 ∉ w.cps.toList
def wdB (w:Str):Bool:=decide (w.length≤60) && !(w.cps.toList.contains 32)
theorem wdB_ok {w:Str} (h:wdB w=true):WdOk w:=by
 unfold wdB at h
 rw [Bool.and_eq_true,decide_eq_true_eq,Bool.not_eq_true'] at h
 exact ⟨h.1,fun m=>by rw [List.contains_iff_mem.mpr m] at h; cases h.2⟩
theorem LowW.wd {w:Str} (h:LowW w):WdOk w:=by
 obtain ⟨h1,h2,h3⟩:=h
 exact ⟨by omega,fun m=>by have:=h3 _ m; omega⟩
theorem join_mem {c x:Nat}:∀ {ws:List Str},x∈(Str.join ⟨#[c]⟩ ws).cps.toList→x=c∨∃ w∈ws,x∈w.cps.toList
 | [],h=>by
   have:(Str.join ⟨#[c]⟩ []).cps.toList=[]:=rfl
   rw [this] at h; cases h
 | [a],h=>.inr ⟨a,by simp,h⟩
 | a :: b :: r,h=>by
   rw [join_c2] at h
   rcases List.mem_append.mp h with h | h
   · exact .inr ⟨a,by simp,h⟩
   rcases List.mem_cons.mp h with h | h
   · exact .inl h
   rcases join_mem h with h | ⟨w,h1,h2⟩
   · exact .inl h
   · exact .inr ⟨w,List.mem_cons_of_mem _ h1,h2⟩
theorem dot_wd {p:List Str} (h:PthOk p):WdOk (dotW p):=by
 obtain ⟨h1,h6,hl⟩:=h
 have e:dotW p=Str.join ⟨#[46]⟩ p:=by
  show Txt.join ("." : Str) p=_
  rw [dot_is]; exact StrLaws.glued_eq_join _ _
 rw [e]
 constructor
 · have:=join_len (c:=46) p fun x hx=>(hl x hx).2.1
   omega
 · intro m
   rcases join_mem m with z | ⟨w,h1,h2⟩
   · cases z
   · have:=(hl w h1).2.2 _ h2
     omega
theorem dot_ok {p:List Str} (h:PthOk p):JoinOk ("." : Str) p=true:=by
 obtain ⟨h1,h6,hl⟩:=h
 refine joinOk_of_weight ?_ (by decide +kernel)
 have:∀ q:List Str,(∀ x∈q,LowW x)→(q.map (·.length)).sum≤8 * q.length:=by
  intro q hq
  induction q with
  | nil=>simp
  | cons a r ih =>
    have h1:=(hq a (by simp)).2.1
    have h2:=ih fun y hy=>hq y (by simp [hy])
    simp only [List.map_cons,List.sum_cons,List.length_cons]
    omega
 have:=this p hl
 omega
theorem ofW_wd {o:Option (List Str)} (h:∀ p,o=some p→PthOk p):∀ x∈ofW o,WdOk x:=by
 cases o with
 | none=>intro x hx; cases hx
 | some p =>
   intro x hx
   rcases List.mem_cons.mp hx with rfl | hx
   · exact wdB_ok (by decide +kernel)
   · rw [List.mem_singleton.mp hx]; exact dot_wd (h p rfl)
theorem wrdI_wd {it:Itm} (h:ItmOk it):∀ x∈wrdI it,WdOk x:=by
 cases it with
 | part r n =>
   intro x hx
   simp only [wrdI,List.mem_cons,List.not_mem_nil,or_false] at hx
   rcases hx with rfl | rfl | rfl | rfl | rfl
   · exact wdB_ok (by decide +kernel)
   · exact h.1.wd
   · exact h.2.wd
   · exact wdB_ok (by decide +kernel)
   · exact wdB_ok (by decide +kernel)
 | thing r n o =>
   intro x hx
   rcases List.mem_append.mp hx with hx | hx
   · simp only [List.mem_cons,List.not_mem_nil,or_false] at hx
     rcases hx with rfl | rfl | rfl
     · exact wdB_ok (by decide +kernel)
     · exact h.1.wd
     · exact h.2.1.wd
   · exact ofW_wd h.2.2 x hx
 | lett n o =>
   intro x hx
   rcases List.mem_append.mp hx with hx | hx
   · simp only [List.mem_cons,List.not_mem_nil,or_false] at hx
     rcases hx with rfl | rfl
     · exact wdB_ok (by decide +kernel)
     · exact h.1.wd
   · exact ofW_wd h.2 x hx
 | elder p =>
   intro x hx
   simp only [wrdI,List.mem_cons,List.not_mem_nil,or_false] at hx
   rcases hx with rfl | rfl
   · exact wdB_ok (by decide +kernel)
   · exact dot_wd h
 | all p on =>
   intro x hx
   cases on
   · simp only [wrdI,Bool.false_eq_true,if_false,List.singleton_append,List.mem_cons,List.not_mem_nil,or_false] at hx
     rcases hx with rfl | rfl
     · exact wdB_ok (by decide +kernel)
     · exact dot_wd h
   · simp only [wrdI,if_true,List.cons_append,List.nil_append,List.mem_cons,List.not_mem_nil,or_false] at hx
     rcases hx with rfl | rfl | rfl
     · exact wdB_ok (by decide +kernel)
     · exact wdB_ok (by decide +kernel)
     · exact dot_wd h
 | one r n p =>
   intro x hx
   simp only [wrdI,List.mem_cons,List.not_mem_nil,or_false] at hx
   rcases hx with rfl | rfl | rfl | rfl | rfl
   · exact wdB_ok (by decide +kernel)
   · exact h.1.wd
   · exact h.2.1.wd
   · exact wdB_ok (by decide +kernel)
   · exact dot_wd h.2.2
 | ask p =>
   intro x hx
   simp only [wrdI,List.mem_cons,List.not_mem_nil,or_false] at hx
   rcases hx with rfl | rfl
   · exact wdB_ok (by decide +kernel)
   · exact dot_wd h
mutual
theorem wrdT_wd:∀ {t:Tre},OkT t→∀ x∈wrdT t,WdOk x
 | .leaf it,h=>by rw [wrdT]; exact wrdI_wd h
 | .node r n ts,h=>by
   obtain ⟨h1,h2,h3⟩:=h
   intro x hx
   rw [wrdT] at hx
   rcases List.mem_append.mp hx with hx | hx
   · rcases List.mem_append.mp hx with hx | hx
     · simp only [List.mem_cons,List.not_mem_nil,or_false] at hx
       rcases hx with rfl | rfl | rfl | rfl
       · exact wdB_ok (by decide +kernel)
       · exact h1.wd
       · exact h2.wd
       · exact wdB_ok (by decide +kernel)
     · exact wrdL_wd h3 x hx
   · rw [List.mem_singleton.mp hx]; exact wdB_ok (by decide +kernel)
theorem wrdL_wd:∀ {ts:List Tre},OkL ts→∀ x∈wrdL ts,WdOk x
 | [],_=>by rw [wrdL]; intro x hx; cases hx
 | t :: ts,h=>by
   intro x hx
   rw [wrdL] at hx
   rcases List.mem_append.mp hx with hx | hx
   · exact wrdT_wd h.1 x hx
   · exact tlW_wd h.2 x hx
theorem tlW_wd:∀ {ts:List Tre},OkL ts→∀ x∈tlW ts,WdOk x
 | [],_=>by rw [tlW]; intro x hx; cases hx
 | t :: ts,h=>by
   intro x hx
   rw [tlW] at hx
   rcases List.mem_cons.mp hx with rfl | hx
   · exact wdB_ok (by decide +kernel)
   rcases List.mem_append.mp hx with hx | hx
   · exact wrdT_wd h.1 x hx
   · exact tlW_wd h.2 x hx
end
def pathO (w:Str):Option (List Str):=if (Txt.split w ("." : Str)).length≤6∧(Txt.split w ("." : Str)).all nameB=true then some (Txt.split w ("." : Str)) else none
def reachP:List Str→Option (Str × List Str)
 | []=>none
 | w :: ws=>if w=("open" : Str)∨w=("own" : Str) then some (w,ws) else none
def nameP:List Str→Option (Str × List Str)
 | []=>none
 | w :: ws=>if nameB w=true then some (w,ws) else none
def pathP:List Str→Option (List Str × List Str)
 | []=>none
 | w :: ws=>match pathO w with
   | some p=>some (p,ws)
   | none=>none
def skipP (d:Str):List Str→Option (List Str)
 | []=>none
 | w :: ws=>if w=d then some ws else none
def sortP (ws:List Str):Option (Option (List Str) × List Str):=if ws.head?=some ("of" : Str) then (match pathP ws.tail with
 | some (p,rs)=>some (some p,rs)
 | none=>none) else some (none,ws)
def stopB (ws:List Str):Bool:=match ws with
 | []=>true
 | w :: _=>decide (w=(";" : Str)) || decide (w=(")" : Str))
def allP:List Str→Option (Tre × List Str)
 | []=>none
 | w :: ws=>if w=("on" : Str)∧stopB ws=false then (match pathP ws with
  | some (p,rs)=>some (.leaf (.all p true),rs)
  | none=>none) else match pathO w with
  | some p=>some (.leaf (.all p false),ws)
  | none=>none
def thingP (ws:List Str):Option (Tre × List Str):=match reachP ws with
 | none=>none
 | some (r,w1)=>match nameP w1 with
   | none=>none
   | some (n,w2)=>match sortP w2 with
     | none=>none
     | some (o,w3)=>some (.leaf (.thing r n o),w3)
def letP (ws:List Str):Option (Tre × List Str):=match nameP ws with
 | none=>none
 | some (n,w2)=>match sortP w2 with
   | none=>none
   | some (o,w3)=>some (.leaf (.lett n o),w3)
def oneP (ws:List Str):Option (Tre × List Str):=match reachP ws with
 | none=>none
 | some (r,w1)=>match nameP w1 with
   | none=>none
   | some (n,w2)=>match skipP ("from" : Str) w2 with
     | none=>none
     | some w3=>match pathP w3 with
       | none=>none
       | some (p,w4)=>some (.leaf (.one r n p),w4)
def elderP (ws:List Str):Option (Tre × List Str):=match pathP ws with
 | none=>none
 | some (p,w4)=>some (.leaf (.elder p),w4)
def askP (ws:List Str):Option (Tre × List Str):=match pathP ws with
 | none=>none
 | some (p,w4)=>some (.leaf (.ask p),w4)
def itemP (part:List Str→Option (Tre × List Str)):List Str→Option (Tre × List Str)
 | []=>none
 | w :: ws=>if w=("part" : Str) then part ws else if w=("thing" : Str) then thingP ws else if w=("let" : Str) then letP ws else if w=("elder" : Str) then elderP ws else if w=("all" : Str) then allP ws
   else if w=("one" : Str) then oneP ws else if w=("ask" : Str) then askP ws else none
def moreP (item:List Str→Option (Tre × List Str)):Nat→List Str→Option (List Tre × List Str)
 | 0,ws=>some ([],ws)
 | n + 1, ws => if ws.head? = some (";" : Str) then (match item ws.tail with
   | none=>none
   | some (t,w1)=>match moreP item n w1 with
     | none=>none
     | some (ts,w2)=>some (t :: ts,w2)) else some ([],ws)
def itemsP (item:List Str→Option (Tre × List Str)) (ws:List Str):Option (List Tre × List Str):=match item ws with
 | none=>none
 | some (t,w1)=>match moreP item w1.length w1 with
   | none=>none
   | some (ts,w2)=>some (t :: ts,w2)
def innerP (item:List Str→Option (Tre × List Str)) (ws:List Str):Option (List Tre × List Str):=if ws.head?=some (")" : Str) then some ([],ws) else itemsP item ws
def partP (item:List Str→Option (Tre × List Str)) (ws:List Str):Option (Tre × List Str):=match reachP ws with
 | none=>none
 | some (r,w1)=>match nameP w1 with
   | none=>none
   | some (n,w2)=>match skipP ("(" : Str) w2 with
     | none=>none
     | some w3=>match innerP item w3 with
       | none=>none
       | some (ts,w4)=>match skipP (")" : Str) w4 with
         | none=>none
         | some w5=>some (.node r n ts,w5)
def prsI:Nat→List Str→Option (Tre × List Str)
 | 0=>itemP fun _=>none
 | d + 1=>itemP (partP (prsI d))
section
theorem skipP_ok (d:Str) (ws:List Str):skipP d (d :: ws)=some ws:=if_pos rfl
end
end L2
namespace L2
open PySem PySem.Spec PySem.Calls PyProof.Rows PySem.W Ord
theorem stop_semi (ws:List Str):stopB ((";" : Str) :: ws)=true:=by
 show (decide ((";" : Str)=(";" : Str)) || decide ((";" : Str)=(")" : Str)))=true
 decide +kernel
theorem stop_close (ws:List Str):stopB ((")" : Str) :: ws)=true:=by
 show (decide ((")" : Str)=(";" : Str)) || decide ((")" : Str)=(")" : Str)))=true
 decide +kernel
def rmv (H:Hp) (w:Addr):Hp:=fun x=>if x=w then none else H x
theorem rmv_ne {H:Hp} {w x:Addr} (h:x≠w):rmv H w x=H x:=if_neg h
theorem rmv_get {H:Hp} {w x:Addr} {o:HO} (h:rmv H w x=some o):x≠w∧H x=some o:=by
 unfold rmv at h
 split at h
 · cases h
 · rename_i z; exact ⟨z,h⟩
theorem rmv_sub {H:Hp} {w:Addr}:Same (rmv H w) H:=fun b o e=>(rmv_get e).2
def wlOf (H:Hp) (w:Addr):Addr:=match H w with
 | some (.ins _ _ ((_,.ref L) :: _))=>L
 | _=>w
structure Bt (w:Addr) (H H':Hp):Prop where
 s:Same (rmv H w) (rmv H' w)
 l:wlOf H' w=wlOf H w
theorem Bt.trans {w:Addr} {H H' H2:Hp} (a:Bt w H H') (b:Bt w H' H2):Bt w H H2:=⟨a.s.trans b.s,b.l.trans a.l⟩
theorem Bt.same {w:Addr} {H H':Hp} (hw:H w≠none) (e:Same H H'):Bt w H H':=by
 refine ⟨fun b o h=>?_,?_⟩
 · obtain ⟨z,h⟩:=rmv_get h
   rw [rmv_ne z]; exact e _ _ h
 · rcases z:H w with _ | o
   · exact absurd z hw
   · unfold wlOf
     rw [z,e _ _ z]
theorem Bt.get {w x:Addr} {H H':Hp} {o:HO} (e:Bt w H H') (hx:x≠w) (h:H x=some o):H' x=some o:=(rmv_get (e.s x o (by rw [rmv_ne hx]; exact h))).2
theorem Bt.upd {w:Addr} {H:Hp} {o:HO} (hl:wlOf (upd H w o) w=wlOf H w):Bt w H (upd H w o):=⟨fun b u h=>by
 obtain ⟨z,h⟩:=rmv_get h
 rw [rmv_ne z,upd_ne z]; exact h,hl⟩
theorem Bt.free {w x:Addr} {H H':Hp} (e:Bt w H H') (hw:H' w≠none) (h:H' x=none):H x=none:=by
 rcases z:H x with _ | o
 · rfl
 · exfalso
   rw [e.get (fun y=>hw (y ▸ h)) z] at h; cases h
structure WdR (K:PySem.W.Frag) (H:Hp) (w:Addr) (rem:List Str):Prop where
 ex:∃ (dx L:Addr) (ws:List Str) (i:Nat),H w=some (.ins (clsA K "Words") dx [(("words" : Str),V.ref L),(("place" : Str),V.int (i:Int))])∧H L=some (.lst (ws.map V.str))∧rem=ws.drop i∧i≤ws.length∧ws.length≤1000∧∀ x∈ws,x.length≤1000
theorem WdR.same {K:PySem.W.Frag} {H H':Hp} {w:Addr} {rem:List Str} (e:Same H H') (h:WdR K H w rem):WdR K H' w rem:=by
 obtain ⟨dx,L,ws,i,h1,h2,h3⟩:=h.ex
 exact ⟨dx,L,ws,i,e _ _ h1,e _ _ h2,h3⟩
theorem WdR.live {K:PySem.W.Frag} {H:Hp} {w:Addr} {rem:List Str} (h:WdR K H w rem):H w≠none:=by
 obtain ⟨dx,L,ws,i,h1,h2,h3⟩:=h.ex
 rw [h1]; intro z; cases z
theorem WdR.long {K:PySem.W.Frag} {H:Hp} {w:Addr} {rem:List Str} (h:WdR K H w rem):∀ x∈rem,x.length≤1000:=by
 obtain ⟨dx,L,ws,i,h1,h2,rfl,h4,h5,h6⟩:=h.ex
 exact fun x hx=>h6 x (List.mem_of_mem_drop hx)
def headV:List Str→V
 | []=>.non
 | x :: _=>.str x
theorem headV_ne {rem:List Str} {d:Str} (h:rem.head?≠some d):headV rem≠V.str d:=by
 cases rem with
 | nil=>intro z; cases z
 | cons a r=>intro z; exact h (congrArg some (V.str.inj z))
theorem scal_head (rem:List Str) (d:Str):scal (headV rem) (.str d)=true:=by cases rem <;> rfl
theorem head_cons {rem:List Str} {d:Str} (h:rem.head?=some d):rem=d :: rem.tail:=by
 cases rem with
 | nil=>cases h
 | cons a r=>cases h; rfl
theorem pathP_inv {rem rem':List Str} {p:List Str} (h:pathP rem=some (p,rem')):∃ x,rem=x :: rem'∧pathO x=some p:=by
 cases rem with
 | nil=>cases h
 | cons x r =>
   rw [pathP] at h
   split at h
   · rename_i e
     cases h
     exact ⟨x,rfl,e⟩
   · cases h
theorem stop_in (rem:List Str):inV (headV rem) [.non,.str (";" : Str),.str (")" : Str)]=stopB rem:=by
 cases rem with
 | nil=>rfl
 | cons a r =>
   show (eqV .non (.str a) || (eqV (.str (";" : Str)) (.str a) || (eqV (.str (")" : Str)) (.str a) || false)))=(decide (a=(";" : Str)) || decide (a=(")" : Str)))
   show (false || (((";" : Str) == a) || (((")" : Str) == a) || false)))=_
   rw [Bool.false_or,Bool.or_false,Bool.eq_iff_iff]
   simp only [Bool.or_eq_true,beq_iff_eq,decide_eq_true_eq]
   exact ⟨fun h=>h.imp Eq.symm Eq.symm,fun h=>h.imp Eq.symm Eq.symm⟩
theorem WdR.wl {K:PySem.W.Frag} {H:Hp} {w:Addr} {rem:List Str} (h:WdR K H w rem):∃ ys,H (wlOf H w)=some (.lst ys):=by
 obtain ⟨dx,L,ws,i,h1,h2,h3⟩:=h.ex
 have e:wlOf H w=L:=by unfold wlOf; rw [h1]
 rw [e]; exact ⟨_,h2⟩
theorem WdR.keep {K:PySem.W.Frag} {H:Hp} {w P:Addr} {rem:List Str} {o:HO} (h:WdR K H w rem) (h1:P≠w) (h2:P≠wlOf H w):WdR K (upd H P o) w rem∧wlOf (upd H P o) w=wlOf H w:=by
 obtain ⟨dx,L,ws,i,e1,e2,e3⟩:=h.ex
 have e:wlOf H w=L:=by unfold wlOf; rw [e1]
 rw [e] at h2
 have e4:(upd H P o) w=some (.ins (clsA K "Words") dx [(("words" : Str),V.ref L),(("place" : Str),V.int (i:Int))]):=(upd_ne (Ne.symm h1)).trans e1
 exact ⟨⟨dx,L,ws,i,e4,(upd_ne (Ne.symm h2)).trans e2,e3⟩,by unfold wlOf; rw [e4,e1]⟩
theorem bt_ins {H:Hp} {w x dx:Addr} {o o':HO} (hw:H w≠none) (hx:H x=none) (hd:H dx=none):Bt w H (upd (upd H dx o) x o')∧rmv (upd (upd H dx o) x o') w x=some o':=by
 refine ⟨Bt.same hw (fresh_ins hx hd),?_⟩
 have hne:x≠w:=fun z=>hw (by rw [←z]; exact hx)
 rw [rmv_ne hne,upd_same]
end L2
namespace L2
open PySem PySem.Spec PySem.Calls PyProof.Rows PySem.W Ord
theorem okL_mem:∀ {ts:List Tre} {t:Tre},OkL ts→t∈ts→OkT t
 | u :: us,t,h,m=>by
   rcases List.mem_cons.mp m with rfl | m
   · exact h.1
   · exact okL_mem h.2 m
theorem szL_mem:∀ {ts:List Tre} {t:Tre},t∈ts→szT t≤szL ts
 | u :: us,t,m=>by
   rw [szL]
   rcases List.mem_cons.mp m with rfl | m
   · omega
   · have:=szL_mem m; omega
theorem reachP_inv {ws rs:List Str} {r:Str} (h:reachP ws=some (r,rs)):ws=r :: rs∧Rch r:=by
 cases ws with
 | nil=>cases h
 | cons a l =>
   rw [reachP] at h
   split at h
   · rename_i e; cases h; exact ⟨rfl,e⟩
   · cases h
theorem nameP_inv {ws rs:List Str} {r:Str} (h:nameP ws=some (r,rs)):ws=r :: rs∧nameB r=true:=by
 cases ws with
 | nil=>cases h
 | cons a l =>
   rw [nameP] at h
   split at h
   · rename_i e; cases h; exact ⟨rfl,e⟩
   · cases h
theorem skipP_inv {d:Str} {ws rs:List Str} (h:skipP d ws=some rs):ws=d :: rs:=by
 cases ws with
 | nil=>cases h
 | cons a l =>
   rw [skipP] at h
   split at h
   · rename_i e; cases h; rw [e]
   · cases h
theorem sortP_inv {ws rs:List Str} {o:Option (List Str)} (h:sortP ws=some (o,rs)):(o=none∧ws=rs∧ws.head?≠some ("of" : Str))∨∃ p,o=some p∧ws.head?=some ("of" : Str)∧pathP ws.tail=some (p,rs):=by
 unfold sortP at h
 split at h
 · rename_i hh
   split at h
   · rename_i p rs' e; cases h; exact .inr ⟨p,rfl,hh,e⟩
   · cases h
 · rename_i hh; cases h; exact .inl ⟨rfl,rfl,hh⟩
theorem sortP_le {ws rs:List Str} {o:Option (List Str)} (h:sortP ws=some (o,rs)):rs.length≤ws.length:=by
 rcases sortP_inv h with ⟨_,e,_⟩ | ⟨p,_,e,e2⟩
 · rw [e]; exact Nat.le_refl _
 · obtain ⟨x,ex,_⟩:=pathP_inv e2
   have:=congrArg List.length ex
   rw [List.length_tail,List.length_cons] at this
   omega
theorem thingP_inv {ws rs:List Str} {t:Tre} (h:thingP ws=some (t,rs)):∃ r w1 n w2 o,reachP ws=some (r,w1)∧nameP w1=some (n,w2)∧sortP w2=some (o,rs)∧t=.leaf (.thing r n o):=by
 unfold thingP at h
 split at h
 · cases h
 rename_i r w1 e1
 split at h
 · cases h
 rename_i n w2 e2
 split at h
 · cases h
 rename_i o w3 e3
 cases h
 exact ⟨r,w1,n,w2,o,e1,e2,e3,rfl⟩
theorem letP_inv {ws rs:List Str} {t:Tre} (h:letP ws=some (t,rs)):∃ n w2 o,nameP ws=some (n,w2)∧sortP w2=some (o,rs)∧t=.leaf (.lett n o):=by
 unfold letP at h
 split at h
 · cases h
 rename_i n w2 e2
 split at h
 · cases h
 rename_i o w3 e3
 cases h
 exact ⟨n,w2,o,e2,e3,rfl⟩
theorem oneP_inv {ws rs:List Str} {t:Tre} (h:oneP ws=some (t,rs)):∃ r w1 n w2 w3 p,reachP ws=some (r,w1)∧nameP w1=some (n,w2)∧skipP ("from" : Str) w2=some w3∧pathP w3=some (p,rs)∧t=.leaf (.one r n p):=by
 unfold oneP at h
 split at h
 · cases h
 rename_i r w1 e1
 split at h
 · cases h
 rename_i n w2 e2
 split at h
 · cases h
 rename_i w3 e3
 split at h
 · cases h
 rename_i p w4 e4
 cases h
 exact ⟨r,w1,n,w2,w3,p,e1,e2,e3,e4,rfl⟩
theorem elderP_inv {ws rs:List Str} {t:Tre} (h:elderP ws=some (t,rs)):∃ p,pathP ws=some (p,rs)∧t=.leaf (.elder p):=by
 unfold elderP at h
 split at h
 · cases h
 rename_i p w4 e4
 cases h
 exact ⟨p,e4,rfl⟩
theorem askP_inv {ws rs:List Str} {t:Tre} (h:askP ws=some (t,rs)):∃ p,pathP ws=some (p,rs)∧t=.leaf (.ask p):=by
 unfold askP at h
 split at h
 · cases h
 rename_i p w4 e4
 cases h
 exact ⟨p,e4,rfl⟩
theorem partP_inv {item:List Str→Option (Tre × List Str)} {ws rs:List Str} {t:Tre} (h:partP item ws=some (t,rs)):∃ r w1 n w2 w3 ts w4,reachP ws=some (r,w1)∧nameP w1=some (n,w2)∧skipP ("(" : Str) w2=some w3∧innerP item w3=some (ts,w4)∧skipP (")" : Str) w4=some rs∧t=.node r n ts:=by
 unfold partP at h
 split at h
 · cases h
 rename_i r w1 e1
 split at h
 · cases h
 rename_i n w2 e2
 split at h
 · cases h
 rename_i w3 e3
 split at h
 · cases h
 rename_i ts w4 e4
 split at h
 · cases h
 rename_i w5 e5
 cases h
 exact ⟨r,w1,n,w2,w3,ts,w4,e1,e2,e3,e4,e5,rfl⟩
theorem pathP_le {ws rs:List Str} {p:List Str} (h:pathP ws=some (p,rs)):rs.length≤ws.length:=by
 obtain ⟨x,e,_⟩:=pathP_inv h
 rw [e]; exact Nat.le_succ _
theorem allP_le {ws rs:List Str} {t:Tre} (h:allP ws=some (t,rs)):rs.length≤ws.length:=by
 cases ws with
 | nil=>cases h
 | cons a l =>
   rw [allP] at h
   split at h
   · split at h
     · rename_i p rs' e; cases h
       have:=pathP_le e
       exact Nat.le_succ_of_le this
     · cases h
   · split at h
     · cases h; exact Nat.le_succ _
     · cases h
theorem itemP_le {part:List Str→Option (Tre × List Str)} (hp:∀ ws t rs,part ws=some (t,rs)→rs.length≤ws.length) {ws rs:List Str} {t:Tre} (h:itemP part ws=some (t,rs)):rs.length≤ws.length:=by
 cases ws with
 | nil=>cases h
 | cons a l =>
   have k:∀ {n:Nat},n≤l.length→n≤(a :: l).length:=fun h=>Nat.le_succ_of_le h
   rw [itemP] at h
   split at h
   · exact k (hp _ _ _ h)
   split at h
   · obtain ⟨r,w1,n,w2,o,e1,e2,e3,_⟩:=thingP_inv h
     have:=sortP_le e3
     have:=congrArg List.length (reachP_inv e1).1
     have:=congrArg List.length (nameP_inv e2).1
     simp only [List.length_cons] at *
     omega
   split at h
   · obtain ⟨n,w2,o,e2,e3,_⟩:=letP_inv h
     have:=sortP_le e3
     have:=congrArg List.length (nameP_inv e2).1
     simp only [List.length_cons] at *
     omega
   split at h
   · obtain ⟨p,e,_⟩:=elderP_inv h
     exact k (pathP_le e)
   split at h
   · exact k (allP_le h)
   split at h
   · obtain ⟨r,w1,n,w2,w3,p,e1,e2,e3,e4,_⟩:=oneP_inv h
     have:=pathP_le e4
     have:=congrArg List.length (reachP_inv e1).1
     have:=congrArg List.length (nameP_inv e2).1
     have:=congrArg List.length (skipP_inv e3)
     simp only [List.length_cons] at *
     omega
   split at h
   · obtain ⟨p,e,_⟩:=askP_inv h
     exact k (pathP_le e)
   · cases h
theorem moreP_le {item:List Str→Option (Tre × List Str)} (hi:∀ ws t rs,item ws=some (t,rs)→rs.length≤ws.length):∀ {n:Nat} {ws rs:List Str} {ts:List Tre},moreP item n ws=some (ts,rs)→rs.length≤ws.length∧ts.length≤n
 | 0,ws,rs,ts,h=>by
   rw [moreP] at h
   cases h
   exact ⟨Nat.le_refl _,Nat.le_refl _⟩
 | n + 1, ws, rs, ts, h => by
   rw [moreP] at h
   split at h
   · split at h
     · cases h
     rename_i t w1 e1
     split at h
     · cases h
     rename_i ts' w2 e2
     cases h
     have a:=hi _ _ _ e1
     obtain ⟨b,c⟩:=moreP_le hi e2
     rw [List.length_tail] at a
     rw [List.length_cons]
     exact ⟨by omega,by omega⟩
   · cases h
     exact ⟨Nat.le_refl _,Nat.zero_le _⟩
theorem itemsP_inv {item:List Str→Option (Tre × List Str)} {ws rs:List Str} {ts:List Tre} (h:itemsP item ws=some (ts,rs)):∃ t w1 us,item ws=some (t,w1)∧moreP item w1.length w1=some (us,rs)∧ts=t :: us:=by
 unfold itemsP at h
 split at h
 · cases h
 rename_i t w1 e1
 split at h
 · cases h
 rename_i us w2 e2
 cases h
 exact ⟨t,w1,us,e1,e2,rfl⟩
theorem innerP_le {item:List Str→Option (Tre × List Str)} (hi:∀ ws t rs,item ws=some (t,rs)→rs.length≤ws.length) {ws rs:List Str} {ts:List Tre} (h:innerP item ws=some (ts,rs)):rs.length≤ws.length:=by
 unfold innerP at h
 split at h
 · cases h; exact Nat.le_refl _
 · obtain ⟨t,w1,us,e1,e2,_⟩:=itemsP_inv h
   have:=hi _ _ _ e1
   have:=(moreP_le hi e2).1
   omega
theorem prsI_le:∀ (d:Nat) (ws:List Str) (t:Tre) (rs:List Str),prsI d ws=some (t,rs)→rs.length≤ws.length
 | 0,ws,t,rs,h=>by
   rw [prsI] at h
   exact itemP_le (fun _ _ _ z=>by cases z) h
 | d + 1,ws,t,rs,h=>by
   rw [prsI] at h
   refine itemP_le (fun ws t rs z=>?_) h
   obtain ⟨r,w1,n,w2,w3,ts,w4,e1,e2,e3,e4,e5,_⟩:=partP_inv z
   have:=innerP_le (prsI_le d) e4
   have:=congrArg List.length (reachP_inv e1).1
   have:=congrArg List.length (nameP_inv e2).1
   have:=congrArg List.length (skipP_inv e3)
   have:=congrArg List.length (skipP_inv e5)
   simp only [List.length_cons] at *
   omega
end L2
namespace L2
open PySem PySem.Spec PyProof.Rows Ord
def CalleeME (P:Program) (w:World) (K:PySem.W.Frag) (mg:Str→Option Value) (base:Heap) (C:Addr) (m:Str) (k:Nat) (ps:List Str) (sp:Sp):Prop :=
 ∃ f fd,FnOk P w K mg base (CXE P w) k f fd ps sp∧Meth K C m f∧Binds K fd ps []
theorem pe_mthE {X:Cx} {E:XK} {C:Addr} {m:Str} {k:Nat} {ps:List Str} {sp:Sp} {pl:Sem Bool} {o:Expr} {apos pos:Pos} {e:Expr} {es:List Expr} {ta:TE} {t:TA} (c:CalleeME X.prog X.w X.K X.mg X.base C m k ps sp) (hT:Throws X E) (cl:Cls X.K C) (hr:Room k X.A) (he:PE X o ta) (ha:PA X (e :: es) t)
 (hst:starEach (e :: es) X.env=(false,eval e X.env) :: starEach es X.env:=by rfl) (hpl:(backTo pos (starEach es X.env)).any (·.1)=false:=by rfl)
 (ht:eval (.Call (.Attribute o m apos) (e :: es) [] pos) X.env=(do
  let ov ←eval o X.env
  standAt apos.atName
  let (f,first) ←holding [ov] (getMethod ov m pl)
  callWith pos f first (backTo pos (starEach (e :: es) X.env)) (backToKw pos (keywordEach [] X.env))):=by rfl):PE X (.Call (.Attribute o m apos) (e :: es) [] pos) (tMeth C m sp [] E ta t):=by
 obtain ⟨f,fd,F,M,hb⟩:=c
 exact pe_meth he cl M F hr hb .nil hT.passes ha hst hpl ht
theorem pe_mth0E {X:Cx} {E:XK} {C:Addr} {m:Str} {k:Nat} {ps:List Str} {sp:Sp} {pl:Sem Bool} {o:Expr} {apos pos:Pos} {ta:TE} (c:CalleeME X.prog X.w X.K X.mg X.base C m k ps sp) (hT:Throws X E) (cl:Cls X.K C) (hr:Room k X.A) (he:PE X o ta)
 (ht:eval (.Call (.Attribute o m apos) [] [] pos) X.env=(do
  let ov ←eval o X.env
  standAt apos.atName
  let (f,first) ←holding [ov] (getMethod ov m pl)
  callWith pos f first (backTo pos (starEach [] X.env)) (backToKw pos (keywordEach [] X.env))):=by rfl):PE X (.Call (.Attribute o m apos) [] [] pos) (tMeth C m sp [] E ta tNil):=by
 obtain ⟨f,fd,F,M,hb⟩:=c
 exact pe_meth0 he cl M F hr hb .nil hT.passes ht
end L2
namespace L2
open PySem PySem.Spec PyProof.Rows Ord
abbrev pO:Str := "("
abbrev pC:Str := ")"
abbrev pS:Str := ";"
def spB (w:Str):Bool:=decide (w=pO) || decide (w=pC) || decide (w=pS)
def routeB (w:Str):Bool:=(pathO w).isSome
def reachB (w:Str):Bool:=decide (w=("open" : Str)) || decide (w=("own" : Str))
def rowB:List Str→Bool
 | [a,b]=>if a=("elder" : Str)∨a=("all" : Str)∨a=("ask" : Str) then routeB b else if a=("let" : Str) then nameB b else false
 | [a,b,c]=>if a=("all" : Str)∧b=("on" : Str) then routeB c else if a=("thing" : Str) then reachB b && nameB c else false
 | [a,b,c,d]=>if a=("let" : Str) then nameB b && decide (c=("of" : Str)) && routeB d else false
 | [a,b,c,d,e]=>if a=("thing" : Str) then reachB b && nameB c && decide (d=("of" : Str)) && routeB e else if a=("one" : Str) then reachB b && nameB c && decide (d=("from" : Str)) && routeB e else false
 | _=>false
def headB:List Str→Bool
 | [a,b,c]=>decide (a=("part" : Str)) && reachB b && nameB c
 | _=>false
def endB (r:List Str) (e f:Bool):Bool:=if r=[]∧(e || f)=true then true else !e && rowB r
def goodA:Nat→List Str→Bool→Bool→List Str→Bool
 | d,r,e,_,[]=>endB r e false && decide (d=0)
 | d,r,e,f,w :: ws=>if w=pO then (!e && headB r && decide (d≠31)) && goodA (d + 1) [] false true ws
   else if w=pS then endB r e false && goodA d [] false false ws
   else if w=pC then (endB r e f && decide (d≠0)) && goodA (d - 1) [] true false ws
   else goodA d (r++[w]) e f ws
def restO:Nat→List Str→Prop
 | 0,ws=>ws=[]
 | d + 1,ws=>∃ rs,ws=pC :: rs∧∃ ts us,moreP (prsI (31 - d)) rs.length rs=some (ts,us)∧restO d us
def itemsO (d:Nat) (ws:List Str):Prop:=∃ ts us,itemsP (prsI (31 - d)) ws=some (ts,us)∧restO d us
def moreO (d:Nat) (ws:List Str):Prop:=∃ ts us,moreP (prsI (31 - d)) ws.length ws=some (ts,us)∧restO d us
theorem goodA_row (d:Nat) (e f:Bool):∀ (row r rest:List Str),(∀ x∈row,spB x=false)→goodA d r e f (row++rest)=goodA d (r++row) e f rest
 | [],r,rest,_=>by rw [List.nil_append,List.append_nil]
 | w :: row,r,rest,h=>by
   have hw:=h w (List.mem_cons_self ..)
   simp only [spB,Bool.or_eq_false_iff,decide_eq_false_iff_not] at hw
   rw [List.cons_append,goodA,if_neg hw.1.1,if_neg hw.2,if_neg hw.1.2,goodA_row d e f row (r++[w]) rest fun x hx=>h x (List.mem_cons_of_mem _ hx),List.append_assoc,List.singleton_append]
theorem name_sp {w:Str} (h:nameB w=true):spB w=false:=by
 rcases Bool.eq_false_or_eq_true (spB w) with z | z
 · simp only [spB,Bool.or_eq_true,decide_eq_true_eq] at z
   rcases z with (rfl | rfl) | rfl <;> revert h <;> decide +kernel
 · exact z
theorem path_sp {w:Str} (h:(pathO w).isSome=true):spB w=false:=by
 rcases Bool.eq_false_or_eq_true (spB w) with z | z
 · simp only [spB,Bool.or_eq_true,decide_eq_true_eq] at z
   rcases z with (rfl | rfl) | rfl <;> revert h <;> decide +kernel
 · exact z
def SpR (rest:List Str):Prop:=rest=[]∨∃ w ws,rest=w :: ws∧spB w=true
abbrev catR {α:Type} (rest:List Str) (o:Option (α × List Str)):Option (α × List Str):=o.map fun x=>(x.1,x.2++rest)
theorem reachP_app {row rest:List Str} (hr:SpR rest):reachP (row++rest)=catR rest (reachP row):=by
 cases row with
 | nil =>
   rcases hr with rfl | ⟨w,ws,rfl,hw⟩
   · rfl
   · show (if w=("open" : Str)∨w=("own" : Str) then _ else _)=none
     rw [if_neg]
     rintro (rfl | rfl) <;> revert hw <;> decide +kernel
 | cons a row =>
   show (if a=("open" : Str)∨a=("own" : Str) then _ else _)=Option.map _ (if a=("open" : Str)∨a=("own" : Str) then _ else _)
   split <;> rfl
theorem nameP_app {row rest:List Str} (hr:SpR rest):nameP (row++rest)=catR rest (nameP row):=by
 cases row with
 | nil =>
   rcases hr with rfl | ⟨w,ws,rfl,hw⟩
   · rfl
   · show (if nameB w=true then _ else _)=none
     rw [if_neg fun z=>by rw [name_sp z] at hw; cases hw]
 | cons a row =>
   show (if nameB a=true then _ else _)=Option.map _ (if nameB a=true then _ else _)
   split <;> rfl
theorem pathP_app {row rest:List Str} (hr:SpR rest):pathP (row++rest)=catR rest (pathP row):=by
 cases row with
 | nil =>
   rcases hr with rfl | ⟨w,ws,rfl,hw⟩
   · rfl
   · show (match pathO w with | some p=>_ | none=>none)=none
     cases e:pathO w with
     | none=>rfl
     | some p=>rw [path_sp (by rw [e]; rfl)] at hw; cases hw
 | cons a row =>
   show (match pathO a with | some p=>_ | none=>none)=Option.map _ (match pathO a with | some p=>_ | none=>none)
   cases pathO a <;> rfl
theorem skipP_app {d:Str} (hd:spB d=false) {row rest:List Str} (hr:SpR rest):skipP d (row++rest)=(skipP d row).map (·++rest):=by
 cases row with
 | nil =>
   rcases hr with rfl | ⟨w,ws,rfl,hw⟩
   · rfl
   · show (if w=d then _ else _)=none
     rw [if_neg fun z=>by rw [z,hd] at hw; cases hw]
 | cons a row =>
   show (if a=d then _ else _)=Option.map _ (if a=d then _ else _)
   split <;> rfl
theorem sortP_app {row rest:List Str} (hr:SpR rest):sortP (row++rest)=catR rest (sortP row):=by
 unfold sortP
 cases row with
 | nil =>
   have:([]++rest).head?≠some ("of" : Str):=by
    rcases hr with rfl | ⟨w,ws,rfl,hw⟩
    · simp
    · intro z
      have:w=("of" : Str):=Option.some.inj z
      rw [this] at hw
      revert hw; decide +kernel
   rw [if_neg this,if_neg (by simp)]; rfl
 | cons a row =>
   by_cases h:a=("of" : Str)
   · rw [if_pos (by rw [h]; rfl),if_pos (by rw [h]; rfl)]
     show (match pathP (row++rest) with | some (p,rs)=>_ | none=>none)=Option.map _ (match pathP row with | some (p,rs)=>_ | none=>none)
     rw [pathP_app hr]
     cases pathP row <;> rfl
   · have n1:¬ (a :: row++rest).head?=some ("of" : Str):=fun z=>h (Option.some.inj z)
     have n2:¬ (a :: row).head?=some ("of" : Str):=fun z=>h (Option.some.inj z)
     rw [if_neg n1,if_neg n2]; rfl
theorem thingP_app {row rest:List Str} (hr:SpR rest):thingP (row++rest)=catR rest (thingP row):=by
 unfold thingP
 rw [reachP_app hr]
 cases reachP row with
 | none=>rfl
 | some x =>
   show (match nameP (x.2++rest) with | none=>none | some (n,w2)=>_)=_
   rw [nameP_app hr]
   show _=Option.map _ (match nameP x.2 with | none=>none | some (n,w2)=>_)
   cases nameP x.2 with
   | none=>rfl
   | some y =>
     show (match sortP (y.2++rest) with | none=>none | some (n,w2)=>_)=Option.map _ (match sortP y.2 with | none=>none | some (n,w2)=>_)
     rw [sortP_app hr]
     cases sortP y.2 <;> rfl
theorem letP_app {row rest:List Str} (hr:SpR rest):letP (row++rest)=catR rest (letP row):=by
 unfold letP
 rw [nameP_app hr]
 cases nameP row with
 | none=>rfl
 | some y =>
   show (match sortP (y.2++rest) with | none=>none | some (n,w2)=>_)=Option.map _ (match sortP y.2 with | none=>none | some (n,w2)=>_)
   rw [sortP_app hr]
   cases sortP y.2 <;> rfl
theorem oneP_app {row rest:List Str} (hr:SpR rest):oneP (row++rest)=catR rest (oneP row):=by
 unfold oneP
 rw [reachP_app hr]
 cases reachP row with
 | none=>rfl
 | some x =>
   show (match nameP (x.2++rest) with | none=>none | some (n,w2)=>_)=Option.map _ (match nameP x.2 with | none=>none | some (n,w2)=>_)
   rw [nameP_app hr]
   cases nameP x.2 with
   | none=>rfl
   | some y =>
     show (match skipP ("from" : Str) (y.2++rest) with | none=>none | some w3=>_)=Option.map _ (match skipP ("from" : Str) y.2 with | none=>none | some w3=>_)
     rw [skipP_app (by decide +kernel) hr]
     cases skipP ("from" : Str) y.2 with
     | none=>rfl
     | some z =>
       show (match pathP (z++rest) with | none=>none | some (n,w2)=>_)=Option.map _ (match pathP z with | none=>none | some (n,w2)=>_)
       rw [pathP_app hr]
       cases pathP z <;> rfl
theorem elderP_app {row rest:List Str} (hr:SpR rest):elderP (row++rest)=catR rest (elderP row):=by
 unfold elderP
 rw [pathP_app hr]
 cases pathP row <;> rfl
theorem askP_app {row rest:List Str} (hr:SpR rest):askP (row++rest)=catR rest (askP row):=by
 unfold askP
 rw [pathP_app hr]
 cases pathP row <;> rfl
theorem stop_row {b:Str} (hb:spB b=false) (ws:List Str):stopB (b :: ws)=false:=by
 simp only [spB,Bool.or_eq_false_iff,decide_eq_false_iff_not] at hb
 simp only [stopB,Bool.or_eq_false_iff,decide_eq_false_iff_not]
 exact ⟨hb.2,hb.1.2⟩
theorem allP_app {row rest:List Str} (hn:∀ x∈row,spB x=false) (hr:SpR rest) {t:Tre} {us:List Str} (h:allP (row++rest)=some (t,us)):∃ r0,us=r0++rest∧allP row=some (t,r0):=by
 cases row with
 | nil =>
   rcases hr with rfl | ⟨w,ws,rfl,hw⟩
   · cases h
   · have h:(if w=("on" : Str)∧stopB ws=false then (match pathP ws with
     | some (p,rs)=>some (Tre.leaf (.all p true),rs)
     | none=>none) else match pathO w with
     | some p=>some (.leaf (.all p false),ws)
     | none=>none)=some (t,us):=h
     rw [if_neg (fun z=>by rw [z.1] at hw; revert hw; decide +kernel)] at h
     cases e:pathO w with
     | none=>rw [e] at h; cases h
     | some p=>rw [path_sp (by rw [e]; rfl)] at hw; cases hw
 | cons a row =>
   cases row with
   | nil =>
     have h:(if a=("on" : Str)∧stopB rest=false then (match pathP rest with
     | some (p,rs)=>some (Tre.leaf (.all p true),rs)
     | none=>none) else match pathO a with
     | some p=>some (.leaf (.all p false),rest)
     | none=>none)=some (t,us):=h
     split at h
     · rw [show pathP rest=catR rest (pathP []) from pathP_app (row:=[]) hr] at h; cases h
     · show ∃ r0,us=r0++rest∧(if a=("on" : Str)∧stopB []=false then _ else _)=some (t,r0)
       rw [if_neg fun z=>by cases z.2]
       cases e:pathO a with
       | none=>rw [e] at h; cases h
       | some p =>
         rw [e] at h
         cases h
         exact ⟨[],rfl,rfl⟩
   | cons b row =>
     have hb:=hn b (by simp)
     have h:(if a=("on" : Str)∧stopB (b :: (row++rest))=false then (match pathP ((b :: row)++rest) with
     | some (p,rs)=>some (Tre.leaf (.all p true),rs)
     | none=>none) else match pathO a with
     | some p=>some (.leaf (.all p false),(b :: row)++rest)
     | none=>none)=some (t,us):=h
     show ∃ r0,us=r0++rest∧(if a=("on" : Str)∧stopB (b :: row)=false then (match pathP (b :: row) with
     | some (p,rs)=>some (Tre.leaf (.all p true),rs)
     | none=>none) else match pathO a with
     | some p=>some (.leaf (.all p false),(b :: row))
     | none=>none)=some (t,r0)
     rw [stop_row hb] at h ⊢
     split at h
     · rename_i z
       rw [if_pos z]
       rw [pathP_app hr] at h
       cases e:pathP (b :: row) with
       | none=>rw [e] at h; cases h
       | some x=>rw [e] at h; cases h; exact ⟨_,rfl,rfl⟩
     · rename_i z
       rw [if_neg z]
       cases e:pathO a with
       | none=>rw [e] at h; cases h
       | some p=>rw [e] at h; cases h; exact ⟨_,rfl,rfl⟩
theorem allP_stop {row rest:List Str} (hs:stopB rest=true) {t:Tre} {r0:List Str} (hn:∀ x∈row,spB x=false) (hr:SpR rest) (h:allP row=some (t,r0)):allP (row++rest)=some (t,r0++rest):=by
 cases row with
 | nil=>cases h
 | cons a row =>
   have e:stopB (row++rest)=stopB row:=by
    cases row with
    | nil=>exact hs
    | cons b row=>rfl
   have h:(if a=("on" : Str)∧stopB row=false then (match pathP row with
    | some (p,rs)=>some (Tre.leaf (.all p true),rs)
    | none=>none) else match pathO a with
    | some p=>some (.leaf (.all p false),row)
    | none=>none)=some (t,r0):=h
   show (if a=("on" : Str)∧stopB (row++rest)=false then (match pathP (row++rest) with
    | some (p,rs)=>some (Tre.leaf (.all p true),rs)
    | none=>none) else match pathO a with
    | some p=>some (.leaf (.all p false),row++rest)
    | none=>none)=some (t,r0++rest)
   rw [e,pathP_app hr]
   split at h
   · rename_i z
     rw [if_pos z]
     cases e2:pathP row with
     | none=>rw [e2] at h; cases h
     | some x=>rw [e2] at h; cases h; rfl
   · rename_i z
     rw [if_neg z]
     cases e2:pathO a with
     | none=>rw [e2] at h; cases h
     | some p=>rw [e2] at h; cases h; rfl
theorem item_cons (part:List Str→Option (Tre × List Str)) (w:Str) (ws:List Str):itemP part (w :: ws)=if w=("part" : Str) then part ws else if w=("thing" : Str) then thingP ws else if w=("let" : Str) then letP ws else if w=("elder" : Str) then elderP ws else if w=("all" : Str) then allP ws
 else if w=("one" : Str) then oneP ws else if w=("ask" : Str) then askP ws else none:=rfl
theorem item_sp {part:List Str→Option (Tre × List Str)} {w:Str} (hw:spB w=true) (ws:List Str):itemP part (w :: ws)=none:=by
 rw [item_cons,if_neg (fun z=>by rw [z] at hw; revert hw; decide +kernel),if_neg (fun z=>by rw [z] at hw; revert hw; decide +kernel),if_neg (fun z=>by rw [z] at hw; revert hw; decide +kernel),if_neg (fun z=>by rw [z] at hw; revert hw; decide +kernel),
  if_neg (fun z=>by rw [z] at hw; revert hw; decide +kernel),if_neg (fun z=>by rw [z] at hw; revert hw; decide +kernel),if_neg (fun z=>by rw [z] at hw; revert hw; decide +kernel)]
theorem cat_some {α:Type} {rest us:List Str} {o:Option (α × List Str)} {t:α} (h:catR rest o=some (t,us)):∃ r0,us=r0++rest∧o=some (t,r0):=by
 cases o with
 | none=>cases h
 | some x=>cases h; exact ⟨_,rfl,rfl⟩
abbrev leafP:List Str→Option (Tre × List Str):=itemP fun _=>none
theorem item_sub {part:List Str→Option (Tre × List Str)} {row rest:List Str} (hn:∀ x∈row,spB x=false) (hr:SpR rest) {t:Tre} {us:List Str} (h:itemP part (row++rest)=some (t,us)) :
 (∃ r0,us=r0++rest∧leafP row=some (t,r0))∨∃ row',row=("part" : Str) :: row'∧part (row'++rest)=some (t,us):=by
 cases row with
 | nil =>
   rcases hr with rfl | ⟨w,ws,rfl,hw⟩
   · cases h
   · rw [List.nil_append,item_sp hw] at h; cases h
 | cons a row =>
   rw [List.cons_append] at h
   rw [item_cons] at h
   have hn:∀ x∈row,spB x=false:=fun x hx=>hn x (List.mem_cons_of_mem _ hx)
   by_cases h0:a=("part" : Str)
   · rw [if_pos h0] at h
     exact .inr ⟨row,by rw [h0],h⟩
   refine .inl ?_
   simp only [leafP,item_cons]
   rw [if_neg h0] at h
   simp only [if_neg h0]
   by_cases h1:a=("thing" : Str)
   · rw [if_pos h1,thingP_app hr] at h; simp only [if_pos h1]; exact cat_some h
   rw [if_neg h1] at h
   simp only [if_neg h1]
   by_cases h2:a=("let" : Str)
   · rw [if_pos h2,letP_app hr] at h; simp only [if_pos h2]; exact cat_some h
   rw [if_neg h2] at h
   simp only [if_neg h2]
   by_cases h3:a=("elder" : Str)
   · rw [if_pos h3,elderP_app hr] at h; simp only [if_pos h3]; exact cat_some h
   rw [if_neg h3] at h
   simp only [if_neg h3]
   by_cases h4:a=("all" : Str)
   · rw [if_pos h4] at h; simp only [if_pos h4]; exact allP_app hn hr h
   rw [if_neg h4] at h
   simp only [if_neg h4]
   by_cases h5:a=("one" : Str)
   · rw [if_pos h5,oneP_app hr] at h; simp only [if_pos h5]; exact cat_some h
   rw [if_neg h5] at h
   simp only [if_neg h5]
   by_cases h6:a=("ask" : Str)
   · rw [if_pos h6,askP_app hr] at h; simp only [if_pos h6]; exact cat_some h
   rw [if_neg h6] at h
   cases h
theorem item_stop {part:List Str→Option (Tre × List Str)} {row rest:List Str} (hs:stopB rest=true) (hn:∀ x∈row,spB x=false) (hr:SpR rest) {t:Tre} {r0:List Str} (h:leafP row=some (t,r0)):itemP part (row++rest)=some (t,r0++rest):=by
 cases row with
 | nil=>cases h
 | cons a row =>
   rw [List.cons_append]
   simp only [leafP,item_cons] at h
   rw [item_cons]
   have hn:∀ x∈row,spB x=false:=fun x hx=>hn x (List.mem_cons_of_mem _ hx)
   by_cases h0:a=("part" : Str)
   · simp only [if_pos h0] at h; cases h
   simp only [if_neg h0] at h ⊢
   by_cases h1:a=("thing" : Str)
   · simp only [if_pos h1] at h ⊢; rw [thingP_app hr,h]; rfl
   simp only [if_neg h1] at h ⊢
   by_cases h2:a=("let" : Str)
   · simp only [if_pos h2] at h ⊢; rw [letP_app hr,h]; rfl
   simp only [if_neg h2] at h ⊢
   by_cases h3:a=("elder" : Str)
   · simp only [if_pos h3] at h ⊢; rw [elderP_app hr,h]; rfl
   simp only [if_neg h3] at h ⊢
   by_cases h4:a=("all" : Str)
   · simp only [if_pos h4] at h ⊢; exact allP_stop hs hn hr h
   simp only [if_neg h4] at h ⊢
   by_cases h5:a=("one" : Str)
   · simp only [if_pos h5] at h ⊢; rw [oneP_app hr,h]; rfl
   simp only [if_neg h5] at h ⊢
   by_cases h6:a=("ask" : Str)
   · simp only [if_pos h6] at h ⊢; rw [askP_app hr,h]; rfl
   simp only [if_neg h6] at h
   cases h
theorem reach_iff {w:Str}:reachB w=true↔Rch w:=by
 unfold reachB Rch
 simp
theorem route_of {w:Str} {p:List Str} (h:pathO w=some p):routeB w=true:=by unfold routeB; rw [h]; rfl
theorem sort_end {ws:List Str} {o:Option (List Str)} (h:sortP ws=some (o,[])):ws=[]∨∃ x,ws=[("of" : Str),x]∧routeB x=true:=by
 rcases sortP_inv h with ⟨_,rfl,_⟩ | ⟨p,_,hh,hp⟩
 · exact .inl rfl
 · obtain ⟨x,e,hx⟩:=pathP_inv hp
   refine .inr ⟨x,?_,route_of hx⟩
   rw [head_cons hh,e]
theorem rowB_2 (a b:Str):rowB [a,b]=if a=("elder" : Str)∨a=("all" : Str)∨a=("ask" : Str) then routeB b else if a=("let" : Str) then nameB b else false:=rfl
theorem rowB_3 (a b c:Str):rowB [a,b,c]=if a=("all" : Str)∧b=("on" : Str) then routeB c else if a=("thing" : Str) then reachB b && nameB c else false:=rfl
theorem rowB_4 (a b c d:Str):rowB [a,b,c,d]=if a=("let" : Str) then nameB b && decide (c=("of" : Str)) && routeB d else false:=rfl
theorem rowB_5 (a b c d e:Str):rowB [a,b,c,d,e]=if a=("thing" : Str) then reachB b && nameB c && decide (d=("of" : Str)) && routeB e else if a=("one" : Str) then reachB b && nameB c && decide (d=("from" : Str)) && routeB e else false:=rfl
theorem row_of {row : List Str} {t : Tre} (h : leafP row = some (t, [])) : rowB row = true := by
 cases row with
 | nil=>cases h
 | cons a row =>
   simp only [leafP,item_cons] at h
   by_cases h0:a=("part" : Str)
   · simp only [if_pos h0] at h; cases h
   simp only [if_neg h0] at h
   by_cases h1:a=("thing" : Str)
   · simp only [if_pos h1] at h
     obtain ⟨r,w1,n,w2,o,hr,hm,hs,_⟩:=thingP_inv h
     obtain ⟨rfl,hr'⟩:=reachP_inv hr
     obtain ⟨rfl,hm'⟩:=nameP_inv hm
     have hr':=reach_iff.mpr hr'
     rcases sort_end hs with rfl | ⟨x,rfl,hx⟩
     · subst h1; rw [rowB_3,if_neg (fun z=>absurd z.1 (by decide +kernel)),if_pos rfl,hr',hm']; rfl
     · subst h1; rw [rowB_5,if_pos rfl,hr',hm',hx]; decide +kernel
   simp only [if_neg h1] at h
   by_cases h2:a=("let" : Str)
   · simp only [if_pos h2] at h
     obtain ⟨n,w2,o,hm,hs,_⟩:=letP_inv h
     obtain ⟨rfl,hm'⟩:=nameP_inv hm
     rcases sort_end hs with rfl | ⟨x,rfl,hx⟩
     · subst h2; rw [rowB_2,if_neg (by decide +kernel),if_pos rfl,hm']
     · subst h2; rw [rowB_4,if_pos rfl,hm',hx]; decide +kernel
   simp only [if_neg h2] at h
   by_cases h3:a=("elder" : Str)
   · simp only [if_pos h3] at h
     obtain ⟨p,hp,_⟩:=elderP_inv h
     obtain ⟨x,rfl,hx⟩:=pathP_inv hp
     subst h3; rw [rowB_2,if_pos (.inl rfl)]; exact route_of hx
   simp only [if_neg h3] at h
   by_cases h4:a=("all" : Str)
   · simp only [if_pos h4] at h
     cases row with
     | nil=>cases h
     | cons b row =>
       have h:(if b=("on" : Str)∧stopB row=false then (match pathP row with
        | some (p,rs)=>some (Tre.leaf (.all p true),rs)
        | none=>none) else match pathO b with
        | some p=>some (.leaf (.all p false),row)
        | none=>none)=some (t,[]):=h
       split at h
       · rename_i z
         cases e:pathP row with
         | none=>rw [e] at h; cases h
         | some x =>
           rw [e] at h
           obtain ⟨x1,x2⟩:=x
           cases h
           obtain ⟨y,rfl,hy⟩:=pathP_inv e
           subst h4; rw [rowB_3,if_pos ⟨rfl,z.1⟩]; exact route_of hy
       · cases e:pathO b with
         | none=>rw [e] at h; cases h
         | some p =>
           rw [e] at h
           cases h
           subst h4; rw [rowB_2,if_pos (.inr (.inl rfl))]; exact route_of e
   simp only [if_neg h4] at h
   by_cases h5:a=("one" : Str)
   · simp only [if_pos h5] at h
     obtain ⟨r,w1,n,w2,w3,p,hr,hm,hk,hp,_⟩:=oneP_inv h
     obtain ⟨rfl,hr'⟩:=reachP_inv hr
     obtain ⟨rfl,hm'⟩:=nameP_inv hm
     have hk:=skipP_inv hk
     subst hk
     obtain ⟨x,rfl,hx⟩:=pathP_inv hp
     subst h5; rw [rowB_5,if_neg (by decide +kernel),if_pos rfl,reach_iff.mpr hr',hm',route_of hx]; decide +kernel
   simp only [if_neg h5] at h
   by_cases h6:a=("ask" : Str)
   · simp only [if_pos h6] at h
     obtain ⟨p,hp,_⟩:=askP_inv h
     obtain ⟨x,rfl,hx⟩:=pathP_inv hp
     subst h6; rw [rowB_2,if_pos (.inr (.inr rfl))]; exact route_of hx
   simp only [if_neg h6] at h
   cases h
theorem path_one {w:Str} (h:routeB w=true) (ws:List Str):∃ p,pathO w=some p∧pathP (w :: ws)=some (p,ws):=by
 obtain ⟨p,e⟩:=Option.isSome_iff_exists.mp h
 exact ⟨p,e,by show (match pathO w with | some p=>some (p,ws) | none=>none)=_; rw [e]⟩
theorem name_one {w:Str} (h:nameB w=true) (ws:List Str):nameP (w :: ws)=some (w,ws):=if_pos h
theorem reach_one {w:Str} (h:reachB w=true) (ws:List Str):reachP (w :: ws)=some (w,ws):=if_pos (reach_iff.mp h)
theorem thing_leaf (ws:List Str):leafP (("thing" : Str) :: ws)=thingP ws:=by
 unfold leafP; rw [item_cons,if_neg (by decide +kernel),if_pos rfl]
theorem let_leaf (ws:List Str):leafP (("let" : Str) :: ws)=letP ws:=by
 unfold leafP; rw [item_cons,if_neg (by decide +kernel),if_neg (by decide +kernel),if_pos rfl]
theorem elder_leaf (ws:List Str):leafP (("elder" : Str) :: ws)=elderP ws:=by
 unfold leafP; rw [item_cons,if_neg (by decide +kernel),if_neg (by decide +kernel),if_neg (by decide +kernel),if_pos rfl]
theorem all_leaf (ws:List Str):leafP (("all" : Str) :: ws)=allP ws:=by
 unfold leafP; rw [item_cons,if_neg (by decide +kernel),if_neg (by decide +kernel),if_neg (by decide +kernel),if_neg (by decide +kernel),if_pos rfl]
theorem one_leaf (ws:List Str):leafP (("one" : Str) :: ws)=oneP ws:=by
 unfold leafP; rw [item_cons,if_neg (by decide +kernel),if_neg (by decide +kernel),if_neg (by decide +kernel),if_neg (by decide +kernel),if_neg (by decide +kernel),if_pos rfl]
theorem ask_leaf (ws:List Str):leafP (("ask" : Str) :: ws)=askP ws:=by
 unfold leafP; rw [item_cons,if_neg (by decide +kernel),if_neg (by decide +kernel),if_neg (by decide +kernel),if_neg (by decide +kernel),if_neg (by decide +kernel),if_neg (by decide +kernel),if_pos rfl]
theorem row_to {row:List Str} (hn:∀ x∈row,spB x=false) (h:rowB row=true):∃ t,leafP row=some (t,[]):=by
 match row,hn,h with
 | [],_,h=>cases h
 | [_],_,h=>cases h
 | [a, b], _, h =>
   rw [rowB_2] at h
   split at h
   · rename_i z
     obtain ⟨p,e,hp⟩:=path_one h []
     rcases z with rfl | rfl | rfl
     · exact ⟨_,by rw [elder_leaf]; unfold elderP; rw [hp]⟩
     · refine ⟨.leaf (.all p false),?_⟩
       rw [all_leaf]
       show (if b=("on" : Str)∧stopB []=false then _ else (match pathO b with | some p=>some (Tre.leaf (.all p false),[]) | none=>none))=_
       rw [if_neg (fun z=>by cases z.2),e]
     · exact ⟨_,by rw [ask_leaf]; unfold askP; rw [hp]⟩
   · split at h
     · rename_i z
       subst z
       exact ⟨_,by rw [let_leaf]; unfold letP; rw [name_one h]; rfl⟩
     · cases h
 | [a, b, c], hn, h =>
   rw [rowB_3] at h
   split at h
   · rename_i z
     obtain ⟨rfl,rfl⟩:=z
     obtain ⟨p,e,hp⟩:=path_one h []
     refine ⟨.leaf (.all p true),?_⟩
     rw [all_leaf]
     show (if ("on" : Str)=("on" : Str)∧stopB [c]=false then (match pathP [c] with | some (p,rs)=>some (Tre.leaf (.all p true),rs) | none=>none) else _)=_
     rw [if_pos ⟨rfl,stop_row (hn c (by simp)) []⟩,hp]
   · split at h
     · rename_i z
       subst z
       obtain ⟨h1,h2⟩:=Bool.and_eq_true_iff.mp h
       exact ⟨_,by rw [thing_leaf]; unfold thingP; rw [reach_one h1]; show (match nameP [c] with | none=>none | some (n,w2)=>_)=_; rw [name_one h2]; rfl⟩
     · cases h
 | [a,b,c,d],_,h =>
   rw [rowB_4] at h
   split at h
   · rename_i z
     subst z
     obtain ⟨g1,h3⟩:=Bool.and_eq_true_iff.mp h
     obtain ⟨n1,h2⟩:=Bool.and_eq_true_iff.mp g1
     have h2:=of_decide_eq_true h2
     subst h2
     obtain ⟨p,e,hp⟩:=path_one h3 []
     have hs:sortP [("of" : Str),d]=some (some p,[]):=by
      unfold sortP
      rw [if_pos (show [("of" : Str),d].head?=some ("of" : Str) from rfl)]
      show (match pathP [d] with | some (p,rs)=>some (some p,rs) | none=>none)=_
      rw [hp]
     exact ⟨_,by rw [let_leaf]; unfold letP; rw [name_one n1]; show (match sortP [("of" : Str),d] with | none=>none | some (n,w2)=>_)=_; rw [hs]⟩
   · cases h
 | [a, b, c, d, e], _, h =>
   rw [rowB_5] at h
   split at h
   · rename_i z
     subst z
     obtain ⟨g1,h4⟩:=Bool.and_eq_true_iff.mp h
     obtain ⟨g2,h3⟩:=Bool.and_eq_true_iff.mp g1
     obtain ⟨n1,n2⟩:=Bool.and_eq_true_iff.mp g2
     have h3:=of_decide_eq_true h3
     subst h3
     obtain ⟨p,_,hp⟩:=path_one h4 []
     have hs:sortP [("of" : Str),e]=some (some p,[]):=by
      unfold sortP
      rw [if_pos (show [("of" : Str),e].head?=some ("of" : Str) from rfl)]
      show (match pathP [e] with | some (p,rs)=>some (some p,rs) | none=>none)=_
      rw [hp]
     exact ⟨_,by rw [thing_leaf]; unfold thingP; rw [reach_one n1]; show (match nameP [c,("of" : Str),e] with | none=>none | some (n,w2)=>_)=_; rw [name_one n2]; show (match sortP [("of" : Str),e] with | none=>none | some (n,w2)=>_)=_; rw [hs]⟩
   · split at h
     · rename_i z
       subst z
       obtain ⟨g1,h4⟩:=Bool.and_eq_true_iff.mp h
       obtain ⟨g2,h3⟩:=Bool.and_eq_true_iff.mp g1
       obtain ⟨n1,n2⟩:=Bool.and_eq_true_iff.mp g2
       have h3:=of_decide_eq_true h3
       subst h3
       obtain ⟨p,_,hp⟩:=path_one h4 []
       exact ⟨_,by rw [one_leaf]; unfold oneP; rw [reach_one n1]; show (match nameP [c,("from" : Str),e] with | none=>none | some (n,w2)=>_)=_; rw [name_one n2]; show (match skipP ("from" : Str) [("from" : Str),e] with | none=>none | some w3=>_)=_; rw [skipP_ok]; show (match pathP [e] with | none=>none | some (n,w2)=>_)=_; rw [hp]⟩
     · cases h
 | _ :: _ :: _ :: _ :: _ :: _ :: _,_,h=>cases h
end L2
namespace L2
open PySem PySem.Spec PyProof.Rows Ord
theorem part_sub {item:List Str→Option (Tre × List Str)} {row rest:List Str} (hn:∀ x∈row,spB x=false) (hr:SpR rest) {t:Tre} {us:List Str} (h:partP item (row++rest)=some (t,us)) :
 ∃ r n ws ts,row=[r,n]∧rest=pO :: ws∧reachB r=true∧nameB n=true∧innerP item ws=some (ts,pC :: us)∧t=.node r n ts:=by
 obtain ⟨r,w1,n,w2,w3,ts,w4,e1,e2,e3,e4,e5,rfl⟩:=partP_inv h
 rw [reachP_app hr] at e1
 obtain ⟨r1,rfl,f1⟩:=cat_some e1
 rw [nameP_app hr] at e2
 obtain ⟨r2,rfl,f2⟩:=cat_some e2
 obtain ⟨rfl,hr1⟩:=reachP_inv f1
 obtain ⟨rfl,hn1⟩:=nameP_inv f2
 have e3:=skipP_inv e3
 have e5:=skipP_inv e5
 subst e5
 cases r2 with
 | nil=>exact ⟨r,n,w3,ts,rfl,e3,reach_iff.mpr hr1,hn1,e4,rfl⟩
 | cons x r2 =>
   have hx:x=pO:=(List.cons.inj e3).1
   have:=hn x (by simp)
   rw [hx] at this
   exact absurd this (by decide +kernel)
theorem part_to {item:List Str→Option (Tre × List Str)} {r n:Str} {ws us:List Str} {ts:List Tre} (h1:reachB r=true) (h2:nameB n=true) (h:innerP item ws=some (ts,pC :: us)):partP item (r :: n :: pO :: ws)=some (.node r n ts,us):=by
 unfold partP
 rw [reach_one h1]
 show (match nameP (n :: pO :: ws) with | none=>none | some (n,w2)=>_)=_
 rw [name_one h2]
 show (match skipP pO (pO :: ws) with | none=>none | some w3=>_)=_
 rw [skipP_ok]
 show (match innerP item ws with | none=>none | some (ts,w4)=>_)=_
 rw [h]
 show (match skipP pC (pC :: us) with | none=>none | some w5=>_)=_
 rw [skipP_ok]
theorem more_fuel {item:List Str→Option (Tre × List Str)} (hi:∀ ws t rs,item ws=some (t,rs)→rs.length≤ws.length):∀ (n m:Nat) (ws:List Str),ws.length≤n→ws.length≤m→moreP item n ws=moreP item m ws
 | 0,0,_,_,_=>rfl
 | 0,m + 1,ws,h,_=>by
   obtain rfl:ws=[]:=List.length_eq_zero_iff.mp (by omega)
   rw [moreP,moreP,if_neg (by simp)]
 | n + 1,0,ws,_,h=>by
   obtain rfl:ws=[]:=List.length_eq_zero_iff.mp (by omega)
   rw [moreP,moreP,if_neg (by simp)]
 | n + 1, m + 1, ws, h1, h2 => by
   rw [moreP,moreP]
   by_cases hh:ws.head?=some (";" : Str)
   · rw [if_pos hh,if_pos hh]
     cases e:item ws.tail with
     | none=>rfl
     | some x =>
       have hx:=hi _ _ _ e
       have hw:ws≠[]:=fun z=>by rw [z] at hh; cases hh
       have:ws.tail.length + 1=ws.length:=by cases ws with | nil=>exact absurd rfl hw | cons=>rfl
       show (match moreP item n x.2 with | none=>none | some (ts,w2)=>_)=(match moreP item m x.2 with | none=>none | some (ts,w2)=>_)
       rw [more_fuel hi n m x.2 (by omega) (by omega)]
   · rw [if_neg hh,if_neg hh]
theorem more_not {item:List Str→Option (Tre × List Str)} {ws:List Str} (h:ws.head?≠some (";" : Str)):moreP item ws.length ws=some ([],ws):=by
 cases ws with
 | nil=>rfl
 | cons a ws=>rw [List.length_cons,moreP,if_neg h]
theorem more_semi {d:Nat} (ws:List Str):moreO d (pS :: ws)↔itemsO d ws:=by
 unfold moreO itemsO itemsP
 rw [List.length_cons,moreP,if_pos (show (pS :: ws).head?=some (";" : Str) from rfl)]
 show (∃ ts us,(match prsI (31 - d) ws with | none=>none | some (t,w1)=>match moreP (prsI (31 - d)) ws.length w1 with | none=>none | some (ts,w2)=>some (t :: ts,w2))=some (ts,us)∧restO d us)↔_
 cases e:prsI (31 - d) ws with
 | none=>exact Iff.rfl
 | some x =>
   have hx:=prsI_le _ _ _ _ e
   show (∃ ts us,(match moreP (prsI (31 - d)) ws.length x.2 with | none=>none | some (ts,w2)=>some (x.1 :: ts,w2))=some (ts,us)∧restO d us)↔(∃ ts us,(match moreP (prsI (31 - d)) x.2.length x.2 with | none=>none | some (ts,w2)=>some (x.1 :: ts,w2))=some (ts,us)∧restO d us)
   rw [more_fuel (prsI_le _) ws.length x.2.length x.2 hx (Nat.le_refl _)]
theorem rest_not {d:Nat} {ws:List Str} (h0:ws≠[]) (h:ws.head?≠some pC):¬ restO d ws:=by
 cases d with
 | zero=>exact h0
 | succ d=>rintro ⟨rs,rfl,_⟩; exact h rfl
theorem more_other {d:Nat} {ws:List Str} (h0:ws≠[]) (h1:ws.head?≠some pS) (h2:ws.head?≠some pC):¬ moreO d ws:=by
 rintro ⟨ts,us,e,r⟩
 rw [more_not h1] at e
 cases e
 exact rest_not h0 h2 r
theorem more_close {d:Nat} (ws:List Str):moreO d (pC :: ws)↔∃ d',d=d' + 1∧moreO d' ws:=by
 unfold moreO
 rw [more_not (show (pC :: ws).head?≠some (";" : Str) from fun z=>absurd (Option.some.inj z) (by decide +kernel))]
 constructor
 · rintro ⟨ts,us,e,r⟩
   cases e
   cases d with
   | zero=>cases r
   | succ d =>
     obtain ⟨rs,e,ts,us,h,r⟩:=r
     cases e
     exact ⟨d,rfl,ts,us,h,r⟩
 · rintro ⟨d',rfl,ts,us,h,r⟩
   exact ⟨[],_,rfl,ws,rfl,ts,us,h,r⟩
theorem more_nil {d:Nat}:moreO d []↔d=0:=by
 constructor
 · rintro ⟨ts,us,e,r⟩
   cases e
   cases d with
   | zero=>rfl
   | succ d=>obtain ⟨rs,e,_⟩:=r; cases e
 · rintro rfl
   exact ⟨[],[],rfl,rfl⟩
theorem sort_suf {ws rs:List Str} {o:Option (List Str)} (h:sortP ws=some (o,rs)):∀ x∈rs,x∈ws:=by
 rcases sortP_inv h with ⟨_,rfl,_⟩ | ⟨p,_,hh,hp⟩
 · exact fun x hx=>hx
 · obtain ⟨y,e,_⟩:=pathP_inv hp
   rw [head_cons hh,e]
   exact fun x hx=>List.mem_cons_of_mem _ (List.mem_cons_of_mem _ hx)
theorem leaf_suf {row r0 : List Str} {t : Tre} (h : leafP row = some (t, r0)) : ∀ x ∈ r0, x ∈ row := by
 cases row with
 | nil=>cases h
 | cons a row =>
   refine fun x hx=>List.mem_cons_of_mem _ ?_
   revert x
   simp only [leafP,item_cons] at h
   by_cases h0:a=("part" : Str)
   · simp only [if_pos h0] at h; cases h
   simp only [if_neg h0] at h
   by_cases h1:a=("thing" : Str)
   · simp only [if_pos h1] at h
     obtain ⟨r,w1,n,w2,o,hr,hm,hs,_⟩:=thingP_inv h
     obtain ⟨rfl,_⟩:=reachP_inv hr
     obtain ⟨rfl,_⟩:=nameP_inv hm
     exact fun x hx=>List.mem_cons_of_mem _ (List.mem_cons_of_mem _ (sort_suf hs x hx))
   simp only [if_neg h1] at h
   by_cases h2:a=("let" : Str)
   · simp only [if_pos h2] at h
     obtain ⟨n,w2,o,hm,hs,_⟩:=letP_inv h
     obtain ⟨rfl,_⟩:=nameP_inv hm
     exact fun x hx=>List.mem_cons_of_mem _ (sort_suf hs x hx)
   simp only [if_neg h2] at h
   by_cases h3:a=("elder" : Str)
   · simp only [if_pos h3] at h
     obtain ⟨p,hp,_⟩:=elderP_inv h
     obtain ⟨y,rfl,_⟩:=pathP_inv hp
     exact fun x hx=>List.mem_cons_of_mem _ hx
   simp only [if_neg h3] at h
   by_cases h4:a=("all" : Str)
   · simp only [if_pos h4] at h
     cases row with
     | nil=>cases h
     | cons b row =>
       have h:(if b=("on" : Str)∧stopB row=false then (match pathP row with
        | some (p,rs)=>some (Tre.leaf (.all p true),rs)
        | none=>none) else match pathO b with
        | some p=>some (.leaf (.all p false),row)
        | none=>none)=some (t,r0):=h
       split at h
       · cases e:pathP row with
         | none=>rw [e] at h; cases h
         | some x =>
           rw [e] at h
           obtain ⟨x1,x2⟩:=x
           cases h
           obtain ⟨y,rfl,_⟩:=pathP_inv e
           exact fun x hx=>List.mem_cons_of_mem _ (List.mem_cons_of_mem _ hx)
       · cases e:pathO b with
         | none=>rw [e] at h; cases h
         | some p=>rw [e] at h; cases h; exact fun x hx=>List.mem_cons_of_mem _ hx
   simp only [if_neg h4] at h
   by_cases h5:a=("one" : Str)
   · simp only [if_pos h5] at h
     obtain ⟨r,w1,n,w2,w3,p,hr,hm,hk,hp,_⟩:=oneP_inv h
     obtain ⟨rfl,_⟩:=reachP_inv hr
     obtain ⟨rfl,_⟩:=nameP_inv hm
     have hk:=skipP_inv hk
     subst hk
     obtain ⟨x,rfl,_⟩:=pathP_inv hp
     exact fun x hx=>List.mem_cons_of_mem _ (List.mem_cons_of_mem _ (List.mem_cons_of_mem _ (List.mem_cons_of_mem _ hx)))
   simp only [if_neg h5] at h
   by_cases h6:a=("ask" : Str)
   · simp only [if_pos h6] at h
     obtain ⟨p,hp,_⟩:=askP_inv h
     obtain ⟨y,rfl,_⟩:=pathP_inv hp
     exact fun x hx=>List.mem_cons_of_mem _ hx
   simp only [if_neg h6] at h
   cases h
def prsPart:Nat→List Str→Option (Tre × List Str)
 | 0=>fun _=>none
 | d + 1=>partP (prsI d)
theorem prs_item (k:Nat):prsI k=itemP (prsPart k):=by cases k <;> rfl
theorem headS {x:Str} {ws:List Str} (h:spB x=false):(x :: ws).head?≠some pS∧(x :: ws).head?≠some pC:=by
 constructor <;> intro z <;> rw [Option.some.inj z] at h <;> revert h <;> decide +kernel
theorem items_stop {d:Nat} {row rest:List Str} (hn:∀ x∈row,spB x=false) (hr:SpR rest) (hs:stopB rest=true):itemsO d (row++rest)↔rowB row=true∧moreO d rest:=by
 constructor
 · rintro ⟨ts,us,e,r⟩
   obtain ⟨t,w1,us',e1,e2,_⟩:=itemsP_inv e
   rw [prs_item] at e1
   rcases item_sub hn hr e1 with ⟨r0,rfl,hl⟩ | ⟨row',rfl,hp⟩
   · cases r0 with
     | nil=>exact ⟨row_of hl,us',us,e2,r⟩
     | cons x r0 =>
       have hx:=hn x (leaf_suf hl x (by simp))
       rw [List.cons_append] at e2
       exact absurd ⟨us',us,e2,r⟩ (more_other (by simp) (headS hx).1 (headS hx).2)
   · cases k:31 - d with
     | zero=>rw [k] at hp; cases hp
     | succ j =>
       rw [k] at hp
       obtain ⟨_,_,ws,_,_,rfl,_⟩:=part_sub (fun x hx=>hn x (List.mem_cons_of_mem _ hx)) hr hp
       revert hs
       exact fun hs=>absurd hs (by show ¬ (decide (pO=(";" : Str)) || decide (pO=(")" : Str)))=true; decide +kernel)
 · rintro ⟨h,ts,us,e,r⟩
   obtain ⟨t,ht⟩:=row_to hn h
   refine ⟨t :: ts,us,?_,r⟩
   unfold itemsP
   rw [show prsI (31 - d) (row++rest)=some (t,rest) by rw [prs_item]; exact item_stop hs hn hr ht]
   show (match moreP (prsI (31 - d)) rest.length rest with | none=>none | some (ts,w2)=>some (t :: ts,w2))=_
   rw [e]
def innerO (d:Nat) (ws:List Str):Prop:=∃ ts us,innerP (prsI (31 - d)) ws=some (ts,us)∧restO d us
theorem head_iff {row:List Str}:headB row=true↔∃ r n,row=[("part" : Str),r,n]∧reachB r=true∧nameB n=true:=by
 match row with
 | []=>exact ⟨fun h=>(by cases h),fun ⟨_,_,h,_⟩=>(by cases h)⟩
 | [_]=>exact ⟨fun h=>(by cases h),fun ⟨_,_,h,_⟩=>(by cases h)⟩
 | [_,_]=>exact ⟨fun h=>(by cases h),fun ⟨_,_,h,_⟩=>(by cases h)⟩
 | [a,b,c] =>
   show (decide (a=("part" : Str)) && reachB b && nameB c)=true↔_
   constructor
   · intro h
     obtain ⟨h1,h3⟩:=Bool.and_eq_true_iff.mp h
     obtain ⟨h1,h2⟩:=Bool.and_eq_true_iff.mp h1
     exact ⟨b,c,by rw [of_decide_eq_true h1],h2,h3⟩
   · rintro ⟨r,n,e,h2,h3⟩
     cases e
     rw [h2,h3]; decide +kernel
 | _ :: _ :: _ :: _ :: _=>exact ⟨fun h=>(by cases h),fun ⟨_,_,h,_⟩=>(by cases h)⟩
theorem items_open {d:Nat} (hd:d≤31) {row ws:List Str} (hn:∀ x∈row,spB x=false):itemsO d (row++pO :: ws)↔headB row=true∧d≠31∧innerO (d + 1) ws:=by
 have hr:SpR (pO :: ws):=.inr ⟨_,_,rfl,by decide +kernel⟩
 constructor
 · rintro ⟨ts,us,e,r⟩
   obtain ⟨t,w1,us',e1,e2,_⟩:=itemsP_inv e
   rw [prs_item] at e1
   rcases item_sub hn hr e1 with ⟨r0,rfl,hl⟩ | ⟨row',rfl,hp⟩
   · exfalso
     cases r0 with
     | nil=>exact more_other (d:=d) (ws:=pO :: ws) (by simp) (fun z=>absurd (Option.some.inj z) (by decide +kernel)) (fun z=>absurd (Option.some.inj z) (by decide +kernel)) ⟨us',us,e2,r⟩
     | cons x r0 =>
       have hx:=hn x (leaf_suf hl x (by simp))
       rw [List.cons_append] at e2
       exact absurd ⟨us',us,e2,r⟩ (more_other (by simp) (headS hx).1 (headS hx).2)
   · cases k:31 - d with
     | zero=>rw [k] at hp; cases hp
     | succ j =>
       rw [k] at hp
       obtain ⟨a,n,ws',ts',rfl,e,h1,h2,hi,_⟩:=part_sub (fun x hx=>hn x (List.mem_cons_of_mem _ hx)) hr hp
       cases e
       refine ⟨head_iff.mpr ⟨a,n,rfl,h1,h2⟩,by omega,ts',pC :: w1,?_,w1,rfl,us',us,e2,r⟩
       rw [show 31 - (d + 1)=j by omega]; exact hi
 · rintro ⟨hh,h31,ts,us,hi,rs,rfl,ts',us',hm,r⟩
   obtain ⟨a,n,rfl,h1,h2⟩:=head_iff.mp hh
   refine ⟨.node a n ts :: ts',us',?_,r⟩
   unfold itemsP
   rw [show prsI (31 - d) ([("part" : Str),a,n]++pO :: ws)=some (.node a n ts,rs) by
    rw [prs_item,show 31 - d=31 - (d + 1) + 1 by omega]
    show itemP (prsPart (31 - (d + 1) + 1)) (("part" : Str) :: a :: n :: pO :: ws)=_
    rw [item_cons,if_pos rfl]
    exact part_to h1 h2 hi]
   show (match moreP (prsI (31 - d)) rs.length rs with | none=>none | some (ts2,w2)=>some (Tre.node a n ts :: ts2,w2))=_
   rw [hm]
end L2
namespace L2
open PySem PySem.Spec PyProof.Rows Ord
theorem goodA_nil (d:Nat) (r:List Str) (e f:Bool):goodA d r e f []=(endB r e false && decide (d=0)):=by rw [goodA]
theorem goodA_O (d:Nat) (r:List Str) (e f:Bool) (ws:List Str):goodA d r e f (pO :: ws)=((!e && headB r && decide (d≠31)) && goodA (d + 1) [] false true ws):=by rw [goodA,if_pos rfl]
theorem goodA_S (d:Nat) (r:List Str) (e f:Bool) (ws:List Str):goodA d r e f (pS :: ws)=(endB r e false && goodA d [] false false ws):=by rw [goodA,if_neg (by decide +kernel),if_pos rfl]
theorem goodA_C (d:Nat) (r:List Str) (e f:Bool) (ws:List Str):goodA d r e f (pC :: ws)=((endB r e f && decide (d≠0)) && goodA (d - 1) [] true false ws):=by rw [goodA,if_neg (by decide +kernel),if_neg (by decide +kernel),if_pos rfl]
theorem end_row (r:List Str):endB r false false=rowB r:=by
 unfold endB
 rw [if_neg (fun z=>by cases z.2)]; rfl
theorem end_done (r:List Str) (f:Bool):endB r true f=decide (r=[]):=by
 unfold endB
 cases r with
 | nil=>rw [if_pos ⟨rfl,rfl⟩]; rfl
 | cons a r=>rw [if_neg (fun z=>by cases z.1)]; rfl
theorem end_fresh {r:List Str} (h:r≠[]):endB r false true=rowB r:=by
 unfold endB
 rw [if_neg (fun z=>h z.1)]; rfl
theorem span:∀ ws:List Str,∃ row rest,ws=row++rest∧(∀ x∈row,spB x=false)∧SpR rest
 | []=>⟨[],[],rfl,fun _ h=>absurd h List.not_mem_nil,.inl rfl⟩
 | w :: ws => by
   cases e:spB w with
   | true=>exact ⟨[],w :: ws,rfl,fun _ h=>absurd h List.not_mem_nil,.inr ⟨w,ws,rfl,e⟩⟩
   | false =>
     obtain ⟨row,rest,rfl,hn,hr⟩:=span ws
     exact ⟨w :: row,rest,rfl,fun x hx=>(List.mem_cons.mp hx).elim (fun z=>by rw [z]; exact e) fun z=>hn x z,hr⟩
theorem sp_cases {rest:List Str} (h:SpR rest):rest=[]∨(∃ ws,rest=pO :: ws)∨(∃ ws,rest=pS :: ws)∨∃ ws,rest=pC :: ws:=by
 rcases h with rfl | ⟨w,ws,rfl,hw⟩
 · exact .inl rfl
 · simp only [spB,Bool.or_eq_true,decide_eq_true_eq] at hw
   rcases hw with (rfl | rfl) | rfl
   · exact .inr (.inl ⟨ws,rfl⟩)
   · exact .inr (.inr (.inr ⟨ws,rfl⟩))
   · exact .inr (.inr (.inl ⟨ws,rfl⟩))
def Good3 (ws:List Str):Prop:=∀ d,d≤31→(moreO d ws↔goodA d [] true false ws=true)∧(itemsO d ws↔goodA d [] false false ws=true)∧(innerO d ws↔goodA d [] false true ws=true)
theorem good_rest {rest:List Str} (hr:SpR rest) (ih:∀ ws,ws.length < rest.length→Good3 ws) {d:Nat} (hd:d≤31):moreO d rest↔goodA d [] true false rest=true:=by
 rcases sp_cases hr with rfl | ⟨ws,rfl⟩ | ⟨ws,rfl⟩ | ⟨ws,rfl⟩
 · rw [more_nil,goodA_nil,end_done]; simp
 · rw [goodA_O]
   refine ⟨fun h=>absurd h (more_other (by simp) (fun z=>absurd (Option.some.inj z) (by decide +kernel)) fun z=>absurd (Option.some.inj z) (by decide +kernel)),fun h=>by simp at h⟩
 · rw [more_semi,goodA_S,end_done,((ih ws (by simp)) d hd).2.1]; simp
 · rw [more_close,goodA_C,end_done]
   constructor
   · rintro ⟨d',rfl,h⟩
     have:=((ih ws (by simp)) d' (by omega)).1.mp h
     simp [this]
   · intro h
     simp only [decide_true,Bool.true_and,Bool.and_eq_true,decide_eq_true_eq] at h
     obtain ⟨h0,h⟩:=h
     exact ⟨d - 1,by omega,((ih ws (by simp)) (d - 1) (by omega)).1.mpr h⟩
theorem good_row {row rest:List Str} (hr:SpR rest) (hs:stopB rest=true) (d:Nat):goodA d row false false rest=(rowB row && goodA d [] true false rest):=by
 rcases sp_cases hr with rfl | ⟨ws,rfl⟩ | ⟨ws,rfl⟩ | ⟨ws,rfl⟩
 · rw [goodA_nil,goodA_nil,end_row,end_done]; simp
 · exact absurd hs (by show ¬ (decide (pO=(";" : Str)) || decide (pO=(")" : Str)))=true; decide +kernel)
 · rw [goodA_S,goodA_S,end_row,end_done]; simp
 · rw [goodA_C,goodA_C,end_row,end_done]; simp [Bool.and_assoc]
theorem good3 : ∀ (n : Nat) (ws : List Str), ws.length ≤ n → Good3 ws := by
 intro n
 induction n with
 | zero =>
   intro ws hl d hd
   obtain rfl:ws=[]:=List.length_eq_zero_iff.mp (by omega)
   refine ⟨good_rest (.inl rfl) (fun ws h=>by simp at h) hd,?_,?_⟩
   · rw [show itemsO d []↔itemsO d ([]++[]) from Iff.rfl,items_stop (fun _ h=>absurd h List.not_mem_nil) (.inl rfl) rfl,goodA_nil,end_row]
     simp [rowB]
   · rw [show innerO d []↔itemsO d ([]++[]) from Iff.rfl,items_stop (fun _ h=>absurd h List.not_mem_nil) (.inl rfl) rfl,goodA_nil,end_row]
     simp [rowB]
 | succ n ih =>
   intro ws hl d hd
   obtain ⟨row,rest,rfl,hn,hr⟩:=span ws
   rw [List.length_append] at hl
   have hR:∀ {d},d≤31→(moreO d rest↔goodA d [] true false rest=true):=fun hd=>good_rest hr (fun ws h=>ih ws (by omega)) hd
   have hP : itemsO d (row ++ rest) ↔ goodA d row false false rest = true := by
    rcases Bool.eq_false_or_eq_true (stopB rest) with hs | hs
    · rw [items_stop hn hr hs,good_row hr hs,hR hd,Bool.and_eq_true]
    · rcases sp_cases hr with rfl | ⟨ws,rfl⟩ | ⟨ws,rfl⟩ | ⟨ws,rfl⟩
      · cases hs
      · rw [items_open hd hn,goodA_O]
        simp only [List.length_cons] at hl
        constructor
        · rintro ⟨h1,h2,h3⟩
          have:=((ih ws (by omega)) (d + 1) (by omega)).2.2.mp h3
          simp [h1,h2,this]
        · intro h
          simp only [Bool.not_false,Bool.true_and,Bool.and_eq_true,decide_eq_true_eq] at h
          obtain ⟨⟨h1,h2⟩,h3⟩:=h
          exact ⟨h1,h2,((ih ws (by omega)) (d + 1) (by omega)).2.2.mpr h3⟩
      · rw [stop_semi] at hs; cases hs
      · rw [stop_close] at hs; cases hs
   refine ⟨?_,?_,?_⟩
   · rw [goodA_row d true false row [] rest hn,List.nil_append]
     cases row with
     | nil=>exact hR hd
     | cons x row =>
       have hx:=hn x (by simp)
       refine ⟨fun h=>absurd h (more_other (by simp) (headS hx).1 (headS hx).2),fun h=>?_⟩
       rcases sp_cases hr with rfl | ⟨ws,rfl⟩ | ⟨ws,rfl⟩ | ⟨ws,rfl⟩
       · rw [goodA_nil,end_done] at h; simp at h
       · rw [goodA_O] at h; simp at h
       · rw [goodA_S,end_done] at h; simp at h
       · rw [goodA_C,end_done] at h; simp at h
   · rw [goodA_row d false false row [] rest hn,List.nil_append]; exact hP
   · rw [goodA_row d false true row [] rest hn,List.nil_append]
     have hi:(row++rest).head?≠some pC→(innerO d (row++rest)↔itemsO d (row++rest)):=fun hh=>by
      unfold innerO itemsO innerP
      rw [if_neg hh]
     cases row with
     | cons x row =>
       have hx:=hn x (by simp)
       rw [hi (headS hx).2,hP]
       rcases sp_cases hr with rfl | ⟨ws,rfl⟩ | ⟨ws,rfl⟩ | ⟨ws,rfl⟩
       · rw [goodA_nil,goodA_nil]
       · rw [goodA_O,goodA_O]
       · rw [goodA_S,goodA_S]
       · rw [goodA_C,goodA_C,end_row,end_fresh (by simp)]
     | nil =>
       rcases sp_cases hr with rfl | ⟨ws,rfl⟩ | ⟨ws,rfl⟩ | ⟨ws,rfl⟩
       · rw [hi (by simp),hP,goodA_nil,goodA_nil]
       · rw [hi (fun z=>absurd (Option.some.inj z) (by decide +kernel)),hP,goodA_O,goodA_O]
       · rw [hi (fun z=>absurd (Option.some.inj z) (by decide +kernel)),hP,goodA_S,goodA_S]
       · have e1:innerO d ([]++pC :: ws)↔moreO d (pC :: ws):=by
          unfold innerO moreO innerP
          rw [List.nil_append,if_pos (show (pC :: ws).head?=some (")" : Str) from rfl),more_not (show (pC :: ws).head?≠some (";" : Str) from fun z=>absurd (Option.some.inj z) (by decide +kernel))]
         have e2:endB [] false true=endB [] true false:=rfl
         rw [e1,hR hd,goodA_C,goodA_C,e2]
theorem good_iff (ws:List Str):goodA 0 [] false false ws=true↔∃ ts,itemsP (prsI 31) ws=some (ts,[]):=by
 rw [←((good3 _ ws (Nat.le_refl _)) 0 (by decide)).2.1]
 constructor
 · rintro ⟨ts,us,e,r⟩
   have r:us=[]:=r
   subst r
   exact ⟨ts,e⟩
 · rintro ⟨ts,e⟩
   exact ⟨ts,[],e,rfl⟩
end L2
namespace L2
open PySem PySem.Spec PyProof.Rows Ord
theorem path_back {w:Str} {p:List Str} (h:pathO w=some p):dotW p=w:=by
 unfold pathO at h
 split at h
 · cases h
   show Txt.join ("." : Str) (Txt.split w ("." : Str))=w
   rw [show Txt.join ("." : Str) (Txt.split w ("." : Str))=Str.join ("." : Str) (Txt.split w ("." : Str)) from StrLaws.glued_eq_join _ _]
   exact StrLaws.join_split w _
 · cases h
theorem sort_back {ws rs:List Str} {o:Option (List Str)} (h:sortP ws=some (o,rs)):ws=ofW o++rs:=by
 rcases sortP_inv h with ⟨rfl,rfl,_⟩ | ⟨p,rfl,hh,hp⟩
 · rfl
 · obtain ⟨y,e,hy⟩:=pathP_inv hp
   rw [head_cons hh,e]
   show _=[("of" : Str),dotW p]++rs
   rw [path_back hy]; rfl
theorem leaf_back {row r0 : List Str} {t : Tre} (h : leafP row = some (t, r0)) : row = wrdT t ++ r0 := by
 cases row with
 | nil=>cases h
 | cons a row =>
   simp only [leafP,item_cons] at h
   by_cases h0:a=("part" : Str)
   · simp only [if_pos h0] at h; cases h
   simp only [if_neg h0] at h
   by_cases h1:a=("thing" : Str)
   · simp only [if_pos h1] at h
     obtain ⟨r,w1,n,w2,o,hr,hm,hs,rfl⟩:=thingP_inv h
     obtain ⟨rfl,_⟩:=reachP_inv hr
     obtain ⟨rfl,_⟩:=nameP_inv hm
     rw [h1,sort_back hs,wrdT]; rfl
   simp only [if_neg h1] at h
   by_cases h2:a=("let" : Str)
   · simp only [if_pos h2] at h
     obtain ⟨n,w2,o,hm,hs,rfl⟩:=letP_inv h
     obtain ⟨rfl,_⟩:=nameP_inv hm
     rw [h2,sort_back hs,wrdT]; rfl
   simp only [if_neg h2] at h
   by_cases h3:a=("elder" : Str)
   · simp only [if_pos h3] at h
     obtain ⟨p,hp,rfl⟩:=elderP_inv h
     obtain ⟨y,rfl,hy⟩:=pathP_inv hp
     rw [h3,←path_back hy,wrdT]; rfl
   simp only [if_neg h3] at h
   by_cases h4:a=("all" : Str)
   · simp only [if_pos h4] at h
     cases row with
     | nil=>cases h
     | cons b row =>
       have h:(if b=("on" : Str)∧stopB row=false then (match pathP row with
        | some (p,rs)=>some (Tre.leaf (.all p true),rs)
        | none=>none) else match pathO b with
        | some p=>some (.leaf (.all p false),row)
        | none=>none)=some (t,r0):=h
       split at h
       · rename_i z
         cases e:pathP row with
         | none=>rw [e] at h; cases h
         | some x =>
           rw [e] at h
           obtain ⟨x1,x2⟩:=x
           cases h
           obtain ⟨y,rfl,hy⟩:=pathP_inv e
           rw [h4,z.1,←path_back hy,wrdT]; rfl
       · cases e:pathO b with
         | none=>rw [e] at h; cases h
         | some p=>rw [e] at h; cases h; rw [h4,←path_back e,wrdT]; rfl
   simp only [if_neg h4] at h
   by_cases h5:a=("one" : Str)
   · simp only [if_pos h5] at h
     obtain ⟨r,w1,n,w2,w3,p,hr,hm,hk,hp,rfl⟩:=oneP_inv h
     obtain ⟨rfl,_⟩:=reachP_inv hr
     obtain ⟨rfl,_⟩:=nameP_inv hm
     have hk:=skipP_inv hk
     subst hk
     obtain ⟨x,rfl,hx⟩:=pathP_inv hp
     rw [h5,←path_back hx,wrdT]; rfl
   simp only [if_neg h5] at h
   by_cases h6:a=("ask" : Str)
   · simp only [if_pos h6] at h
     obtain ⟨p,hp,rfl⟩:=askP_inv h
     obtain ⟨y,rfl,hy⟩:=pathP_inv hp
     rw [h6,←path_back hy,wrdT]; rfl
   simp only [if_neg h6] at h
   cases h
theorem item_back {part:List Str→Option (Tre × List Str)} (hp:∀ ws t rs,part ws=some (t,rs)→("part" : Str) :: ws=wrdT t++rs) {ws rs:List Str} {t:Tre} (h:itemP part ws=some (t,rs)):ws=wrdT t++rs:=by
 cases ws with
 | nil=>cases h
 | cons a ws =>
   by_cases h0:a=("part" : Str)
   · rw [item_cons,if_pos h0] at h
     rw [h0]; exact hp _ _ _ h
   · refine leaf_back ?_
     rw [←h]
     unfold leafP
     rw [item_cons,item_cons,if_neg h0,if_neg h0]
theorem more_back {item:List Str→Option (Tre × List Str)} (hi:∀ ws t rs,item ws=some (t,rs)→ws=wrdT t++rs):∀ {n:Nat} {ws rs:List Str} {ts:List Tre},moreP item n ws=some (ts,rs)→ws=tlW ts++rs
 | 0,ws,rs,ts,h=>by rw [moreP] at h; cases h; rw [tlW]; rfl
 | n + 1, ws, rs, ts, h => by
   rw [moreP] at h
   split at h
   · rename_i hh
     cases e:item ws.tail with
     | none=>rw [e] at h; cases h
     | some x =>
       rw [e] at h
       obtain ⟨t,w1⟩:=x
       have h:(match moreP item n w1 with | none=>none | some (ts,w2)=>some (t :: ts,w2))=some (ts,rs):=h
       cases e2:moreP item n w1 with
       | none=>rw [e2] at h; cases h
       | some y =>
         rw [e2] at h
         obtain ⟨us,w2⟩:=y
         cases h
         rw [head_cons hh,hi _ _ _ e,more_back hi e2,tlW]
         simp
   · cases h; rw [tlW]; rfl
theorem items_back {item:List Str→Option (Tre × List Str)} (hi:∀ ws t rs,item ws=some (t,rs)→ws=wrdT t++rs) {ws rs:List Str} {ts:List Tre} (h:itemsP item ws=some (ts,rs)):ws=wrdL ts++rs:=by
 obtain ⟨t,w1,us,e1,e2,rfl⟩:=itemsP_inv h
 rw [hi _ _ _ e1,more_back hi e2,wrdL,List.append_assoc]
theorem prs_back:∀ (d:Nat) (ws:List Str) (t:Tre) (rs:List Str),prsI d ws=some (t,rs)→ws=wrdT t++rs
 | 0,ws,t,rs,h=>leaf_back h
 | d + 1,ws,t,rs,h=>by
   rw [prsI] at h
   refine item_back (fun ws t rs h=>?_) h
   obtain ⟨r,w1,n,w2,w3,ts,w4,e1,e2,e3,e4,e5,rfl⟩:=partP_inv h
   obtain ⟨rfl,_⟩:=reachP_inv e1
   obtain ⟨rfl,_⟩:=nameP_inv e2
   have e3:=skipP_inv e3
   have e5:=skipP_inv e5
   subst e3 e5
   have:w3=wrdL ts++(")" : Str) :: rs:=by
    unfold innerP at e4
    split at e4
    · cases e4; rw [wrdL]; rfl
    · exact items_back (prs_back d) e4
   rw [this,wrdT]
   simp
theorem read_back {ws:List Str} {ts:List Tre} (h:itemsP (prsI 31) ws=some (ts,[])):wrdL ts=ws:=by
 have:=items_back (prs_back 31) h
 rw [this,List.append_nil]
end L2
namespace L2
open PySem PySem.Spec PyProof.Rows Ord
theorem join_ge {c:Nat}:∀ {ws:List Str} {y:Str},y∈ws→y.length≤(Str.join ⟨#[c]⟩ ws).length
 | [a],y,h=>by rw [List.mem_singleton.mp h]; exact Nat.le_refl _
 | a :: b :: r, y, h => by
   have e:=congrArg List.length (join_c2 c a b r)
   rw [List.length_append,List.length_cons] at e
   have z:∀ s:Str,s.cps.toList.length=s.length:=fun s=>by simp [Str.length]
   rw [z,z,z] at e
   rcases List.mem_cons.mp h with rfl | h
   · omega
   · have:=join_ge (c:=c) h
     omega
theorem split_le {x y:Str} (h:y∈Txt.split x ("." : Str)):y.length≤x.length:=by
 rw [dot_is] at h
 have:=join_ge (c:=46) h
 rw [StrLaws.join_split] at this
 exact this
end L2
namespace L2
open PySem PySem.Spec PyProof.Rows Ord
theorem comp_strF {x:Str} {k:Nat} {caps:List Nat} {g:TG} {tc:TT} {te:TE} {σ:St} {H1:Hp} {Q:Addr→Hp→Prop} (p:Nat→Bool) (f:Nat→V) (hn:x.cps.size≤sizeLine)
 (hs:∀ (i c:Nat) (H2:Hp) (R:VK) (R0:Hp→Prop),x.cps[i]?=some c→Same H1 H2→(p c=true→∀ H3,Same H2 H3→R (f c) H3)→(p c=false→∀ H3,Same H2 H3→R0 H3)→g (.str ⟨#[c]⟩) (compSt k caps σ) H2 fun σ4 H4=>tc σ4 H4 fun b H5=>if b=true then te σ4 H5 R else R0 H5)
 (hd:∀ (H2:Hp) (D:Addr),Same H1 H2→H1 D=none→H2 D=some (.lst ((x.cps.toList.filter p).map f))→Q D H2) :
 ∀ D,H1 D=none→∃ W:Nat→Nat→List V→Hp→Prop,(∃ m,W 0 m [] (upd H1 D (.lst [])))∧∀ i m ys H2,W i m ys H2 →
  ((Its x).stop i H2∧Q D H2)∨((Its x).go i H2∧∀ y H3,(Its x).yld i H2 y H3→g y (compSt k caps σ) H3 fun σ4 H4=>tc σ4 H4 fun b H5 =>
   if b=true then te σ4 H5 fun y H6=>H6 D=some (.lst ys)∧ys.length < sizeLine∧∃ m',m' < m∧W (i + 1) m' (ys++[y]) (upd H6 D (.lst (ys++[y]))) else ∃ m',m' < m∧W (i + 1) m' ys H5):=by
 intro D hD
 refine ⟨fun i m ys H2=>m=x.cps.size - i∧i≤x.cps.size∧ys=((x.cps.toList.take i).filter p).map f∧Same H1 H2∧H2 D=some (.lst ys),⟨x.cps.size,rfl,Nat.zero_le _,rfl,(Same.refl _).upd hD,upd_same⟩,?_⟩
 rintro i m ys H2 ⟨rfl,hi,rfl,s2,e2⟩
 by_cases hlt:i < x.cps.size
 · refine .inr ⟨hlt,fun y H3 hy=>?_⟩
   obtain ⟨rfl,c,hc,rfl⟩:=hy
   have hc':x.cps.toList[i]?=some c:=by simpa using hc
   have hl:(((x.cps.toList.take i).filter p).map f).length < sizeLine:=by
    have:=List.length_filter_le p (x.cps.toList.take i)
    rw [List.length_map]
    rw [List.length_take] at this
    omega
   refine hs i c H3 _ _ hc s2 (fun hp H4 s4=>?_) (fun hp H4 s4=>?_)
   · refine ⟨s4 _ _ e2,hl,x.cps.size - (i + 1),by omega,rfl,hlt,?_,(s2.trans s4).upd hD,upd_same⟩
     rw [List.take_succ,hc',List.filter_append,List.map_append]
     show _=_++List.map f ([c].filter p)
     rw [List.filter_cons_of_pos hp]; rfl
   · refine ⟨x.cps.size - (i + 1),by omega,rfl,hlt,?_,s2.trans s4,s4 _ _ e2⟩
     rw [List.take_succ,hc',List.filter_append,List.map_append]
     show _=_++List.map f ([c].filter p)
     rw [List.filter_cons_of_neg (by rw [hp]; decide)]; exact (List.append_nil _).symm
 · have e:i=x.cps.size:=by omega
   rw [e,List.take_of_length_le (by simp)] at e2
   exact .inl ⟨e,hd H2 D s2 hD e2⟩
theorem comp_listF {K:PySem.W.Frag} {a:Addr} {xs:List V} {k:Nat} {caps:List Nat} {g:TG} {tc:TT} {te:TE} {σ:St} {H1:Hp} {Q:Addr→Hp→Prop} (p:V→Bool) (f:V→V) (hn:xs.length≤sizeLine) (hq:SqL K H1 a xs)
 (hs:∀ (i:Nat) (x:V) (H2:Hp) (R:VK) (R0:Hp→Prop),xs[i]?=some x→Same H1 H2→(p x=true→∀ H3,Same H2 H3→R (f x) H3)→(p x=false→∀ H3,Same H2 H3→R0 H3)→g x (compSt k caps σ) H2 fun σ4 H4=>tc σ4 H4 fun b H5=>if b=true then te σ4 H5 R else R0 H5)
 (hd:∀ (H2:Hp) (D:Addr),Same H1 H2→H1 D=none→H2 D=some (.lst ((xs.filter p).map f))→Q D H2) :
 ∀ D,H1 D=none→∃ W:Nat→Nat→List V→Hp→Prop,(∃ m,W 0 m [] (upd H1 D (.lst [])))∧∀ i m ys H2,W i m ys H2 →
  ((Itl K a).stop i H2∧Q D H2)∨((Itl K a).go i H2∧∀ x H3,(Itl K a).yld i H2 x H3→g x (compSt k caps σ) H3 fun σ4 H4=>tc σ4 H4 fun b H5 =>
   if b=true then te σ4 H5 fun y H6=>H6 D=some (.lst ys)∧ys.length < sizeLine∧∃ m',m' < m∧W (i + 1) m' (ys++[y]) (upd H6 D (.lst (ys++[y]))) else ∃ m',m' < m∧W (i + 1) m' ys H5):=by
 refine comp_listT (fun D i ys H2=>i≤xs.length∧ys=((xs.take i).filter p).map f∧Same H1 H2∧H2 D=some (.lst ys)) (fun D hD=>⟨Nat.zero_le _,rfl,(Same.refl _).upd hD,upd_same⟩) (fun D i ys H2 h=>h.2.2.1.seq hq) (fun D i x ys H2 R R0 hD hx h r r0=>?_) (fun D ys H2 hD h=>?_)
 · obtain ⟨hi,rfl,s2,e2⟩:=h
   have hlt:=(List.getElem?_eq_some_iff.mp hx).1
   have hl:(((xs.take i).filter p).map f).length < sizeLine:=by
    have:=List.length_filter_le p (xs.take i)
    rw [List.length_map]
    rw [List.length_take] at this
    omega
   refine hs i x H2 R R0 hx s2 (fun hp H4 s4=>?_) (fun hp H4 s4=>?_)
   · refine r _ H4 (s4 _ _ e2) hl ⟨hlt,?_,(s2.trans s4).upd hD,upd_same⟩
     rw [List.take_succ,hx,List.filter_append,List.map_append]
     show _=_++List.map f ([x].filter p)
     rw [List.filter_cons_of_pos hp]; rfl
   · refine r0 H4 ⟨hlt,?_,s2.trans s4,s4 _ _ e2⟩
     rw [List.take_succ,hx,List.filter_append,List.map_append]
     show _=_++List.map f ([x].filter p)
     rw [List.filter_cons_of_neg (by rw [hp]; decide)]; exact (List.append_nil _).symm
 · obtain ⟨hi,rfl,s2,e2⟩:=h
   rw [List.take_length] at e2
   exact hd H2 D s2 hD e2
abbrev abcS:Str := "abcdefghijklmnopqrstuvwxyz"
theorem abc_at:∀ i,i < 26→abcS.cps.extract i (i + 1)=#[97 + i]:=by decide +kernel
theorem sign_in (c:Nat):(!(Builtin.Str.occurrences abcS ⟨#[c]⟩ 0 abcS.length 1).isEmpty)=signB c:=by
 rw [Bool.eq_iff_iff,StrLaws.found_iff]
 have hl:abcS.length=26:=by decide +kernel
 unfold signB
 rw [Bool.and_eq_true,decide_eq_true_eq,decide_eq_true_eq,hl]
 constructor
 · rintro ⟨i,h1,h2⟩
   have h1:i + 1≤26:=h1
   have h2:(abcS.cps.extract i (i + 1) == #[c])=true:=h2
   rw [abc_at i (by omega)] at h2
   have:=eq_of_beq h2
   injection this with this
   injection this with this
   omega
 · rintro ⟨h1,h2⟩
   refine ⟨c - 97,(by show c - 97 + 1≤26; omega),?_⟩
   show (abcS.cps.extract (c - 97) (c - 97 + 1) == #[c])=true
   rw [abc_at _ (by omega),show 97 + (c - 97)=c by omega]
   exact beq_self_eq_true _
theorem lst_nil (ws:List Str):dec ((Dt.lst (ws.map Dt.str))=Dt.lst [])=decide (ws=[]):=by
 rw [Bool.eq_iff_iff,decide_eq_true_eq]
 constructor
 · intro h
   have:=@of_decide_eq_true _ (Classical.propDecidable _) h
   cases ws with
   | nil=>rfl
   | cons a r=>cases this
 · intro h
   rw [h]; exact dec_true rfl
theorem all_filter {α:Type} (p:α→Bool) (xs:List α):decide ((xs.filter fun x=>!p x)=[])=xs.all p:=by
 rw [Bool.eq_iff_iff,decide_eq_true_eq,List.all_eq_true,List.filter_eq_nil_iff]
 simp
theorem map_nil_iff {α β:Type} (f:α→β) (xs:List α):decide (xs.map f=[])=decide (xs=[]):=by
 cases xs <;> rfl
end L2
namespace L2
open PySem PySem.Spec PyProof.Rows Ord
abbrev gW (ws:List Str) (j:Nat):Str:=ws.getD j ("" : Str)
theorem at_W {ws:List Str} {j:Nat} (h:j < ws.length):atI (ws.map V.str) (j:Int)=some (.str (gW ws j)):=by
 refine atI_nat ?_
 rw [List.getElem?_map,List.getElem?_eq_getElem h]
 show some (V.str ws[j])=some (V.str (ws.getD j _))
 rw [List.getD_eq_getElem?_getD,List.getElem?_eq_getElem h]; rfl
theorem gW_mem {ws:List Str} {j:Nat} (h:j < ws.length):gW ws j∈ws:=by
 show ws.getD j _∈ws
 rw [List.getD_eq_getElem?_getD,List.getElem?_eq_getElem h]
 exact List.getElem_mem h
theorem int_dec (a b:Int):decide (V.int a=V.int b)=decide (a=b):=by
 rw [Bool.eq_iff_iff,decide_eq_true_eq,decide_eq_true_eq]
 exact ⟨fun h=>V.int.inj h,fun h=>by rw [h]⟩
theorem str_dec (a b:Str):decide (V.str a=V.str b)=decide (a=b):=by
 rw [Bool.eq_iff_iff,decide_eq_true_eq,decide_eq_true_eq]
 exact ⟨fun h=>V.str.inj h,fun h=>by rw [h]⟩
theorem in2 (x a b:Str):inV (.str x) [.str a,.str b]=(decide (x=a) || decide (x=b)):=by
 show ((a == x) || ((b == x) || false))=_
 rw [Bool.eq_iff_iff]
 simp only [Bool.or_eq_true,beq_iff_eq,Bool.or_false,decide_eq_true_eq]
 exact ⟨fun h=>h.imp Eq.symm Eq.symm,fun h=>h.imp Eq.symm Eq.symm⟩
theorem in3 (x a b c:Str):inV (.str x) [.str a,.str b,.str c]=(decide (x=a) || (decide (x=b) || decide (x=c))):=by
 show ((a == x) || ((b == x) || ((c == x) || false)))=_
 rw [Bool.eq_iff_iff]
 simp only [Bool.or_eq_true,beq_iff_eq,Bool.or_false,decide_eq_true_eq]
 exact ⟨fun h=>h.imp Eq.symm (·.imp Eq.symm Eq.symm),fun h=>h.imp Eq.symm (·.imp Eq.symm Eq.symm)⟩
abbrev Row1 (ws:List Str):Prop:=ws.length=2∧(gW ws 0=("elder" : Str)∨gW ws 0=("all" : Str)∨gW ws 0=("ask" : Str))
abbrev Row2 (ws:List Str):Prop:=ws.length=3∧gW ws 0=("all" : Str)∧gW ws 1=("on" : Str)
abbrev Row3 (ws:List Str):Prop:=2 < ws.length∧(gW ws 0=("thing" : Str)∨gW ws 0=("one" : Str))
abbrev RowN (ws:List Str) (n:Nat) (x:Str):Prop:=ws.length=n∧gW ws 0=x
theorem len2 {ws:List Str} (h:ws.length=2):∃ a b,ws=[a,b]:=by
 match ws,h with
 | [a,b],_=>exact ⟨a,b,rfl⟩
theorem len3 {ws:List Str} (h:ws.length=3):∃ a b c,ws=[a,b,c]:=by
 match ws,h with
 | [a,b,c],_=>exact ⟨a,b,c,rfl⟩
theorem len4 {ws:List Str} (h:ws.length=4):∃ a b c d,ws=[a,b,c,d]:=by
 match ws,h with
 | [a,b,c,d],_=>exact ⟨a,b,c,d,rfl⟩
theorem len5 {ws:List Str} (h:ws.length=5):∃ a b c d e,ws=[a,b,c,d,e]:=by
 match ws,h with
 | [a,b,c,d,e],_=>exact ⟨a,b,c,d,e,rfl⟩
theorem row1 {ws:List Str} (h:Row1 ws):rowB ws=routeB (gW ws 1):=by
 obtain ⟨hl,h⟩:=h
 obtain ⟨a,b,rfl⟩:=len2 hl
 rw [rowB_2]; exact if_pos h
theorem row2 {ws:List Str} (h:Row2 ws):rowB ws=routeB (gW ws 2):=by
 obtain ⟨hl,h⟩:=h
 obtain ⟨a,b,c,rfl⟩:=len3 hl
 rw [rowB_3]; exact if_pos h
theorem row3 {ws:List Str} (h:Row3 ws) (hn:(reachB (gW ws 1) && nameB (gW ws 2))=false):rowB ws=false:=by
 obtain ⟨hl,h⟩:=h
 match ws,hl,h,hn with
 | [a,b,c],_,h,hn =>
   rw [rowB_3]
   have h:a=("thing" : Str)∨a=("one" : Str):=h
   have hn:(reachB b && nameB c)=false:=hn
   rw [hn,if_neg (fun z=>by rcases h with h | h <;> rw [h] at z <;> exact absurd z.1 (by decide +kernel))]
   split <;> rfl
 | [a,b,c,d],_,h,hn =>
   have h:a=("thing" : Str)∨a=("one" : Str):=h
   rw [rowB_4,if_neg (fun z=>by rcases h with h | h <;> rw [h] at z <;> exact absurd z (by decide +kernel))]
 | [a,b,c,d,e],_,h,hn =>
   have hn:(reachB b && nameB c)=false:=hn
   rw [rowB_5,hn,Bool.false_and,Bool.false_and,Bool.false_and]
   split
   · rfl
   · split <;> rfl
 | _ :: _ :: _ :: _ :: _ :: _ :: _,_,_,_=>rfl
theorem row4 {ws:List Str} (h:RowN ws 3 ("thing" : Str)) (hn:(reachB (gW ws 1) && nameB (gW ws 2))=true):rowB ws=true:=by
 obtain ⟨hl,h⟩:=h
 obtain ⟨a,b,c,rfl⟩:=len3 hl
 have h:a=("thing" : Str):=h
 have hn:(reachB b && nameB c)=true:=hn
 rw [rowB_3,hn,if_pos h,if_neg (fun z=>by rw [h] at z; exact absurd z.1 (by decide +kernel))]
theorem row5 {ws:List Str} (h:RowN ws 5 ("thing" : Str)) (hn:(reachB (gW ws 1) && nameB (gW ws 2))=true):rowB ws=(decide (gW ws 3=("of" : Str)) && routeB (gW ws 4)):=by
 obtain ⟨hl,h⟩:=h
 obtain ⟨a,b,c,d,e,rfl⟩:=len5 hl
 have h:a=("thing" : Str):=h
 have hn:(reachB b && nameB c)=true:=hn
 rw [rowB_5,if_pos h,hn]; rfl
theorem row6 {ws:List Str} (h:RowN ws 5 ("one" : Str)) (hn:(reachB (gW ws 1) && nameB (gW ws 2))=true):rowB ws=(decide (gW ws 3=("from" : Str)) && routeB (gW ws 4)):=by
 obtain ⟨hl,h⟩:=h
 obtain ⟨a,b,c,d,e,rfl⟩:=len5 hl
 have h:a=("one" : Str):=h
 have hn:(reachB b && nameB c)=true:=hn
 rw [rowB_5,if_neg (fun z=>by rw [h] at z; exact absurd z (by decide +kernel)),if_pos h,hn]; rfl
theorem row7 {ws:List Str} (h:RowN ws 2 ("let" : Str)):rowB ws=nameB (gW ws 1):=by
 obtain ⟨hl,h⟩:=h
 obtain ⟨a,b,rfl⟩:=len2 hl
 have h:a=("let" : Str):=h
 rw [rowB_2,if_neg (fun z=>by rw [h] at z; revert z; decide +kernel),if_pos h]; rfl
theorem row8 {ws:List Str} (h:RowN ws 4 ("let" : Str)):rowB ws=(nameB (gW ws 1) && (decide (gW ws 2=("of" : Str)) && routeB (gW ws 3))):=by
 obtain ⟨hl,h⟩:=h
 obtain ⟨a,b,c,d,rfl⟩:=len4 hl
 have h:a=("let" : Str):=h
 rw [rowB_4,if_pos h,Bool.and_assoc]; rfl
theorem row9 {ws:List Str} (h1:¬ Row1 ws) (h2:¬ Row2 ws) (h4:¬ RowN ws 3 ("thing" : Str)) (h5:¬ RowN ws 5 ("thing" : Str)) (h6:¬ RowN ws 5 ("one" : Str)) (h7:¬ RowN ws 2 ("let" : Str)) (h8:¬ RowN ws 4 ("let" : Str)):rowB ws=false:=by
 match ws,h1,h2,h4,h5,h6,h7,h8 with
 | [],_,_,_,_,_,_,_=>rfl
 | [_],_,_,_,_,_,_,_=>rfl
 | [a,b],h1,_,_,_,_,h7,_=>rw [rowB_2]; exact (if_neg fun z=>h1 ⟨rfl,z⟩).trans (if_neg fun z=>h7 ⟨rfl,z⟩)
 | [a,b,c],_,h2,h4,_,_,_,_=>rw [rowB_3]; exact (if_neg fun z=>h2 ⟨rfl,z⟩).trans (if_neg fun z=>h4 ⟨rfl,z⟩)
 | [a,b,c,d],_,_,_,_,_,_,h8=>rw [rowB_4]; exact if_neg fun z=>h8 ⟨rfl,z⟩
 | [a,b,c,d,e],_,_,_,h5,h6,_,_=>rw [rowB_5]; exact (if_neg fun z=>h5 ⟨rfl,z⟩).trans (if_neg fun z=>h6 ⟨rfl,z⟩)
 | _ :: _ :: _ :: _ :: _ :: _ :: _,_,_,_,_,_,_,_=>rfl
theorem head_is {ws:List Str}:headB ws=(decide (ws.length=3) && (decide (gW ws 0=("part" : Str)) && (reachB (gW ws 1) && nameB (gW ws 2)))):=by
 match ws with
 | []=>rfl
 | [_]=>rfl
 | [_,_]=>rfl
 | [a,b,c] =>
   show (decide (a=("part" : Str)) && reachB b && nameB c)=(true && (decide (a=("part" : Str)) && (reachB b && nameB c)))
   rw [Bool.true_and,Bool.and_assoc]
 | _ :: _ :: _ :: _ :: r =>
   show false=(decide (r.length + 4=3) && _)
   rw [decide_eq_false (by omega)]; rfl
end L2
namespace L2
open PySem PySem.Spec PyProof.Rows Ord
def WdQ (w:Str):Prop:=w.length≤61∧32 ∉ w.cps.toList
def wqB (w:Str):Bool:=decide (w.length≤61) && !(w.cps.toList.contains 32)
theorem wqB_ok {w:Str} (h:wqB w=true):WdQ w:=by
 unfold wqB at h
 rw [Bool.and_eq_true,decide_eq_true_eq,Bool.not_eq_true'] at h
 exact ⟨h.1,fun m=>by rw [List.contains_iff_mem.mpr m] at h; cases h.2⟩
theorem wq_all {ws:List Str} (h:ws.all wqB=true):∀ x∈ws,WdQ x:=fun x hx=>wqB_ok (List.all_eq_true.mp h x hx)
theorem WdOk.q {w:Str} (h:WdOk w):WdQ w:=⟨Nat.le_succ_of_le h.1,h.2⟩
structure WL (H:Hp) (D:Addr) (n:Nat):Prop where
 ex:∃ vs:List Str,H D=some (.lst (vs.map V.str))∧vs.length≤n∧∀ x∈vs,WdQ x
theorem WL.same {H H':Hp} {D:Addr} {n:Nat} (s:Same H H') (h:WL H D n):WL H' D n:=by
 obtain ⟨vs,e,h⟩:=h.ex
 exact ⟨vs,s _ _ e,h⟩
theorem WL.mono {H:Hp} {D:Addr} {n m:Nat} (hm:n≤m) (h:WL H D n):WL H D m:=by
 obtain ⟨vs,e,h1,h2⟩:=h.ex
 exact ⟨vs,e,Nat.le_trans h1 hm,h2⟩
theorem WL.new {H:Hp} {D:Addr} {vs:List Str} {xs:List V} (e:xs=vs.map V.str) (h:∀ x∈vs,WdQ x):WL (upd H D (.lst xs)) D vs.length:=⟨vs,by rw [upd_same,e],Nat.le_refl _,h⟩
theorem cut_W (vs:List Str) (lo hi:Option Int):∃ us:List Str,cutV (vs.map V.str) lo hi=us.map V.str∧us.length≤vs.length∧∀ x∈us,x∈vs:=by
 refine ⟨(vs.drop (HT.sIx (vs.map V.str).length 0 lo)).take (HT.sIx (vs.map V.str).length (vs.map V.str).length hi - HT.sIx (vs.map V.str).length 0 lo),?_,?_,fun x hx=>List.mem_of_mem_drop (List.mem_of_mem_take hx)⟩
 · unfold cutV
   rw [←List.map_drop,←List.map_take]
 · rw [List.length_take,List.length_drop]; omega
theorem sl_W {K:PySem.W.Frag} {H:Hp} {L:Addr} {n:Nat} {lo hi:Option Int} {Q:VK} (h:WL H L n) (q:∀ p H',Same H H'→WL H' p n→Q (.ref p) H'):rSlL K (.ref L) lo hi H Q:=by
 obtain ⟨vs,e,h1,h2⟩:=h.ex
 obtain ⟨us,e3,h3,h4⟩:=cut_W vs lo hi
 refine ⟨L,_,rfl,SqL.of e,fun p hp=>?_⟩
 rw [e3]
 exact q p _ (same_new hp) ⟨us,upd_same,Nat.le_trans h3 h1,fun x hx=>h2 x (h4 x hx)⟩
theorem sl_WN {K:PySem.W.Frag} {H:Hp} {L:Addr} {n:Nat} {lo:Option Int} {Q:VK} {σ:St} (h:WL H L n) (q:∀ p H',Same H H'→WL H' p n→Q (.ref p) H'):tNoPart σ H fun u H3=>rSlL K (.ref L) lo u H3 Q:=sl_W h q
theorem cat_W {H:Hp} {a b:Addr} {n m:Nat} {Q:VK} (ha:WL H a n) (hb:WL H b m) (hm:n + m≤2000) (q:∀ p H',Same H H'→WL H' p (n + m)→Q (.ref p) H'):rCat (.ref a) (.ref b) H Q:=by
 obtain ⟨us,e1,h1,h2⟩:=ha.ex
 obtain ⟨vs,e2,h3,h4⟩:=hb.ex
 refine ⟨a,b,_,_,rfl,rfl,e1,e2,?_,fun p hp=>?_⟩
 · rw [List.length_map,List.length_map]
   exact Nat.le_trans (Nat.add_le_add h1 h3) (Nat.le_trans hm (by decide))
 · rw [←List.map_append]
   refine q p _ (same_new hp) ⟨us++vs,upd_same,by rw [List.length_append]; exact Nat.add_le_add h1 h3,fun x hx=>?_⟩
   rcases List.mem_append.mp hx with z | z
   · exact h2 x z
   · exact h4 x z
theorem at_pick {ws:List Str} {z:Int} (h0:0≤z) (h1:z < (ws.length:Int)):∃ w∈ws,atI (ws.map V.str) z=some (.str w):=by
 obtain ⟨n,rfl⟩:=Int.eq_ofNat_of_zero_le h0
 exact ⟨gW ws n,gW_mem (by omega),at_W (by omega)⟩
theorem strL (z:Str):z.length=z.cps.toList.length:=by rw [Array.length_toList]; rfl
theorem catL (x y:Str):(x++y).length=x.length + y.length:=by
 show (x.cps++y.cps).size=x.cps.size + y.cps.size
 simp
theorem catM {x y:Str} {c:Nat} (h:c∈(x++y).cps.toList):c∈x.cps.toList∨c∈y.cps.toList:=by
 have:(x++y).cps.toList=x.cps.toList++y.cps.toList:=by
  show (x.cps++y.cps).toList=_
  simp
 rw [this] at h
 exact List.mem_append.mp h
theorem cutM {x:Str} {l u:Option Int} {c:Nat} (h:c∈cutS x l u):c∈x.cps.toList:=by
 unfold cutS at h
 exact List.mem_of_mem_drop (List.mem_of_mem_take h)
theorem cut_lo {x z:Str} {p:Int} (h:z.cps.toList=cutS x none (some p)):z.length≤p.toNat∧z.length≤x.length:=by
 rw [strL z,h]
 unfold cutS
 rw [List.length_take,List.length_drop,←strL x]
 show min (p.toNat - 0) (x.length - 0)≤p.toNat∧min (p.toNat - 0) (x.length - 0)≤x.length
 omega
theorem cut_hi {x z:Str} {p:Int} (h:z.cps.toList=cutS x (some p) none):z.length≤x.length - p.toNat:=by
 rw [strL z,h]
 unfold cutS
 rw [List.length_take,List.length_drop,←strL x]
 show min (x.length - p.toNat) (x.length - p.toNat)≤x.length - p.toNat
 omega
theorem join_len61 {c:Nat}:∀ (ws:List Str),(∀ x∈ws,x.length≤61)→(Str.join ⟨#[c]⟩ ws).length≤62 * ws.length
 | [],_=>Nat.le_refl _
 | [a],h=>by have:=h a (by simp); show a.length≤62 * 1; omega
 | a :: b :: r,h=>by
   have h1:=h a (by simp)
   have h2:=join_len61 (c:=c) (b :: r) fun x hx=>h x (List.mem_cons_of_mem _ hx)
   have e:=congrArg List.length (join_c2 c a b r)
   rw [List.length_append,List.length_cons] at e
   have z:∀ s:Str,s.cps.toList.length=s.length:=fun s=>by simp [Str.length]
   rw [z,z,z] at e
   rw [List.length_cons]
   omega
theorem blankQ_ok {ws:List Str} (h:∀ x∈ws,WdQ x) (hn:ws.length≤1000):JoinOk (" " : Str) ws=true:=by
 refine joinOk_of_weight ?_ (by decide +kernel)
 have:∀ q:List Str,(∀ x∈q,WdQ x)→(q.map (·.length)).sum≤61 * q.length:=by
  intro q hq
  induction q with
  | nil=>simp
  | cons a r ih =>
    have h1:=(hq a (by simp)).1
    have h2:=ih fun y hy=>hq y (by simp [hy])
    simp only [List.map_cons,List.sum_cons,List.length_cons]
    omega
 have:=this ws h
 omega
theorem blankQ_len {ws:List Str} (h:∀ x∈ws,WdQ x):(Txt.join (" " : Str) ws).length≤62 * ws.length:=by
 rw [blank_is]
 show (Builtin.Str.glued ⟨#[32]⟩ ws).length≤_
 rw [StrLaws.glued_eq_join]
 exact join_len61 ws fun x hx=>(h x hx).1
theorem blankQ_split {ws:List Str} (hf:∀ x∈ws,WdQ x) (hne:Txt.join (" " : Str) ws≠("" : Str)):Txt.split (Txt.join (" " : Str) ws) (" " : Str)=ws:=by
 refine split_blank (fun z=>hne ?_) fun x hx=>(hf x hx).2
 rw [z]; decide +kernel
end L2
namespace L2
open PySem PySem.Spec PyProof.Rows Ord
theorem small9 {n:Nat} (h:n≤9000):n < sizeLine:=Nat.lt_of_le_of_lt h (by decide)
theorem name_low {x:Str} (h:nameB x=true):LowW x:=by
 unfold nameB at h
 simp only [Bool.and_eq_true,decide_eq_true_eq,List.all_eq_true] at h
 refine ⟨h.1,h.2.1,fun c hc=>?_⟩
 have:=h.2.2 c hc
 unfold signB at this
 simp only [Bool.and_eq_true,decide_eq_true_eq] at this
 exact this
theorem path_ok {w:Str} {p:List Str} (h:pathO w=some p):PthOk p:=by
 unfold pathO at h
 split at h
 · rename_i z
   cases h
   refine ⟨List.length_pos_iff.mpr (split_ne _ _),z.1,fun x hx=>name_low (List.all_eq_true.mp z.2 x hx)⟩
 · cases h
theorem sort_ok {ws rs:List Str} {o:Option (List Str)} (h:sortP ws=some (o,rs)):∀ p,o=some p→PthOk p:=by
 rcases sortP_inv h with ⟨rfl,_,_⟩ | ⟨p,rfl,hh,hp⟩
 · intro p e; cases e
 · obtain ⟨y,e,hy⟩:=pathP_inv hp
   intro p' e'
   cases e'
   exact path_ok hy
theorem leaf_ok {row r0 : List Str} {t : Tre} (h : leafP row = some (t, r0)) : OkT t ∧ dep t = 0 := by
 cases row with
 | nil=>cases h
 | cons a row =>
   simp only [leafP,item_cons] at h
   by_cases h0:a=("part" : Str)
   · simp only [if_pos h0] at h; cases h
   simp only [if_neg h0] at h
   by_cases h1:a=("thing" : Str)
   · simp only [if_pos h1] at h
     obtain ⟨r,w1,n,w2,o,hr,hm,hs,rfl⟩:=thingP_inv h
     exact ⟨⟨(reachP_inv hr).2.low,name_low (nameP_inv hm).2,sort_ok hs⟩,by rw [dep]⟩
   simp only [if_neg h1] at h
   by_cases h2:a=("let" : Str)
   · simp only [if_pos h2] at h
     obtain ⟨n,w2,o,hm,hs,rfl⟩:=letP_inv h
     exact ⟨⟨name_low (nameP_inv hm).2,sort_ok hs⟩,by rw [dep]⟩
   simp only [if_neg h2] at h
   by_cases h3:a=("elder" : Str)
   · simp only [if_pos h3] at h
     obtain ⟨p,hp,rfl⟩:=elderP_inv h
     obtain ⟨y,rfl,hy⟩:=pathP_inv hp
     exact ⟨path_ok hy,by rw [dep]⟩
   simp only [if_neg h3] at h
   by_cases h4:a=("all" : Str)
   · simp only [if_pos h4] at h
     cases row with
     | nil=>cases h
     | cons b row =>
       have h:(if b=("on" : Str)∧stopB row=false then (match pathP row with
        | some (p,rs)=>some (Tre.leaf (.all p true),rs)
        | none=>none) else match pathO b with
        | some p=>some (.leaf (.all p false),row)
        | none=>none)=some (t,r0):=h
       split at h
       · rename_i z
         cases e:pathP row with
         | none=>rw [e] at h; cases h
         | some x =>
           rw [e] at h
           obtain ⟨x1,x2⟩:=x
           cases h
           obtain ⟨y,rfl,hy⟩:=pathP_inv e
           exact ⟨path_ok hy,by rw [dep]⟩
       · cases e:pathO b with
         | none=>rw [e] at h; cases h
         | some p=>rw [e] at h; cases h; exact ⟨path_ok e,by rw [dep]⟩
   simp only [if_neg h4] at h
   by_cases h5:a=("one" : Str)
   · simp only [if_pos h5] at h
     obtain ⟨r,w1,n,w2,w3,p,hr,hm,hk,hp,rfl⟩:=oneP_inv h
     obtain ⟨x,rfl,hx⟩:=pathP_inv hp
     exact ⟨⟨(reachP_inv hr).2.low,name_low (nameP_inv hm).2,path_ok hx⟩,by rw [dep]⟩
   simp only [if_neg h5] at h
   by_cases h6:a=("ask" : Str)
   · simp only [if_pos h6] at h
     obtain ⟨p,hp,rfl⟩:=askP_inv h
     obtain ⟨y,rfl,hy⟩:=pathP_inv hp
     exact ⟨path_ok hy,by rw [dep]⟩
   simp only [if_neg h6] at h
   cases h
theorem item_ok {d:Nat} {part:List Str→Option (Tre × List Str)} (hp:∀ ws t rs,part ws=some (t,rs)→OkT t∧dep t≤d) {ws rs:List Str} {t:Tre} (h:itemP part ws=some (t,rs)):OkT t∧dep t≤d:=by
 cases ws with
 | nil=>cases h
 | cons a ws =>
   by_cases h0:a=("part" : Str)
   · rw [item_cons,if_pos h0] at h
     exact hp _ _ _ h
   · have:leafP (a :: ws)=some (t,rs):=by
      rw [←h]
      unfold leafP
      rw [item_cons,item_cons,if_neg h0,if_neg h0]
     obtain ⟨h1,h2⟩:=leaf_ok this
     exact ⟨h1,by rw [h2]; exact Nat.zero_le _⟩
theorem more_ok {d:Nat} {item:List Str→Option (Tre × List Str)} (hi:∀ ws t rs,item ws=some (t,rs)→OkT t∧dep t≤d):∀ {n:Nat} {ws rs:List Str} {ts:List Tre},moreP item n ws=some (ts,rs)→OkL ts∧depL ts≤d
 | 0,ws,rs,ts,h=>by rw [moreP] at h; cases h; exact ⟨trivial,by rw [depL]; exact Nat.zero_le _⟩
 | n + 1, ws, rs, ts, h => by
   rw [moreP] at h
   split at h
   · rename_i hh
     cases e:item ws.tail with
     | none=>rw [e] at h; cases h
     | some x =>
       rw [e] at h
       obtain ⟨t,w1⟩:=x
       have h:(match moreP item n w1 with | none=>none | some (ts,w2)=>some (t :: ts,w2))=some (ts,rs):=h
       cases e2:moreP item n w1 with
       | none=>rw [e2] at h; cases h
       | some y =>
         rw [e2] at h
         obtain ⟨us,w2⟩:=y
         cases h
         obtain ⟨a1,a2⟩:=hi _ _ _ e
         obtain ⟨b1,b2⟩:=more_ok hi e2
         exact ⟨⟨a1,b1⟩,by rw [depL]; exact Nat.max_le.mpr ⟨a2,b2⟩⟩
   · cases h; exact ⟨trivial,by rw [depL]; exact Nat.zero_le _⟩
theorem items_ok {d:Nat} {item:List Str→Option (Tre × List Str)} (hi:∀ ws t rs,item ws=some (t,rs)→OkT t∧dep t≤d) {ws rs:List Str} {ts:List Tre} (h:itemsP item ws=some (ts,rs)):OkL ts∧depL ts≤d:=by
 obtain ⟨t,w1,us,e1,e2,rfl⟩:=itemsP_inv h
 obtain ⟨a1,a2⟩:=hi _ _ _ e1
 obtain ⟨b1,b2⟩:=more_ok hi e2
 exact ⟨⟨a1,b1⟩,by rw [depL]; exact Nat.max_le.mpr ⟨a2,b2⟩⟩
theorem prs_ok:∀ (d:Nat) (ws:List Str) (t:Tre) (rs:List Str),prsI d ws=some (t,rs)→OkT t∧dep t≤d
 | 0,ws,t,rs,h=>by
   obtain ⟨h1,h2⟩:=leaf_ok h
   exact ⟨h1,by rw [h2]; exact Nat.le_refl _⟩
 | d + 1,ws,t,rs,h=>by
   rw [prsI] at h
   refine item_ok (fun ws t rs h=>?_) h
   obtain ⟨r,w1,n,w2,w3,ts,w4,e1,e2,e3,e4,e5,rfl⟩:=partP_inv h
   have:OkL ts∧depL ts≤d:=by
    unfold innerP at e4
    split at e4
    · cases e4; exact ⟨trivial,by rw [depL]; exact Nat.zero_le _⟩
    · exact items_ok (prs_ok d) e4
   exact ⟨⟨(reachP_inv e1).2.low,name_low (nameP_inv e2).2,this.1⟩,by rw [dep]; exact Nat.succ_le_succ this.2⟩
theorem wrdI_pos (it:Itm):1≤(wrdI it).length:=by
 rcases h:wrdI it with _ | ⟨a,r⟩
 · exact absurd h (wrdI_ne it)
 · exact Nat.succ_le_succ (Nat.zero_le _)
mutual
theorem szT_wrd:∀ t:Tre,szT t≤(wrdT t).length
 | .leaf it=>by rw [szT,wrdT]; exact wrdI_pos it
 | .node r n ts=>by
   have:=szL_wrd ts
   rw [szT,wrdT,List.length_append,List.length_append]
   show _≤4 + _ + 1
   omega
theorem szL_wrd:∀ ts:List Tre,szL ts≤(wrdL ts).length
 | []=>by rw [szL]; exact Nat.zero_le _
 | t :: ts=>by
   have:=szT_wrd t
   have:=szL_tl ts
   rw [szL,wrdL,List.length_append]; omega
theorem szL_tl:∀ ts:List Tre,szL ts≤(tlW ts).length
 | []=>by rw [szL]; exact Nat.zero_le _
 | t :: ts=>by
   have:=szT_wrd t
   have:=szL_tl ts
   rw [szL,tlW,List.length_cons,List.length_append]; omega
end
end L2
abbrev L2.SF (n:List (PySem.Str × PySem.NameKind)):PySem.Scope:={ kind:=.function,names:=n,isGenerator:=false,isCoroutine:=false,more:=[] }
theorem L2.new_at {H:L2.Hp} {a:PySem.Addr} {o:L2.HO} (h:H a=none):∃ H':L2.Hp,H'=L2.upd H a o∧L2.Same H H'∧H' a=some o:=⟨_,rfl,L2.same_new h,L2.upd_same⟩
theorem L2.getm {α β:Type} {f:α→β} {l:List α} {i:Nat} {x:β} (h:(l.map f)[i]?=some x):∃ z,l[i]?=some z∧f z=x:=by
 rw [List.getElem?_map] at h
 exact Option.map_eq_some_iff.mp h
namespace K73
open PySem PySem.Spec PyProof.Rows L2 Ord
local macro_rules | `(tactic| trivial) => `(tactic| exact ⟨rfl, rfl, rfl, by decide +kernel, rfl, by decide +kernel, by decide +kernel⟩)
local macro_rules | `(tactic| trivial) => `(tactic| exact ⟨rfl, by decide +kernel, by decide +kernel, by decide +kernel, rfl, by decide +kernel, by decide +kernel⟩)
theorem sc__law_cell_at:FnScope ["_law_script", "_law_k"] ["_law_script", "_law_k"] (defScope s__law_cell_at):=by trivial
theorem sc__law_names:FnScope ["_law_cell", "_law_many", "_law_letters", "_law_size", "_law_base", "_law_names_here", "_law_k", "_law_here"] ["_law_cell", "_law_many"] (defScope s__law_names):=by trivial
theorem _law_names_cs1:CompScope (defScope s__law_names) ["_law_cell", "_law_many", "_law_letters", "_law_size", "_law_base", "_law_names_here", "_law_k", "_law_here"] (SF [ (".0",.local),("_law_k",.local),("_law_cell",.free),("_law_letters",.free)]) ["_law_k", "_law_letters", "_law_cell"] 1 [2,0]:=by trivial
theorem _law_names_cs2:CompScope (defScope s__law_names) ["_law_cell", "_law_many", "_law_letters", "_law_size", "_law_base", "_law_names_here", "_law_k", "_law_here"] (SF [ (".0",.local),("_law_k",.local),("_law_base",.free)]) ["_law_k", "_law_base"] 1 [4]:=by trivial
theorem sc__law_words:FnScope ["_law_some", "_law_words_here", "_law_row_here"] ["_law_some"] (defScope s__law_words):=by trivial
theorem sc__law_path:FnScope ["_law_cell", "_law_names_here", "_law_many"] ["_law_cell", "_law_names_here"] (defScope s__law_path):=by trivial
theorem _law_path_cs1:CompScope (defScope s__law_path) ["_law_cell", "_law_names_here", "_law_many"] (SF [ (".0",.local),("_law_k",.local),("len",.globalImplicit),("_law_cell",.free),("_law_names_here",.free)]) ["_law_k", "_law_names_here", "_law_cell"] 1 [1,0]:=by trivial
theorem sc__law_item:FnScope ["_law_kind", "_law_cell", "_law_names_here", "_law_reach", "_law_name_here", "_law_path_here"] ["_law_kind", "_law_cell", "_law_names_here"] (defScope s__law_item):=by trivial
theorem sc__law_program:FnScope ["_law_cells", "_law_names_here", "_law_top", "_law_stack", "_law_cell", "_law_number", "_law_some", "_law_room", "_law_kind"] ["_law_cells", "_law_names_here"] (defScope s__law_program):=by trivial
theorem sc__law_spoiled:FnScope ["_law_words_here", "_law_way", "_law_at", "_law_cell", "_law_some", "_law_word", "_law_here", "_law_put", "_law_sign"] ["_law_words_here", "_law_way", "_law_at", "_law_cell"] (defScope s__law_spoiled):=by trivial
theorem sc_Words__init__:FnScope ["self", "words"] ["self", "words"] (defScope s_Words__init__):=by trivial
theorem sc_Words_ahead:FnScope ["self"] ["self"] (defScope s_Words_ahead):=by trivial
theorem sc_Words_taken:FnScope ["self", "word"] ["self"] (defScope s_Words_taken):=by trivial
theorem sc_taken_reach:FnScope ["words", "reach"] ["words"] (defScope s_taken_reach):=by trivial
theorem sc_is_name:FnScope ["thing"] ["thing"] (defScope s_is_name):=by trivial
theorem is_name_cs1:CompScope (defScope s_is_name) ["thing"] (SF [(".0",.local),("sign",.local)]) ["sign"] 1 []:=by trivial
theorem sc_taken_name:FnScope ["words", "name"] ["words"] (defScope s_taken_name):=by trivial
theorem sc_Words_skip:FnScope ["self", "due"] ["self", "due"] (defScope s_Words_skip):=by trivial
theorem sc_Part__init__:FnScope ["self", "reach", "name", "items"] ["self", "reach", "name", "items"] (defScope s_Part__init__):=by trivial
theorem sc_Thing__init__:FnScope ["self", "reach", "name", "of"] ["self", "reach", "name", "of"] (defScope s_Thing__init__):=by trivial
theorem sc_read_path:FnScope ["word", "names"] ["word"] (defScope s_read_path):=by trivial
theorem read_path_cs1:CompScope (defScope s_read_path) ["word", "names"] (SF [ (".0",.local),("name",.local),("is_name",.globalImplicit)]) ["name"] 1 []:=by trivial
theorem sc_taken_sort:FnScope ["words"] ["words"] (defScope s_taken_sort):=by trivial
theorem sc_Let__init__:FnScope ["self", "name", "of"] ["self", "name", "of"] (defScope s_Let__init__):=by trivial
theorem sc_Elder__init__:FnScope ["self", "path"] ["self", "path"] (defScope s_Elder__init__):=by trivial
theorem sc_All__init__:FnScope ["self", "path", "on"] ["self", "path", "on"] (defScope s_All__init__):=by trivial
theorem sc_read_all:FnScope ["words", "word"] ["words"] (defScope s_read_all):=by trivial
theorem sc_One__init__:FnScope ["self", "reach", "name", "path"] ["self", "reach", "name", "path"] (defScope s_One__init__):=by trivial
theorem sc_Ask__init__:FnScope ["self", "path"] ["self", "path"] (defScope s_Ask__init__):=by trivial
theorem sc_read_part:FnScope ["words", "brackets", "reach", "name", "inner"] ["words", "brackets"] (defScope s_read_part):=by trivial
theorem sc_read_item:FnScope ["words", "brackets", "word", "reach", "name"] ["words", "brackets"] (defScope s_read_item):=by trivial
theorem sc_read_items:FnScope ["words", "brackets", "program"] ["words", "brackets"] (defScope s_read_items):=by trivial
theorem sc_read:FnScope ["text", "words", "program"] ["text"] (defScope s_read):=by trivial
theorem sc__law_refused:FnScope ["_law_thing", "_law_error", "e", "_law_some"] ["_law_thing"] (defScope s__law_refused):=by trivial
theorem sc__law_name:FnScope ["_law_word"] ["_law_word"] (defScope s__law_name):=by trivial
theorem _law_name_cs1:CompScope (defScope s__law_name) ["_law_word"] (SF [(".0",.local),("_law_sign",.local)]) ["_law_sign"] 1 []:=by trivial
theorem sc__law_head:FnScope ["_law_row_here"] ["_law_row_here"] (defScope s__law_head):=by trivial
theorem sc__law_route:FnScope ["_law_word", "_law_names_here"] ["_law_word"] (defScope s__law_route):=by trivial
theorem _law_route_cs1:CompScope (defScope s__law_route) ["_law_word", "_law_names_here"] (SF [ (".0",.local),("_law_name_here",.local),("_law_name",.globalImplicit)]) ["_law_name_here"] 1 []:=by trivial
theorem sc__law_row:FnScope ["_law_row_here"] ["_law_row_here"] (defScope s__law_row):=by trivial
theorem sc__law_good:FnScope ["_law_words_here", "_law_depth", "_law_row_here", "_law_ended", "_law_fresh", "_law_word", "_law_empty"] ["_law_words_here"] (defScope s__law_good):=by trivial
theorem sc_written_path:FnScope ["path"] ["path"] (defScope s_written_path):=by trivial
theorem sc_words_of_sort:FnScope ["path"] ["path"] (defScope s_words_of_sort):=by trivial
theorem sc_with_between:FnScope ["groups", "sign", "words", "number", "group"] ["groups", "sign"] (defScope s_with_between):=by trivial
theorem sc_words_of_item:FnScope ["item"] ["item"] (defScope s_words_of_item):=by trivial
theorem sc_words_of:FnScope ["program"] ["program"] (defScope s_words_of):=by trivial
theorem words_of_cs1:CompScope (defScope s_words_of) ["program"] (SF [ (".0",.local),("item",.local),("words_of_item",.globalImplicit)]) ["item"] 1 []:=by trivial
theorem sc_written:FnScope ["program"] ["program"] (defScope s_written):=by trivial
theorem sc_law:FnScope ["_law_script", "_law_cell", "_law_names_here", "_law_words_here", "_law_inner", "_law_k", "_law_way", "_law_at", "_law_text", "_law_thing", "_law_items"] ["_law_script"] (defScope s_law):=by trivial
structure Blt (mg:Str→Option Value):Prop where
 b_ValueError:mg "ValueError" = none
 b_all:mg "all" = none
 b_enumerate:mg "enumerate" = none
 b_int:mg "int" = none
 b_isinstance:mg "isinstance" = none
 b_len:mg "len" = none
 b_list:mg "list" = none
 b_min:mg "min" = none
 b_range:mg "range" = none
 b_str:mg "str" = none
 b_tuple:mg "tuple" = none
 c_LONGEST_NAME:∃ t,mg "LONGEST_NAME" = some (.int 8 t)
 c_LONGEST_PATH:∃ t,mg "LONGEST_PATH" = some (.int 6 t)
 c_MOST_BRACKETS:∃ t,mg "MOST_BRACKETS" = some (.int 31 t)
structure Ers (K:PySem.W.Frag) (mg:Str→Option Value):Prop where
 e_Caught:mg "Caught" = some (.ref (clsA K "Caught"))
 e_NoName:mg "NoName" = some (.ref (clsA K "NoName"))
 e_NoPlace:mg "NoPlace" = some (.ref (clsA K "NoPlace"))
 e_NoRow:mg "NoRow" = some (.ref (clsA K "NoRow"))
 e_NoText:mg "NoText" = some (.ref (clsA K "NoText"))
 e_PathError:mg "PathError" = some (.ref (clsA K "PathError"))
 e_Ring:mg "Ring" = some (.ref (clsA K "Ring"))
 e_Tangled:mg "Tangled" = some (.ref (clsA K "Tangled"))
 e_TooGreat:mg "TooGreat" = some (.ref (clsA K "TooGreat"))
 e_Twice:mg "Twice" = some (.ref (clsA K "Twice"))
 k_NoText:Exk K mg "NoText" (clsA K "NoText")
 k_PathError:Exk K mg "PathError" (clsA K "PathError")
 d_NoText:ExcCl K (clsA K "NoText")
 v_NoText:AskC K (clsA K "NoText") (.type "ValueError") true
 s_NoText_PathError:L2.subIn K (clsA K "NoText") (clsA K "PathError")=true
 a_NoText_Caught:AskC K (clsA K "NoText") (.ref (clsA K "Caught")) false
 a_NoText_NoName:AskC K (clsA K "NoText") (.ref (clsA K "NoName")) false
 a_NoText_NoPlace:AskC K (clsA K "NoText") (.ref (clsA K "NoPlace")) false
 a_NoText_NoRow:AskC K (clsA K "NoText") (.ref (clsA K "NoRow")) false
 a_NoText_NoText:AskC K (clsA K "NoText") (.ref (clsA K "NoText")) true
 a_NoText_Ring:AskC K (clsA K "NoText") (.ref (clsA K "Ring")) false
 a_NoText_Tangled:AskC K (clsA K "NoText") (.ref (clsA K "Tangled")) false
 a_NoText_TooGreat:AskC K (clsA K "NoText") (.ref (clsA K "TooGreat")) false
 a_NoText_Twice:AskC K (clsA K "NoText") (.ref (clsA K "Twice")) false
 n_NoText_Caught:(Value.ref (clsA K "NoText") == Value.ref (clsA K "Caught"))=false
 n_NoText_NoName:(Value.ref (clsA K "NoText") == Value.ref (clsA K "NoName"))=false
 n_NoText_NoPlace:(Value.ref (clsA K "NoText") == Value.ref (clsA K "NoPlace"))=false
 n_NoText_NoRow:(Value.ref (clsA K "NoText") == Value.ref (clsA K "NoRow"))=false
 n_NoText_Ring:(Value.ref (clsA K "NoText") == Value.ref (clsA K "Ring"))=false
 n_NoText_Tangled:(Value.ref (clsA K "NoText") == Value.ref (clsA K "Tangled"))=false
 n_NoText_TooGreat:(Value.ref (clsA K "NoText") == Value.ref (clsA K "TooGreat"))=false
 n_NoText_Twice:(Value.ref (clsA K "NoText") == Value.ref (clsA K "Twice"))=false
 e_All:mg "All" = some (.ref (clsA K "All"))
 e_Ask:mg "Ask" = some (.ref (clsA K "Ask"))
 e_Elder:mg "Elder" = some (.ref (clsA K "Elder"))
 e_Let:mg "Let" = some (.ref (clsA K "Let"))
 e_One:mg "One" = some (.ref (clsA K "One"))
 e_Part:mg "Part" = some (.ref (clsA K "Part"))
 e_Thing:mg "Thing" = some (.ref (clsA K "Thing"))
 e_Words:mg "Words" = some (.ref (clsA K "Words"))
 cl_All:Cls K (clsA K "All")
 ci_All:ClsI K (clsA K "All")
 na_All_on:NoAttr K (clsA K "All") "on"
 na_All_path:NoAttr K (clsA K "All") "path"
 ai_All_All:AskI K (clsA K "All") (clsA K "All") true
 ai_All_Elder:AskI K (clsA K "All") (clsA K "Elder") false
 ai_All_Let:AskI K (clsA K "All") (clsA K "Let") false
 ai_All_One:AskI K (clsA K "All") (clsA K "One") false
 ai_All_Part:AskI K (clsA K "All") (clsA K "Part") false
 ai_All_Thing:AskI K (clsA K "All") (clsA K "Thing") false
 cl_Ask:Cls K (clsA K "Ask")
 ci_Ask:ClsI K (clsA K "Ask")
 na_Ask_path:NoAttr K (clsA K "Ask") "path"
 ai_Ask_All:AskI K (clsA K "Ask") (clsA K "All") false
 ai_Ask_Elder:AskI K (clsA K "Ask") (clsA K "Elder") false
 ai_Ask_Let:AskI K (clsA K "Ask") (clsA K "Let") false
 ai_Ask_One:AskI K (clsA K "Ask") (clsA K "One") false
 ai_Ask_Part:AskI K (clsA K "Ask") (clsA K "Part") false
 ai_Ask_Thing:AskI K (clsA K "Ask") (clsA K "Thing") false
 cl_Elder:Cls K (clsA K "Elder")
 ci_Elder:ClsI K (clsA K "Elder")
 na_Elder_path:NoAttr K (clsA K "Elder") "path"
 ai_Elder_All:AskI K (clsA K "Elder") (clsA K "All") false
 ai_Elder_Elder:AskI K (clsA K "Elder") (clsA K "Elder") true
 ai_Elder_Let:AskI K (clsA K "Elder") (clsA K "Let") false
 ai_Elder_One:AskI K (clsA K "Elder") (clsA K "One") false
 ai_Elder_Part:AskI K (clsA K "Elder") (clsA K "Part") false
 ai_Elder_Thing:AskI K (clsA K "Elder") (clsA K "Thing") false
 cl_Let:Cls K (clsA K "Let")
 ci_Let:ClsI K (clsA K "Let")
 na_Let_name:NoAttr K (clsA K "Let") "name"
 na_Let_of:NoAttr K (clsA K "Let") "of"
 ai_Let_All:AskI K (clsA K "Let") (clsA K "All") false
 ai_Let_Elder:AskI K (clsA K "Let") (clsA K "Elder") false
 ai_Let_Let:AskI K (clsA K "Let") (clsA K "Let") true
 ai_Let_One:AskI K (clsA K "Let") (clsA K "One") false
 ai_Let_Part:AskI K (clsA K "Let") (clsA K "Part") false
 ai_Let_Thing:AskI K (clsA K "Let") (clsA K "Thing") false
 cl_One:Cls K (clsA K "One")
 ci_One:ClsI K (clsA K "One")
 na_One_name:NoAttr K (clsA K "One") "name"
 na_One_path:NoAttr K (clsA K "One") "path"
 na_One_reach:NoAttr K (clsA K "One") "reach"
 ai_One_All:AskI K (clsA K "One") (clsA K "All") false
 ai_One_Elder:AskI K (clsA K "One") (clsA K "Elder") false
 ai_One_Let:AskI K (clsA K "One") (clsA K "Let") false
 ai_One_One:AskI K (clsA K "One") (clsA K "One") true
 ai_One_Part:AskI K (clsA K "One") (clsA K "Part") false
 ai_One_Thing:AskI K (clsA K "One") (clsA K "Thing") false
 cl_Part:Cls K (clsA K "Part")
 ci_Part:ClsI K (clsA K "Part")
 na_Part_inner:NoAttr K (clsA K "Part") "inner"
 na_Part_name:NoAttr K (clsA K "Part") "name"
 na_Part_reach:NoAttr K (clsA K "Part") "reach"
 ai_Part_All:AskI K (clsA K "Part") (clsA K "All") false
 ai_Part_Elder:AskI K (clsA K "Part") (clsA K "Elder") false
 ai_Part_Let:AskI K (clsA K "Part") (clsA K "Let") false
 ai_Part_One:AskI K (clsA K "Part") (clsA K "One") false
 ai_Part_Part:AskI K (clsA K "Part") (clsA K "Part") true
 ai_Part_Thing:AskI K (clsA K "Part") (clsA K "Thing") false
 cl_Thing:Cls K (clsA K "Thing")
 ci_Thing:ClsI K (clsA K "Thing")
 na_Thing_name:NoAttr K (clsA K "Thing") "name"
 na_Thing_of:NoAttr K (clsA K "Thing") "of"
 na_Thing_reach:NoAttr K (clsA K "Thing") "reach"
 ai_Thing_All:AskI K (clsA K "Thing") (clsA K "All") false
 ai_Thing_Elder:AskI K (clsA K "Thing") (clsA K "Elder") false
 ai_Thing_Let:AskI K (clsA K "Thing") (clsA K "Let") false
 ai_Thing_One:AskI K (clsA K "Thing") (clsA K "One") false
 ai_Thing_Part:AskI K (clsA K "Thing") (clsA K "Part") false
 ai_Thing_Thing:AskI K (clsA K "Thing") (clsA K "Thing") true
 cl_Words:Cls K (clsA K "Words")
 na_Words_place:NoAttr K (clsA K "Words") "place"
 na_Words_words:NoAttr K (clsA K "Words") "words"
theorem len_1 {us:List Value} (h:us.length=1):∃ x0,us=[x0]:=by
 cases us with
 | nil=>cases h
 | cons x0 t=>exact ⟨x0,by rw [List.length_eq_zero_iff.mp (Nat.succ.inj h)]⟩
theorem len_2 {us:List Value} (h:us.length=2):∃ x0 x1,us=[x0,x1]:=by
 cases us with
 | nil=>cases h
 | cons x0 t =>
   obtain ⟨x1,rfl⟩:=len_1 (Nat.succ.inj h)
   exact ⟨x0,x1,rfl⟩
theorem len_3 {us:List Value} (h:us.length=3):∃ x0 x1 x2,us=[x0,x1,x2]:=by
 cases us with
 | nil=>cases h
 | cons x0 t =>
   obtain ⟨x1,x2,rfl⟩:=len_2 (Nat.succ.inj h)
   exact ⟨x0,x1,x2,rfl⟩
theorem len_4 {us:List Value} (h:us.length=4):∃ x0 x1 x2 x3,us=[x0,x1,x2,x3]:=by
 cases us with
 | nil=>cases h
 | cons x0 t =>
   obtain ⟨x1,x2,x3,rfl⟩:=len_3 (Nat.succ.inj h)
   exact ⟨x0,x1,x2,x3,rfl⟩
theorem len_5 {us:List Value} (h:us.length=5):∃ x0 x1 x2 x3 x4,us=[x0,x1,x2,x3,x4]:=by
 cases us with
 | nil=>cases h
 | cons x0 t =>
   obtain ⟨x1,x2,x3,x4,rfl⟩:=len_4 (Nat.succ.inj h)
   exact ⟨x0,x1,x2,x3,x4,rfl⟩
theorem len_6 {us:List Value} (h:us.length=6):∃ x0 x1 x2 x3 x4 x5,us=[x0,x1,x2,x3,x4,x5]:=by
 cases us with
 | nil=>cases h
 | cons x0 t =>
   obtain ⟨x1,x2,x3,x4,x5,rfl⟩:=len_5 (Nat.succ.inj h)
   exact ⟨x0,x1,x2,x3,x4,x5,rfl⟩
theorem len_7 {us:List Value} (h:us.length=7):∃ x0 x1 x2 x3 x4 x5 x6,us=[x0,x1,x2,x3,x4,x5,x6]:=by
 cases us with
 | nil=>cases h
 | cons x0 t =>
   obtain ⟨x1,x2,x3,x4,x5,x6,rfl⟩:=len_6 (Nat.succ.inj h)
   exact ⟨x0,x1,x2,x3,x4,x5,x6,rfl⟩
theorem len_8 {us:List Value} (h:us.length=8):∃ x0 x1 x2 x3 x4 x5 x6 x7,us=[x0,x1,x2,x3,x4,x5,x6,x7]:=by
 cases us with
 | nil=>cases h
 | cons x0 t =>
   obtain ⟨x1,x2,x3,x4,x5,x6,x7,rfl⟩:=len_7 (Nat.succ.inj h)
   exact ⟨x0,x1,x2,x3,x4,x5,x6,x7,rfl⟩
section
set_option maxHeartbeats 4000000
seal L2.PE L2.PA L2.PS L2.PSs L2.PT L2.PW L2.PC L2.PG L2.PGs L2.PI L2.PF L2.PSet L2.OpR L2.UnR L2.CallR L2.MtR L2.IxR L2.SlR L2.PO
variable {P:Program} {w:World} {K:PySem.W.Frag} {mg:Str→Option Value} {base:Heap} {f:Addr} {fd:FuncData}
theorem cell_some {ns:List Int} {k:Int} (hk:0≤k) (hlt:k < ns.length):atI (ns.map V.int) k=some (V.int (cellAt ns k)):=by
 obtain ⟨n,rfl⟩:=Int.eq_ofNat_of_zero_le hk
 have hn:n < ns.length:=by omega
 refine atI_nat ?_
 rw [List.getElem?_map,List.getElem?_eq_getElem hn]
 show some (V.int ns[n])=some (V.int ((ns[((n:Int)).toNat]?).getD 0))
 rw [Int.toNat_natCast,List.getElem?_eq_getElem hn]
 rfl
theorem cell_none {ns:List Int} {k:Int} (hk:0≤k) (hlt:¬ k < ns.length):cellAt ns k=0:=by
 unfold cellAt
 rw [List.getElem?_eq_none (by omega)]
 rfl
def sp__law_cell_at (K:PySem.W.Frag):Sp:=fun vs H Q _=>∃ a ns k,vs=[.ref a,.int k]∧0≤k∧SqL K H a (ns.map V.int)∧Q (.int (cellAt ns k)) H
theorem ok__law_cell_at (B:Blt mg) (ER:Ers K mg)  (F:Fun K "_law_cell_at" "_law_cell_at" s__law_cell_at f fd):FnOk P w K mg base CX0 1 f fd ["_law_script", "_law_k"] (sp__law_cell_at K):=by
 refine F.ok sc__law_cell_at (fun vs H Q E h=>?_) (fun cdv A outer s H vs Q E hr h=>?_)
 · obtain ⟨a,ns,k,rfl,_⟩:=h
   rfl
 · obtain ⟨a,ns,k,rfl,hk,hS,q⟩:=h
   refine ⟨_,(pss_cons (ps_if (pt_cmpR op_lt (pv 1) (pe_callB call_len B.b_len (pa_cons (pv 0) pa_nil)) (nomark _)) (pss_one (ps_ret (pe_ix ix_seq (pv 0) (pv 1)))) pss_nil)
    (pss_one (ps_ret pe_int))),?_⟩
   refine ⟨_,rfl,_,rfl,_,_,rfl,Or.inl ⟨_,hS,rfl⟩,_,_,rfl,rfl,_,rfl,?_⟩
   rw [List.length_map]
   refine ite2 (fun hlt=>?_) (fun hge=>?_)
   · have hlt:=of_decide_eq_true hlt
     exact ⟨_,rfl,_,rfl,Or.inl ⟨_,_,_,_,rfl,rfl,hS,cell_some hk hlt,q⟩⟩
   · have hge:¬ k < (ns.length:Int):=fun z=>hge (decide_eq_true z)
     show Q (.int 0) H
     rw [cell_none hk hge] at q
     exact q
variable (P w K mg base) in
abbrev C__law_cell_at:Prop:=Callee P w K mg base "_law_cell_at" 1 ["_law_script", "_law_k"] (sp__law_cell_at K)
theorem call__law_cell_at (B:Blt mg) (ER:Ers K mg)  (F:Fun K "_law_cell_at" "_law_cell_at" s__law_cell_at f fd) (hm:mg "_law_cell_at" = some (.ref f)):C__law_cell_at P w K mg base :=
 ⟨f,fd,ok__law_cell_at B ER  F,hm,F.kp,F.binds fun _ _ _ _ _ _ us hl=>(by obtain ⟨x0,x1,rfl⟩:=len_2 hl; rfl)⟩
theorem letter_at (c:Int):atI ("abcdefghijklmnopqrstuvwxyz" : Str).cps.toList (c % 26)=some (97 + (c % 26).toNat):=by
 have h0:=Int.emod_nonneg c (by decide:(26:Int)≠0)
 have h1:=Int.emod_lt_of_pos c (by decide:(0:Int) < 26)
 generalize c % 26=i at h0 h1 ⊢
 obtain ⟨n,rfl⟩:=Int.eq_ofNat_of_zero_le h0
 have hn:n < 26:=by omega
 refine atI_nat ?_
 have:∀ n,n < 26→("abcdefghijklmnopqrstuvwxyz" : Str).cps.toList[n]?=some (97 + n):=by decide +kernel
 rw [Int.toNat_natCast]
 exact this n hn
theorem sq_bound:∀ n:Nat,n < 8→0 < (0 + (n:Int)) * (0 + (n:Int)) + 3∧(0 + (n:Int)) * (0 + (n:Int)) + 3 < 1073741824:=by
 intro n hn
 have:∀ n,n < 8→0 < (0 + ((n:Nat):Int)) * (0 + ((n:Nat):Int)) + 3∧(0 + ((n:Nat):Int)) * (0 + ((n:Nat):Int)) + 3 < 1073741824:=by decide
 exact this n hn
theorem nodup_map {α β:Type} {f:α→β} {l:List α} (hl:l.Nodup) (h:∀ a∈l,∀ b∈l,f a=f b→a=b):(l.map f).Nodup:=by
 unfold List.Nodup at *
 rw [List.pairwise_map]
 exact hl.imp_of_mem fun {a b} ha hb hne e=>hne (h a ha b hb e)
theorem nodup_pre {bs:List Nat} {m:Nat} (hm:m≤bs.length):((List.range m).map fun k=>tx (bs.take (k + 1))).Nodup:=by
 refine nodup_map List.nodup_range fun a ha b hb e=>?_
 rw [List.mem_range] at ha hb
 have:=congrArg List.length (tx_inj e)
 rw [List.length_take,List.length_take] at this
 omega
theorem nodup_one {bs:List Nat} {p m:Nat} {c:Int} (hp:p < bs.length) (hm:m≤26):((List.range m).map fun k:Nat=>tx (bs.set p (97 + ((c + (0 + (k:Int))) % 26).toNat))).Nodup:=by
 refine nodup_map List.nodup_range fun a ha b hb e=>?_
 rw [List.mem_range] at ha hb
 have e2:=congrArg (fun l=>l[p]?) (tx_inj e)
 simp only [List.getElem?_set_self hp] at e2
 have e3:=Option.some.inj e2
 omega
theorem map_sing (cs:List Nat):(cs.map fun c=>V.str ⟨#[c]⟩)=(cs.map fun c=>(⟨#[c]⟩:Str)).map V.str:=by rw [List.map_map]; rfl
theorem joinOk_sing {cs:List Nat} (h:cs.length≤8):JoinOk (Str.ofString "") (cs.map fun c=>(⟨#[c]⟩:Str))=true:=by
 refine joinOk_small (fun y hy=>?_) (by rw [List.length_map]; omega)
 obtain ⟨c,_,rfl⟩:=List.mem_map.mp hy
 show 1≤8
 decide
theorem low_take {bs:List Nat} {k:Nat} (hb:∀ c∈bs,97≤c∧c≤122) (h1:1≤bs.length) (hk:k + 1≤8):LowW (tx (bs.take (k + 1))):=by
 refine ⟨by rw [tx_len,List.length_take]; omega,by rw [tx_len,List.length_take]; omega,fun c hc=>?_⟩
 rw [tx_list] at hc
 exact hb c (List.mem_of_mem_take hc)
theorem low_set {bs:List Nat} {p c:Nat} (hb:∀ c∈bs,97≤c∧c≤122) (h1:1≤bs.length) (h8:bs.length≤8) (hc:97≤c∧c≤122):LowW (tx (bs.set p c)):=by
 refine ⟨by rw [tx_len,List.length_set]; omega,by rw [tx_len,List.length_set]; omega,fun d hd=>?_⟩
 rw [tx_list] at hd
 rcases List.mem_or_eq_of_mem_set hd with hd | hd
 · exact hb d hd
 · rw [hd]; exact hc
theorem low_let (c:Int):97≤97 + (c % 26).toNat∧97 + (c % 26).toNat≤122:=by
 have h0:=Int.emod_nonneg c (by decide:(26:Int)≠0)
 have h1:=Int.emod_lt_of_pos c (by decide:(0:Int) < 26)
 omega
def sp__law_names (_:PySem.W.Frag):Sp:=fun vs H Q _=>∃ c m,vs=[.int c,.int m]∧0≤m∧m≤8∧∀ (ls:List Str) (p:Addr) (H':Hp),ls.length=m.toNat→ls.Nodup→(∀ x∈ls,LowW x)→H p=none→Same H H'→H' p=some (.lst (ls.map V.str))→Q (.ref p) H'
theorem ok__law_names (B:Blt mg) (ER:Ers K mg)  (F:Fun K "_law_names" "_law_names" s__law_names f fd):FnOk P w K mg base CX0 1 f fd ["_law_cell", "_law_many"] (sp__law_names K):=by
 refine F.ok sc__law_names (fun vs H Q E h=>?_) (fun cdv A outer s H vs Q E hr h=>?_)
 · obtain ⟨c,m,rfl,_⟩:=h
   rfl
 · obtain ⟨c,m,rfl,hm0,hm8,q⟩:=h
   have z0:0≤c % 10 ^ Int.toNat 9:=Int.emod_nonneg _ (by decide)
   refine ⟨_,(pss_cons (ps_set (i:=2) sc__law_names.nd pe_str)
    (pss_cons (ps_set (i:=0) sc__law_names.nd (pe_op op_mod (pv 0) (pe_op op_pow pe_int pe_int)))
    (pss_cons (ps_set (i:=3) sc__law_names.nd (pe_op op_add pe_int (pe_op op_mod (pv 0) pe_int)))
    (pss_cons (ps_set (i:=4) sc__law_names.nd (pe_comp (te:=tOp (rIx K) (tVar 1) (tOp xMod (tOp xDiv (tVar 2) (tOp xAdd (tOp xMul (tVar 0) (tVar 0)) (tC (.int 3)))) (tC (.int 26)))) rfl _law_names_cs1 (pi_range1 rfl B.b_range (pa_cons pe_int pa_nil)) (fun _ _ _ _ _=>(pg_name (i:=0) _law_names_cs1.nd)) (fun _ _ _ _ _=>pf_nil) (fun _ _ _ _ _=>(pe_ix ix_seq (pv 1) (pe_op op_mod (pe_op op_fdiv (pv 2) (pe_op op_add (pe_op op_mul (pv 0) (pv 0)) pe_int)) pe_int)))))
    (pss_cons (ps_if (pt_cmpR op_eq (pe_op op_mod (pe_op op_fdiv (pv 0) pe_int) pe_int) pe_int (nomark _)) (pss_one (ps_ret (pe_comp (te:=tBM K "str" (rJoin K) (tC (.str "")) (tCons (tSl (rSlL K) (tVar 1) tNoPart (tPart (tOp (rI0 fun i j=>.int (i + j)) (tVar 0) (tC (.int 1))))) tNil)) rfl _law_names_cs2 (pi_range1 rfl B.b_range (pa_cons (pv 1) pa_nil)) (fun _ _ _ _ _=>(pg_name (i:=0) _law_names_cs2.nd)) (fun _ _ _ _ _=>pf_nil) (fun _ _ _ _ _=>(pe_bm PySem.F.plainAttrs_str PySem.F.slot_str_join PySem.F.type_str_join mt_join pe_str (pa_cons (pe_slice sl_list (pv 1) po_none (po_some (pe_op op_add (pv 0) pe_int))) pa_nil)))))) pss_nil)
    (pss_cons (ps_set (i:=5) sc__law_names.nd (pe_lst pa_nil))
    (pss_cons (ps_for PassesOwn.never rfl (pi_range1 rfl B.b_range (pa_cons (pv 1) pa_nil)) (pg_name (i:=6) sc__law_names.nd) (pss_cons (ps_set (i:=7) sc__law_names.nd (pe_slice sl_list (pv 4) po_none (po_some (pv 3))))
     (pss_cons (ps_asg (pe_ix ix_seq (pv 2) (pe_op op_mod (pe_op op_add (pe_op op_fdiv (pv 0) pe_int) (pv 6)) pe_int)) (pg_sub (pv 7) (pe_op op_mod (pe_op op_fdiv (pv 0) pe_int) (pv 3)) set_list))
     (pss_one (ps_expr (pe_bm PySem.F.plainAttrs_list PySem.F.slot_list_append PySem.F.type_list_append mr_append (pv 5) (pa_cons (pe_bm PySem.F.plainAttrs_str PySem.F.slot_str_join PySem.F.type_str_join mt_join pe_str (pa_cons (pv 7) pa_nil)) pa_nil)))))))
    (pss_one (ps_ret (pv 5)))))))))),?_⟩
   refine seq_setC ?_
   try dsimp only
   refine ⟨_,rfl,_,_,rfl,rfl,⟨by decide,by decide,by decide⟩,_,_,rfl,rfl,(by show (0:Int) < 10 ^ Int.toNat 9; decide),?_⟩
   try dsimp only
   generalize c % 10 ^ Int.toNat 9=cc at z0 ⊢
   refine ⟨_,rfl,_,_,rfl,rfl,(by show (0:Int) < 8; decide),_,_,rfl,rfl,?_⟩
   have s0:=Int.emod_nonneg cc (by decide:(8:Int)≠0)
   have s1:=Int.emod_lt_of_pos cc (by decide:(0:Int) < 8)
   try dsimp only
   generalize cc % 8=r8 at s0 s1 ⊢
   refine ⟨_,rfl,by decide,by decide,comp_range (fun i=>V.str ⟨#[97 + (cc / ((0 + (i:Int)) * (0 + (i:Int)) + 3) % 26).toNat]⟩) (by decide) (fun i H2 D R hi s2 hD k=>?_) (fun H1 Db t1 hDb e1=>?_)⟩
   · have hi8:i < 8:=hi
     obtain ⟨b0,b1⟩:=sq_bound i hi8
     exact ⟨_,rfl,_,rfl,_,rfl,_,rfl,_,_,rfl,rfl,Or.inl ⟨by omega,by omega⟩,_,_,rfl,rfl,_,_,rfl,rfl,⟨b0,b1⟩,_,_,rfl,rfl,(by show (0:Int) < 26; decide),Or.inr (Or.inr ⟨_,_,_,rfl,rfl,by decide +kernel,letter_at _,k H2 (Same.refl _)⟩)⟩
   obtain ⟨bs,ebs⟩:∃ bs:List Nat,bs=(List.range 8).map fun i:Nat=>97 + (cc / ((0 + (i:Int)) * (0 + (i:Int)) + 3) % 26).toNat:=⟨_,rfl⟩
   have e1:H1 Db=some (.lst (bs.map fun c=>V.str ⟨#[c]⟩)):=by rw [ebs,List.map_map]; exact e1
   have lbs:bs.length=8:=by rw [ebs,List.length_map,List.length_range]
   have hbs:∀ c∈bs,97≤c∧c≤122:=fun c hc=>by
    rw [ebs] at hc
    obtain ⟨i,_,rfl⟩:=List.mem_map.mp hc
    exact low_let _
   clear ebs
   refine ⟨_,rfl,_,_,rfl,rfl,⟨by decide,by decide⟩,_,_,rfl,rfl,(by show (0:Int) < 3; decide),rfl,_,rfl,?_⟩
   refine ite2 (fun _=>?t1) (fun _=>?ff)
   case t1 =>
    refine ⟨_,rfl,_,rfl,by omega,by omega,comp_range (fun k=>V.str (tx (bs.take (k + 1)))) (Nat.le_trans (show m.toNat≤8 by omega) (by decide)) (fun i H2 D R hi s2 hD k=>?_) (fun H2 L t2 hL e2=>?_)⟩
    · refine ⟨rfl,_,rfl,_,rfl,_,_,rfl,rfl,_,rfl,Db,_,rfl,SqL.of (s2 _ _ e1),fun p hp=>?_⟩
      have ec:cutV (bs.map fun c=>V.str ⟨#[c]⟩) none (some (0 + (i:Int) + 1))=((bs.take (i + 1)).map fun c=>(⟨#[c]⟩:Str)).map V.str:=by
       rw [show 0 + (i:Int) + 1=((i + 1:Nat):Int) by omega,cutV_take,←List.map_take,map_sing]
      rw [ec]
      refine ⟨Str.ofString "",p,_,rfl,rfl,SqL.of upd_same,joinOk_sing (by rw [List.length_take]; omega),?_⟩
      rw [join_sing]
      exact k _ (same_new hp)
    · refine q ((List.range m.toNat).map fun k=>tx (bs.take (k + 1))) L H2 (by simp) (nodup_pre (by omega)) (fun x hx=>?_) (t1.free hL) (t1.trans t2) (by rw [e2,List.map_map]; rfl)
      obtain ⟨k,hk,rfl⟩:=List.mem_map.mp hx
      rw [List.mem_range] at hk
      exact low_take hbs (by omega) (by omega)
   case ff =>
    refine ⟨by decide,fun L hL=>?_⟩
    have hLH:H L=none:=t1.free hL
    have p0:=Int.emod_nonneg (cc / 8) (show 1 + r8≠0 by omega)
    have p1:=Int.emod_lt_of_pos (cc / 8) (show 0 < 1 + r8 by omega)
    have lt8:(bs.take (1 + r8).toNat).length=(1 + r8).toNat:=by rw [List.length_take,lbs]; omega
    refine ⟨_,rfl,_,rfl,by omega,by omega,for_range (lo:=0) (n:=m.toNat) (fun i σ H'=>∃ u6 u7,σ=[some (.int cc),some (.int m),some (.str "abcdefghijklmnopqrstuvwxyz"),some (.int (1 + r8)),some (.ref Db),some (.ref L),u6,u7]∧Same H1 H' ∧
     H' L=some (.lst (((List.range i).map fun k:Nat=>tx ((bs.take (1 + r8).toNat).set (cc / 8 % (1 + r8)).toNat (97 + ((cc / 5 + (0 + (k:Int))) % 26).toNat))).map V.str))) ⟨none,none,rfl,same_new hL,upd_same⟩ ?_ ?_⟩
    · rintro i σ H2 hi ⟨u6,u7,rfl,t2,e2⟩
      refine ⟨_,rfl,_,rfl,_,rfl,Db,_,rfl,SqL.of (t2 _ _ e1),fun p hp=>?_⟩
      have ec:cutV (bs.map fun c=>V.str ⟨#[c]⟩) none (some (1 + r8))=(bs.take (1 + r8).toNat).map fun c=>V.str ⟨#[c]⟩:=by
       obtain ⟨n8,e8⟩:∃ n8:Nat,1 + r8=(n8:Int):=⟨(1 + r8).toNat,by omega⟩
       rw [e8,cutV_take,←List.map_take,Int.toNat_natCast]
      rw [ec]
      have npL:L≠p:=ne_of_none e2 hp
      refine ⟨_,rfl,_,rfl,_,_,rfl,rfl,⟨by decide,by decide⟩,_,rfl,_,_,rfl,rfl,_,_,rfl,rfl,(by show (0:Int) < 26; decide),Or.inr (Or.inr ⟨_,_,_,rfl,rfl,by decide +kernel,letter_at _,?_⟩)⟩
      refine ⟨_,rfl,_,rfl,_,_,rfl,rfl,⟨by decide,by decide⟩,_,rfl,_,_,rfl,rfl,(by omega),p,_,_,(cc / 8 % (1 + r8)).toNat,rfl,rfl,upd_same,ixN_in p0 (by rw [List.length_map,lt8]; omega),?_⟩
      rw [upd_upd,←List.map_set]
      generalize hG:upd H2 p _=G
      have g1:G p=some (.lst (((bs.take (1 + r8).toNat).set (cc / 8 % (1 + r8)).toNat (97 + ((cc / 5 + (0 + (i:Int))) % 26).toNat)).map fun c=>V.str ⟨#[c]⟩)):=by rw [←hG,upd_same]
      have g2:G L=some (.lst (((List.range i).map fun k:Nat=>tx ((bs.take (1 + r8).toNat).set (cc / 8 % (1 + r8)).toNat (97 + ((cc / 5 + (0 + (k:Int))) % 26).toNat))).map V.str)):=by rw [←hG,upd_ne npL]; exact e2
      have g3:Same H1 G:=by rw [←hG]; exact t2.trans (same_new hp)
      refine ⟨_,rfl,Or.inl ⟨rfl,_,SqL.of g2⟩,rfl,_,rfl,Str.ofString "",p,_,rfl,rfl,SqL.of (by rw [g1,map_sing]),joinOk_sing (by rw [List.length_set,lt8]; omega),?_⟩
      rw [join_sing]
      refine ⟨L,_,_,rfl,rfl,g2,?_,?_⟩
      · rw [List.length_map,List.length_map,List.length_range]
        exact small1000 (by omega)
      · refine ⟨_,_,rfl,fun b o e=>?_,?_⟩
        · rw [upd_ne (ne_of_none e hL)]; exact g3 b o e
        · rw [upd_same,List.range_succ,List.map_append,List.map_append]; rfl
    · rintro σ H2 ⟨u6,u7,rfl,t2,e2⟩
      refine ⟨_,rfl,?_⟩
      refine q _ L H2 (by simp) (nodup_one (by rw [lt8]; omega) (by omega)) (fun x hx=>?_) hLH (t1.trans t2) e2
      obtain ⟨k,_,rfl⟩:=List.mem_map.mp hx
      exact low_set (fun c hc=>hbs c (List.mem_of_mem_take hc)) (by rw [lt8]; omega) (by rw [lt8]; omega) (low_let _)
variable (P w K mg base) in
abbrev C__law_names:Prop:=Callee P w K mg base "_law_names" 1 ["_law_cell", "_law_many"] (sp__law_names K)
theorem call__law_names (B:Blt mg) (ER:Ers K mg)  (F:Fun K "_law_names" "_law_names" s__law_names f fd) (hm:mg "_law_names" = some (.ref f)):C__law_names P w K mg base :=
 ⟨f,fd,ok__law_names B ER  F,hm,F.kp,F.binds fun _ _ _ _ _ _ us hl=>(by obtain ⟨x0,x1,rfl⟩:=len_2 hl; rfl)⟩
theorem lst_nil (ws:List Str):dec ((Dt.lst (ws.map Dt.str))=Dt.lst [])=decide (ws=[]):=by
 rw [Bool.eq_iff_iff,decide_eq_true_eq]
 constructor
 · intro h
   have:=@of_decide_eq_true _ (Classical.propDecidable _) h
   cases ws with
   | nil=>rfl
   | cons a r=>cases this
 · intro h
   rw [h]; exact dec_true rfl
def spn__law_words (K:PySem.W.Frag) (d:Nat):Sp:=fun vs H Q _=>∃ (l:Addr) (as:List Addr) (ts:List Tre),vs=[.ref l]∧depL ts < d∧H l=some (.lst (as.map V.ref))∧RowsT H as ts∧OkL ts∧szL ts≤90∧∀ (D:Addr) (H':Hp),Same H H'→H D=none→H' D=some (.lst ((wrdL ts).map V.str))→Q (.ref D) H'
abbrev sp__law_words (K:PySem.W.Frag):Sp:=spn__law_words K 32
theorem ok__law_words (B : Blt mg) (ER : Ers K mg)  (n : Nat) (c__law_words : Callee P w K mg base "_law_words" (0 + n) ["_law_some"] (spn__law_words K n)) (F : Fun K "_law_words" "_law_words" s__law_words f fd) : FnOk P w K mg base CX0 (0 + n + 1) f fd ["_law_some"] (spn__law_words K (n + 1)) := by
 refine F.ok sc__law_words (fun vs H Q E h=>?_) (fun cdv A outer s H vs Q E hr h=>?_)
 · obtain ⟨l,as,ts,rfl,_⟩:=h
   rfl
 · obtain ⟨l, as, ts, rfl, hd, el, hR, ok, h90, q⟩ := h
   refine ⟨_,(pss_cons (ps_set (i:=1) sc__law_words.nd (pe_lst pa_nil))
    (pss_cons (ps_for PassesOwn.never rfl (pi_list (pv 0)) (pg_name (i:=2) sc__law_words.nd) (pss_cons (ps_if (pt_cmpR (op_neD hr.units) (pv 1) (pe_lst pa_nil) (nomark _)) (pss_one (ps_expr (pe_bm PySem.F.plainAttrs_list PySem.F.slot_list_append PySem.F.type_list_append mr_append (pv 1) (pa_cons pe_str pa_nil)))) pss_nil)
     (pss_one (ps_if (pt_cmpR op_eq (pe_ix ix_seq (pv 2) pe_int) pe_str (nomark _)) (pss_one (ps_set (i:=1) sc__law_words.nd (pe_op op_cat (pe_op op_cat (pe_op op_cat (pv 1) (pe_lst (pa_cons pe_str (pa_cons (pe_ix ix_seq (pv 2) pe_int) (pa_cons (pe_ix ix_seq (pv 2) pe_int) (pa_cons pe_str pa_nil)))))) (pe_fn c__law_words (pa_cons (pe_ix ix_seq (pv 2) pe_int) pa_nil) (hr.mono (by omega)))) (pe_lst (pa_cons pe_str pa_nil))))) (pss_one (ps_if (pt_cmpR op_eq (pe_ix ix_seq (pv 2) pe_int) pe_str (nomark _)) (pss_cons (ps_set (i:=1) sc__law_words.nd (pe_op op_cat (pv 1) (pe_lst (pa_cons pe_str (pa_cons (pe_ix ix_seq (pv 2) pe_int) (pa_cons (pe_ix ix_seq (pv 2) pe_int) pa_nil))))))
      (pss_one (ps_if (pt_cmp (pc_notN (pe_ix ix_seq (pv 2) pe_int))) (pss_one (ps_set (i:=1) sc__law_words.nd (pe_op op_cat (pv 1) (pe_lst (pa_cons pe_str (pa_cons (pe_bm PySem.F.plainAttrs_str PySem.F.slot_str_join PySem.F.type_str_join mt_joinT pe_str (pa_cons (pe_ix ix_seq (pv 2) pe_int) pa_nil)) pa_nil)))))) pss_nil))) (pss_one (ps_if (pt_cmpR op_eq (pe_ix ix_seq (pv 2) pe_int) pe_str (nomark _)) (pss_cons (ps_set (i:=1) sc__law_words.nd (pe_op op_cat (pv 1) (pe_lst (pa_cons pe_str (pa_cons (pe_ix ix_seq (pv 2) pe_int) pa_nil)))))
       (pss_one (ps_if (pt_cmp (pc_notN (pe_ix ix_seq (pv 2) pe_int))) (pss_one (ps_set (i:=1) sc__law_words.nd (pe_op op_cat (pv 1) (pe_lst (pa_cons pe_str (pa_cons (pe_bm PySem.F.plainAttrs_str PySem.F.slot_str_join PySem.F.type_str_join mt_joinT pe_str (pa_cons (pe_ix ix_seq (pv 2) pe_int) pa_nil)) pa_nil)))))) pss_nil))) (pss_one (ps_if (PW.pt (pw_and (pt_cmpR op_eq (pe_ix ix_seq (pv 2) pe_int) pe_str (nomark _)) (pw_and1 (pt_val (pe_ix ix_seq (pv 2) pe_int))))) (pss_one (ps_set (i:=1) sc__law_words.nd (pe_op op_cat (pv 1) (pe_lst (pa_cons pe_str (pa_cons pe_str (pa_cons (pe_bm PySem.F.plainAttrs_str PySem.F.slot_str_join PySem.F.type_str_join mt_joinT pe_str (pa_cons (pe_ix ix_seq (pv 2) pe_int) pa_nil)) pa_nil))))))) (pss_one (ps_if (pt_cmpR op_eq (pe_ix ix_seq (pv 2) pe_int) pe_str (nomark _)) (pss_one (ps_set (i:=1) sc__law_words.nd (pe_op op_cat (pv 1) (pe_lst (pa_cons pe_str (pa_cons (pe_ix ix_seq (pv 2) pe_int) (pa_cons (pe_ix ix_seq (pv 2) pe_int) (pa_cons pe_str (pa_cons (pe_bm PySem.F.plainAttrs_str PySem.F.slot_str_join PySem.F.type_str_join mt_joinT pe_str (pa_cons (pe_ix ix_seq (pv 2) pe_int) pa_nil)) pa_nil))))))))) (pss_one (ps_set (i:=1) sc__law_words.nd (pe_op op_cat (pv 1) (pe_lst (pa_cons (pe_ix ix_seq (pv 2) pe_int) (pa_cons (pe_bm PySem.F.plainAttrs_str PySem.F.slot_str_join PySem.F.type_str_join mt_joinT pe_str (pa_cons (pe_ix ix_seq (pv 2) pe_int) pa_nil)) pa_nil))))))))))))))))))
    (pss_one (ps_ret (pv 1))))),?_⟩
   refine ⟨by decide,fun L hL=>?_⟩
   obtain ⟨H1,qH1,s1,eL⟩:=new_at (o:=.lst []) hL
   rw [←qH1]
   refine g_in ?_
   try dsimp only
   refine ⟨_,rfl,l,rfl,⟨_,SqL.of (s1 _ _ el)⟩,for_list (xs:=as.map V.ref) (fun i σ H'=>∃ w2 D,σ=[some (.ref l),some (.ref D),w2]∧Same H H'∧H D=none∧H' D=some (.lst ((wrdL (ts.take i)).map V.str))) ⟨none,L,rfl,s1,hL,by rw [List.take_zero,wrdL]; exact eL⟩ (fun i σ H' _ ⟨_,_,_,s,_⟩=>SqL.of (s _ _ el)) ?_ ?_⟩
   rotate_left
   · rintro σ H2 ⟨w2,D,rfl,s2,hD,eD⟩
     rw [show (as.map V.ref).length=ts.length by rw [List.length_map,hR.len],List.take_length] at eD
     exact ⟨_,rfl,q D H2 s2 hD eD⟩
   rintro i x σ H2 hx ⟨w2,D,rfl,s2,hD,eD⟩
   obtain ⟨b,ha,rfl⟩:=getm hx
   obtain ⟨t,hit,ht⟩:=hR.get ha
   have sz:=szL_at hit
   have dm:=dep_mem (List.mem_of_getElem? hit)
   have okt:OkT t:=okL_mem ok (List.mem_of_getElem? hit)
   have wl0:=wrdL_len (ts.take i)
   have wl1:=wrdT_len t
   have hb:=btw_take (sg:=(";" : Str)) (ws:=ts.map wrdT) (i:=i) (g:=wrdT t) (by rw [List.getElem?_map,hit]; rfl)
   rw [←List.map_take,←List.map_take,←wrdL_btw,←wrdL_btw] at hb
   obtain ⟨pre,hpre⟩:∃ pre,pre=(if i=0 then [] else wrdL (ts.take i)++[(";" : Str)]):=⟨_,rfl⟩
   rw [←hpre] at hb
   have hpl:pre.length≤7 * szL (ts.take i) + 1:=by
    rw [hpre]
    split
    · exact Nat.zero_le _
    · rw [List.length_append,List.length_singleton]; omega
   have hi0 : i = 0 ↔ wrdL (ts.take i) = [] := by
    constructor
    · intro z; rw [z,List.take_zero,wrdL]
    · intro z
      rcases Nat.eq_zero_or_pos i with h | h
      · exact h
      · exfalso
        have hlt:=(List.getElem?_eq_some_iff.mp hit).1
        cases e:ts.take i with
        | nil =>
          have:=congrArg List.length e
          rw [List.length_take,List.length_nil] at this
          omega
        | cons u us =>
          rw [e,wrdL] at z
          exact wrdT_ne u (List.append_eq_nil_iff.mp z).1
   refine g_in ?_
   try dsimp only
   refine seq_cut (fun σ' H'=>σ'=[some (.ref l),some (.ref D),some (.ref b)]∧Same H H'∧H' D=some (.lst (pre.map V.str))) ?_ (fun NN hNN=>?_)
   case refine_2 =>
    refine ⟨_,rfl,by decide,fun Z hZ=>?_⟩
    obtain ⟨H3,qH3,s3,eZ⟩:=new_at (o:=.lst []) hZ
    rw [←qH3]
    refine ⟨2,_,_,.lst (Cmps.nil' _),by decide,.lst (SqL.of (s3 _ _ eD)) (IsDts.strs _),.lst (SqL.of eZ) .nil,_,rfl,?_⟩
    rw [lst_nil]
    by_cases z:i=0
    · rw [decide_eq_true (hi0.mp z)]
      refine iteF ?_
      rw [if_pos z] at hpre
      exact hNN _ _ ⟨rfl,s2.trans s3,by rw [hpre,s3 _ _ eD,hi0.mp z]⟩
    · rw [decide_eq_false (fun y=>z (hi0.mpr y))]
      refine iteT ?_
      rw [if_neg z] at hpre
      refine ⟨_,rfl,Or.inl ⟨rfl,_,SqL.of (s3 _ _ eD)⟩,D,_,_,rfl,rfl,s3 _ _ eD,by rw [List.length_map]; exact small1000 (by omega),?_⟩
      exact hNN _ _ ⟨rfl,same_own (s2.trans s3) hD,by rw [upd_same,hpre,List.map_append]; rfl⟩
   rintro σ' H3 ⟨rfl,s3,eD3⟩
   rw [take_snoc hit] at hb
   rw [take_snoc hit]
   clear eD s2
   have fin:∀ (D2:Addr) (H4:Hp) (w:List Str),Same H3 H4→H3 D2=none→H4 D2=some (.lst ((pre++w).map V.str))→w=wrdT t→∃ w2 D,[some (V.ref l),some (V.ref D2),some (V.ref b)]=[some (.ref l),some (.ref D),w2]∧Same H H4∧H D=none∧H4 D=some (.lst ((wrdL (ts.take i++[t])).map V.str)):=fun D2 H4 w s4 h4 e4 ew=>⟨_,D2,rfl,s3.trans s4,s3.free h4,by rw [hb,←ew]; exact e4⟩
   have cat:∀ (H4:Hp) (D4 Z:Addr) (u v:List Str) (R:VK),H4 D4=some (.lst (u.map V.str))→H4 Z=some (.lst (v.map V.str))→u.length + v.length≤1000→(∀ D5 H5,Same H4 H5→H4 D5=none→H5 D5=some (.lst ((u++v).map V.str))→R (.ref D5) H5)→rCat (.ref D4) (.ref Z) H4 R:=fun H4 D4 Z u v R h1 h2 hl k=>⟨D4,Z,_,_,rfl,rfl,h1,h2,by rw [List.length_map,List.length_map]; exact Nat.le_of_lt (small1000 hl),fun D5 h5=>k D5 _ (same_new h5) h5 (by rw [upd_same,List.map_append])⟩
   cases ht with
   | @node _ l2 as2 r n us e0 el2 hus =>
     have et:=s3 _ _ e0
     rw [dep] at dm
     rw [szT] at sz wl1
     have wl2:=wrdL_len us
     refine ⟨_,rfl,Or.inr (Or.inl ⟨b,_,_,.str ("part" : Str),rfl,rfl,SqT.of et,rfl,rfl,_,rfl,ite2 (fun _=>?_) (fun e=>absurd (decide_eq_true rfl) e)⟩)⟩
     refine ⟨_,rfl,_,rfl,Or.inr (Or.inl ⟨b,_,_,.str r,rfl,rfl,SqT.of et,rfl,_,rfl,Or.inr (Or.inl ⟨b,_,_,.str n,rfl,rfl,SqT.of et,rfl,four_le,fun Z hZ=>?_⟩)⟩)⟩
     have s4:=same_new (o:=.lst ([("part" : Str),r,n,("(" : Str)].map V.str)) hZ
     have eZ:(upd H3 Z (.lst ([("part" : Str),r,n,("(" : Str)].map V.str))) Z=some (.lst ([("part" : Str),r,n,("(" : Str)].map V.str)):=upd_same
     rw [show (HO.lst [.str ("part" : Str),.str r,.str n,.str ("(" : Str)])=.lst ([("part" : Str),r,n,("(" : Str)].map V.str) from rfl]
     generalize upd H3 Z (.lst ([("part" : Str),r,n,("(" : Str)].map V.str))=H4 at s4 eZ ⊢
     refine cat H4 D Z pre _ _ (s4 _ _ eD3) eZ (by show _ + 4≤1000; omega) fun D5 H5 s5 h5 e5=>?_
     have s35:=s4.trans s5
     refine ⟨_,rfl,Or.inr (Or.inl ⟨b,_,_,.ref l2,rfl,rfl,SqT.of (s35 _ _ et),rfl,l2,as2,us,rfl,by omega,(s3.trans s35) _ _ el2,hus.same (s3.trans s35),okt.2.2,by omega,fun D6 H6 s6 h6 e6=>?_⟩)⟩
     refine cat H6 D5 D6 _ _ _ (s6 _ _ e5) e6 (by rw [List.length_append]; show _ + 4 + _≤1000; omega) fun D7 H7 s7 h7 e7=>?_
     refine ⟨one_le,fun Y hY=>?_⟩
     have s8:=same_new (o:=.lst ([(")" : Str)].map V.str)) hY
     have eY:(upd H7 Y (.lst ([(")" : Str)].map V.str))) Y=some (.lst ([(")" : Str)].map V.str)):=upd_same
     rw [show (HO.lst [.str (")" : Str)])=.lst ([(")" : Str)].map V.str) from rfl]
     generalize upd H7 Y (.lst ([(")" : Str)].map V.str))=H8 at s8 eY ⊢
     refine cat H8 D7 Y _ _ _ (s8 _ _ e7) eY (by rw [List.length_append,List.length_append]; show _ + 4 + _ + 1≤1000; omega) fun D9 H9 s9 h9 e9=>?_
     have sA:=s35.trans (s6.trans (s7.trans s8))
     exact fin D9 H9 ([("part" : Str),r,n,("(" : Str)]++wrdL us++[(")" : Str)]) (sA.trans s9) (sA.free h9) (by rw [e9,List.append_assoc,List.append_assoc,List.append_assoc]) (by rw [wrdT])
   | @leaf _ it h =>
     have ok:ItmOk it:=okt
     rw [szT] at sz
     cases it with
     | part r n=>exact h.elim
     | thing r n o =>
       obtain ⟨v,e0,ev⟩:=h
       have et:=s3 _ _ e0
       refine ⟨_,rfl,Or.inr (Or.inl ⟨b,_,_,.str ("thing" : Str),rfl,rfl,SqT.of et,rfl,rfl,_,rfl,ite2 (fun e=>absurd (V.str.inj (of_decide_eq_true e)) (by decide +kernel)) (fun _=>?_)⟩)⟩
       refine ⟨_,rfl,Or.inr (Or.inl ⟨b,_,_,.str ("thing" : Str),rfl,rfl,SqT.of et,rfl,rfl,_,rfl,ite2 (fun _=>?_) (fun e=>absurd (decide_eq_true rfl) e)⟩)⟩
       refine ⟨_,rfl,_,rfl,Or.inr (Or.inl ⟨b,_,_,.str r,rfl,rfl,SqT.of et,rfl,_,rfl,Or.inr (Or.inl ⟨b,_,_,.str n,rfl,rfl,SqT.of et,rfl,three_le,fun Z hZ=>?_⟩)⟩)⟩
       have s4:=same_new (o:=.lst ([("thing" : Str),r,n].map V.str)) hZ
       have eZ:(upd H3 Z (.lst ([("thing" : Str),r,n].map V.str))) Z=some (.lst ([("thing" : Str),r,n].map V.str)):=upd_same
       rw [show (HO.lst [.str ("thing" : Str),.str r,.str n])=.lst ([("thing" : Str),r,n].map V.str) from rfl]
       generalize upd H3 Z (.lst ([("thing" : Str),r,n].map V.str))=H4 at s4 eZ ⊢
       refine cat H4 D Z pre _ _ (s4 _ _ eD3) eZ (by show _ + 3≤1000; omega) fun D5 H5 s5 h5 e5=>?_
       have s35:=s4.trans s5
       refine g_in ?_
       try dsimp only
       cases o with
       | none =>
         obtain rfl:v=.non:=ev
         refine ⟨_,rfl,Or.inr (Or.inl ⟨b,_,_,.non,rfl,rfl,SqT.of (s35 _ _ et),rfl,_,rfl,?_⟩)⟩
         rw [decide_eq_true rfl]
         refine iteF ?_
         exact fin D5 H5 [("thing" : Str),r,n] s35 (s4.free h5) e5 (by rw [wrdT]; rfl)
       | some p =>
         obtain ⟨u,rfl,eu⟩:=ev
         refine ⟨_,rfl,Or.inr (Or.inl ⟨b,_,_,.ref u,rfl,rfl,SqT.of (s35 _ _ et),rfl,_,rfl,?_⟩)⟩
         rw [decide_eq_false (by intro z; cases z)]
         refine iteT ?_
         refine ⟨_,rfl,rfl,_,rfl,Or.inr (Or.inl ⟨b,_,_,.ref u,rfl,rfl,SqT.of (s35 _ _ et),rfl,("." : Str),u,p,rfl,rfl,SqT.of ((s3.trans s35) _ _ eu),dot_ok (ok.2.2 p rfl),two_le,fun Y hY=>?_⟩)⟩
         have s6:=same_new (o:=.lst ([("of" : Str),dotW p].map V.str)) hY
         have eY:(upd H5 Y (.lst ([("of" : Str),dotW p].map V.str))) Y=some (.lst ([("of" : Str),dotW p].map V.str)):=upd_same
         rw [show (HO.lst [.str ("of" : Str),.str (Txt.join ("." : Str) p)])=.lst ([("of" : Str),dotW p].map V.str) from rfl]
         generalize upd H5 Y (.lst ([("of" : Str),dotW p].map V.str))=H6 at s6 eY ⊢
         refine cat H6 D5 Y _ _ _ (s6 _ _ e5) eY (by rw [List.length_append]; show _ + 3 + 2≤1000; omega) fun D7 H7 s7 h7 e7=>?_
         have sA:=s35.trans s6
         exact fin D7 H7 ([("thing" : Str),r,n]++ofW (some p)) (sA.trans s7) (sA.free h7) (by rw [e7,List.append_assoc]; rfl) (by rw [wrdT]; rfl)
     | lett n o =>
       obtain ⟨v,e0,ev⟩:=h
       have et:=s3 _ _ e0
       refine ⟨_,rfl,Or.inr (Or.inl ⟨b,_,_,.str ("let" : Str),rfl,rfl,SqT.of et,rfl,rfl,_,rfl,ite2 (fun e=>absurd (V.str.inj (of_decide_eq_true e)) (by decide +kernel)) (fun _=>?_)⟩)⟩
       refine ⟨_,rfl,Or.inr (Or.inl ⟨b,_,_,.str ("let" : Str),rfl,rfl,SqT.of et,rfl,rfl,_,rfl,ite2 (fun e=>absurd (V.str.inj (of_decide_eq_true e)) (by decide +kernel)) (fun _=>?_)⟩)⟩
       refine ⟨_,rfl,Or.inr (Or.inl ⟨b,_,_,.str ("let" : Str),rfl,rfl,SqT.of et,rfl,rfl,_,rfl,ite2 (fun _=>?_) (fun e=>absurd (decide_eq_true rfl) e)⟩)⟩
       refine ⟨_,rfl,_,rfl,Or.inr (Or.inl ⟨b,_,_,.str n,rfl,rfl,SqT.of et,rfl,two_le,fun Z hZ=>?_⟩)⟩
       have s4:=same_new (o:=.lst ([("let" : Str),n].map V.str)) hZ
       have eZ:(upd H3 Z (.lst ([("let" : Str),n].map V.str))) Z=some (.lst ([("let" : Str),n].map V.str)):=upd_same
       rw [show (HO.lst [.str ("let" : Str),.str n])=.lst ([("let" : Str),n].map V.str) from rfl]
       generalize upd H3 Z (.lst ([("let" : Str),n].map V.str))=H4 at s4 eZ ⊢
       refine cat H4 D Z pre _ _ (s4 _ _ eD3) eZ (by show _ + 2≤1000; omega) fun D5 H5 s5 h5 e5=>?_
       have s35:=s4.trans s5
       refine g_in ?_
       try dsimp only
       cases o with
       | none =>
         obtain rfl:v=.non:=ev
         refine ⟨_,rfl,Or.inr (Or.inl ⟨b,_,_,.non,rfl,rfl,SqT.of (s35 _ _ et),rfl,_,rfl,?_⟩)⟩
         rw [decide_eq_true rfl]
         refine iteF ?_
         exact fin D5 H5 [("let" : Str),n] s35 (s4.free h5) e5 (by rw [wrdT]; rfl)
       | some p =>
         obtain ⟨u,rfl,eu⟩:=ev
         refine ⟨_,rfl,Or.inr (Or.inl ⟨b,_,_,.ref u,rfl,rfl,SqT.of (s35 _ _ et),rfl,_,rfl,?_⟩)⟩
         rw [decide_eq_false (by intro z; cases z)]
         refine iteT ?_
         refine ⟨_,rfl,rfl,_,rfl,Or.inr (Or.inl ⟨b,_,_,.ref u,rfl,rfl,SqT.of (s35 _ _ et),rfl,("." : Str),u,p,rfl,rfl,SqT.of ((s3.trans s35) _ _ eu),dot_ok (ok.2 p rfl),two_le,fun Y hY=>?_⟩)⟩
         have s6:=same_new (o:=.lst ([("of" : Str),dotW p].map V.str)) hY
         have eY:(upd H5 Y (.lst ([("of" : Str),dotW p].map V.str))) Y=some (.lst ([("of" : Str),dotW p].map V.str)):=upd_same
         rw [show (HO.lst [.str ("of" : Str),.str (Txt.join ("." : Str) p)])=.lst ([("of" : Str),dotW p].map V.str) from rfl]
         generalize upd H5 Y (.lst ([("of" : Str),dotW p].map V.str))=H6 at s6 eY ⊢
         refine cat H6 D5 Y _ _ _ (s6 _ _ e5) eY (by rw [List.length_append]; show _ + 2 + 2≤1000; omega) fun D7 H7 s7 h7 e7=>?_
         have sA:=s35.trans s6
         exact fin D7 H7 ([("let" : Str),n]++ofW (some p)) (sA.trans s7) (sA.free h7) (by rw [e7,List.append_assoc]; rfl) (by rw [wrdT]; rfl)
     | elder p =>
       obtain ⟨v,e0,u,rfl,eu⟩:=h
       have et:=s3 _ _ e0
       refine ⟨_,rfl,Or.inr (Or.inl ⟨b,_,_,.str ("elder" : Str),rfl,rfl,SqT.of et,rfl,rfl,_,rfl,ite2 (fun e=>absurd (V.str.inj (of_decide_eq_true e)) (by decide +kernel)) (fun _=>?_)⟩)⟩
       refine ⟨_,rfl,Or.inr (Or.inl ⟨b,_,_,.str ("elder" : Str),rfl,rfl,SqT.of et,rfl,rfl,_,rfl,ite2 (fun e=>absurd (V.str.inj (of_decide_eq_true e)) (by decide +kernel)) (fun _=>?_)⟩)⟩
       refine ⟨_,rfl,Or.inr (Or.inl ⟨b,_,_,.str ("elder" : Str),rfl,rfl,SqT.of et,rfl,rfl,_,rfl,ite2 (fun e=>absurd (V.str.inj (of_decide_eq_true e)) (by decide +kernel)) (fun _=>?_)⟩)⟩
       refine ⟨_,rfl,Or.inr (Or.inl ⟨b,_,_,.str ("elder" : Str),rfl,rfl,SqT.of et,rfl,rfl,_,rfl,ite2 (fun e=>absurd (V.str.inj (of_decide_eq_true e)) (by decide +kernel)) (fun _=>iteF ?_)⟩)⟩
       refine ⟨_,rfl,Or.inr (Or.inl ⟨b,_,_,.str ("elder" : Str),rfl,rfl,SqT.of et,rfl,rfl,_,rfl,ite2 (fun e=>absurd (V.str.inj (of_decide_eq_true e)) (by decide +kernel)) (fun _=>?_)⟩)⟩
       refine ⟨_,rfl,_,rfl,Or.inr (Or.inl ⟨b,_,_,.str ("elder" : Str),rfl,rfl,SqT.of et,rfl,rfl,_,rfl,Or.inr (Or.inl ⟨b,_,_,.ref u,rfl,rfl,SqT.of et,rfl,("." : Str),u,p,rfl,rfl,SqT.of (s3 _ _ eu),dot_ok ok,two_le,fun Z hZ=>?_⟩)⟩)⟩
       have s4:=same_new (o:=.lst ([("elder" : Str),dotW p].map V.str)) hZ
       have eZ:(upd H3 Z (.lst ([("elder" : Str),dotW p].map V.str))) Z=some (.lst ([("elder" : Str),dotW p].map V.str)):=upd_same
       rw [show (HO.lst [.str ("elder" : Str),.str (dotW p)])=.lst ([("elder" : Str),dotW p].map V.str) from rfl]
       generalize upd H3 Z (.lst ([("elder" : Str),dotW p].map V.str))=H4 at s4 eZ ⊢
       refine cat H4 D Z pre _ _ (s4 _ _ eD3) eZ (by show _ + 2≤1000; omega) fun D5 H5 s5 h5 e5=>?_
       have s35:=s4.trans s5
       exact fin D5 H5 [("elder" : Str),dotW p] s35 (s4.free h5) e5 (by rw [wrdT]; rfl)
     | ask p =>
       obtain ⟨v,e0,u,rfl,eu⟩:=h
       have et:=s3 _ _ e0
       refine ⟨_,rfl,Or.inr (Or.inl ⟨b,_,_,.str ("ask" : Str),rfl,rfl,SqT.of et,rfl,rfl,_,rfl,ite2 (fun e=>absurd (V.str.inj (of_decide_eq_true e)) (by decide +kernel)) (fun _=>?_)⟩)⟩
       refine ⟨_,rfl,Or.inr (Or.inl ⟨b,_,_,.str ("ask" : Str),rfl,rfl,SqT.of et,rfl,rfl,_,rfl,ite2 (fun e=>absurd (V.str.inj (of_decide_eq_true e)) (by decide +kernel)) (fun _=>?_)⟩)⟩
       refine ⟨_,rfl,Or.inr (Or.inl ⟨b,_,_,.str ("ask" : Str),rfl,rfl,SqT.of et,rfl,rfl,_,rfl,ite2 (fun e=>absurd (V.str.inj (of_decide_eq_true e)) (by decide +kernel)) (fun _=>?_)⟩)⟩
       refine ⟨_,rfl,Or.inr (Or.inl ⟨b,_,_,.str ("ask" : Str),rfl,rfl,SqT.of et,rfl,rfl,_,rfl,ite2 (fun e=>absurd (V.str.inj (of_decide_eq_true e)) (by decide +kernel)) (fun _=>iteF ?_)⟩)⟩
       refine ⟨_,rfl,Or.inr (Or.inl ⟨b,_,_,.str ("ask" : Str),rfl,rfl,SqT.of et,rfl,rfl,_,rfl,ite2 (fun e=>absurd (V.str.inj (of_decide_eq_true e)) (by decide +kernel)) (fun _=>?_)⟩)⟩
       refine ⟨_,rfl,_,rfl,Or.inr (Or.inl ⟨b,_,_,.str ("ask" : Str),rfl,rfl,SqT.of et,rfl,rfl,_,rfl,Or.inr (Or.inl ⟨b,_,_,.ref u,rfl,rfl,SqT.of et,rfl,("." : Str),u,p,rfl,rfl,SqT.of (s3 _ _ eu),dot_ok ok,two_le,fun Z hZ=>?_⟩)⟩)⟩
       have s4:=same_new (o:=.lst ([("ask" : Str),dotW p].map V.str)) hZ
       have eZ:(upd H3 Z (.lst ([("ask" : Str),dotW p].map V.str))) Z=some (.lst ([("ask" : Str),dotW p].map V.str)):=upd_same
       rw [show (HO.lst [.str ("ask" : Str),.str (dotW p)])=.lst ([("ask" : Str),dotW p].map V.str) from rfl]
       generalize upd H3 Z (.lst ([("ask" : Str),dotW p].map V.str))=H4 at s4 eZ ⊢
       refine cat H4 D Z pre _ _ (s4 _ _ eD3) eZ (by show _ + 2≤1000; omega) fun D5 H5 s5 h5 e5=>?_
       have s35:=s4.trans s5
       exact fin D5 H5 [("ask" : Str),dotW p] s35 (s4.free h5) e5 (by rw [wrdT]; rfl)
     | one r n p =>
       obtain ⟨v,e0,u,rfl,eu⟩:=h
       have et:=s3 _ _ e0
       refine ⟨_,rfl,Or.inr (Or.inl ⟨b,_,_,.str ("one" : Str),rfl,rfl,SqT.of et,rfl,rfl,_,rfl,ite2 (fun e=>absurd (V.str.inj (of_decide_eq_true e)) (by decide +kernel)) (fun _=>?_)⟩)⟩
       refine ⟨_,rfl,Or.inr (Or.inl ⟨b,_,_,.str ("one" : Str),rfl,rfl,SqT.of et,rfl,rfl,_,rfl,ite2 (fun e=>absurd (V.str.inj (of_decide_eq_true e)) (by decide +kernel)) (fun _=>?_)⟩)⟩
       refine ⟨_,rfl,Or.inr (Or.inl ⟨b,_,_,.str ("one" : Str),rfl,rfl,SqT.of et,rfl,rfl,_,rfl,ite2 (fun e=>absurd (V.str.inj (of_decide_eq_true e)) (by decide +kernel)) (fun _=>?_)⟩)⟩
       refine ⟨_,rfl,Or.inr (Or.inl ⟨b,_,_,.str ("one" : Str),rfl,rfl,SqT.of et,rfl,rfl,_,rfl,ite2 (fun e=>absurd (V.str.inj (of_decide_eq_true e)) (by decide +kernel)) (fun _=>iteF ?_)⟩)⟩
       refine ⟨_,rfl,Or.inr (Or.inl ⟨b,_,_,.str ("one" : Str),rfl,rfl,SqT.of et,rfl,rfl,_,rfl,ite2 (fun _=>?_) (fun e=>absurd (decide_eq_true rfl) e)⟩)⟩
       refine ⟨_,rfl,_,rfl,Or.inr (Or.inl ⟨b,_,_,.str r,rfl,rfl,SqT.of et,rfl,_,rfl,Or.inr (Or.inl ⟨b,_,_,.str n,rfl,rfl,SqT.of et,rfl,rfl,_,rfl,Or.inr (Or.inl ⟨b,_,_,.ref u,rfl,rfl,SqT.of et,rfl,("." : Str),u,p,rfl,rfl,SqT.of (s3 _ _ eu),dot_ok ok.2.2,by show 5≤sizeLine; decide,fun Z hZ=>?_⟩)⟩)⟩)⟩
       have s4:=same_new (o:=.lst ([("one" : Str),r,n,("from" : Str),dotW p].map V.str)) hZ
       have eZ:(upd H3 Z (.lst ([("one" : Str),r,n,("from" : Str),dotW p].map V.str))) Z=some (.lst ([("one" : Str),r,n,("from" : Str),dotW p].map V.str)):=upd_same
       rw [show (HO.lst [.str ("one" : Str),.str r,.str n,.str ("from" : Str),.str (dotW p)])=.lst ([("one" : Str),r,n,("from" : Str),dotW p].map V.str) from rfl]
       generalize upd H3 Z (.lst ([("one" : Str),r,n,("from" : Str),dotW p].map V.str))=H4 at s4 eZ ⊢
       refine cat H4 D Z pre _ _ (s4 _ _ eD3) eZ (by show _ + 5≤1000; omega) fun D5 H5 s5 h5 e5=>?_
       have s35:=s4.trans s5
       exact fin D5 H5 [("one" : Str),r,n,("from" : Str),dotW p] s35 (s4.free h5) e5 (by rw [wrdT]; rfl)
     | all p on =>
       obtain ⟨v,e0,u,rfl,eu⟩:=h
       have et:=s3 _ _ e0
       refine ⟨_,rfl,Or.inr (Or.inl ⟨b,_,_,.str ("all" : Str),rfl,rfl,SqT.of et,rfl,rfl,_,rfl,ite2 (fun e=>absurd (V.str.inj (of_decide_eq_true e)) (by decide +kernel)) (fun _=>?_)⟩)⟩
       refine ⟨_,rfl,Or.inr (Or.inl ⟨b,_,_,.str ("all" : Str),rfl,rfl,SqT.of et,rfl,rfl,_,rfl,ite2 (fun e=>absurd (V.str.inj (of_decide_eq_true e)) (by decide +kernel)) (fun _=>?_)⟩)⟩
       refine ⟨_,rfl,Or.inr (Or.inl ⟨b,_,_,.str ("all" : Str),rfl,rfl,SqT.of et,rfl,rfl,_,rfl,ite2 (fun e=>absurd (V.str.inj (of_decide_eq_true e)) (by decide +kernel)) (fun _=>?_)⟩)⟩
       refine ⟨_,rfl,Or.inr (Or.inl ⟨b,_,_,.str ("all" : Str),rfl,rfl,SqT.of et,rfl,rfl,_,rfl,ite2 (fun _=>?_) (fun e=>absurd (decide_eq_true rfl) e)⟩)⟩
       refine ⟨_,rfl,Or.inr (Or.inl ⟨b,_,_,.bl on,rfl,rfl,SqT.of et,rfl,_,rfl,?_⟩)⟩
       cases on with
       | true =>
         refine iteT ?_
         refine ⟨_,rfl,rfl,_,rfl,Or.inr (Or.inl ⟨b,_,_,.ref u,rfl,rfl,SqT.of et,rfl,("." : Str),u,p,rfl,rfl,SqT.of (s3 _ _ eu),dot_ok ok,three_le,fun Z hZ=>?_⟩)⟩
         have s4:=same_new (o:=.lst ([("all" : Str),("on" : Str),dotW p].map V.str)) hZ
         have eZ:(upd H3 Z (.lst ([("all" : Str),("on" : Str),dotW p].map V.str))) Z=some (.lst ([("all" : Str),("on" : Str),dotW p].map V.str)):=upd_same
         rw [show (HO.lst [.str ("all" : Str),.str ("on" : Str),.str (dotW p)])=.lst ([("all" : Str),("on" : Str),dotW p].map V.str) from rfl]
         generalize upd H3 Z (.lst ([("all" : Str),("on" : Str),dotW p].map V.str))=H4 at s4 eZ ⊢
         refine cat H4 D Z pre _ _ (s4 _ _ eD3) eZ (by show _ + 3≤1000; omega) fun D5 H5 s5 h5 e5=>?_
         have s35:=s4.trans s5
         exact fin D5 H5 [("all" : Str),("on" : Str),dotW p] s35 (s4.free h5) e5 (by rw [wrdT]; rfl)
       | false =>
         refine iteF ?_
         refine ⟨_,rfl,Or.inr (Or.inl ⟨b,_,_,.str ("all" : Str),rfl,rfl,SqT.of et,rfl,rfl,_,rfl,ite2 (fun e=>absurd (V.str.inj (of_decide_eq_true e)) (by decide +kernel)) (fun _=>?_)⟩)⟩
         refine ⟨_,rfl,_,rfl,Or.inr (Or.inl ⟨b,_,_,.str ("all" : Str),rfl,rfl,SqT.of et,rfl,rfl,_,rfl,Or.inr (Or.inl ⟨b,_,_,.ref u,rfl,rfl,SqT.of et,rfl,("." : Str),u,p,rfl,rfl,SqT.of (s3 _ _ eu),dot_ok ok,two_le,fun Z hZ=>?_⟩)⟩)⟩
         have s4:=same_new (o:=.lst ([("all" : Str),dotW p].map V.str)) hZ
         have eZ:(upd H3 Z (.lst ([("all" : Str),dotW p].map V.str))) Z=some (.lst ([("all" : Str),dotW p].map V.str)):=upd_same
         rw [show (HO.lst [.str ("all" : Str),.str (dotW p)])=.lst ([("all" : Str),dotW p].map V.str) from rfl]
         generalize upd H3 Z (.lst ([("all" : Str),dotW p].map V.str))=H4 at s4 eZ ⊢
         refine cat H4 D Z pre _ _ (s4 _ _ eD3) eZ (by show _ + 2≤1000; omega) fun D5 H5 s5 h5 e5=>?_
         have s35:=s4.trans s5
         exact fin D5 H5 [("all" : Str),dotW p] s35 (s4.free h5) e5 (by rw [wrdT]; rfl)
theorem calln__law_words (B:Blt mg) (ER:Ers K mg)  (F:Fun K "_law_words" "_law_words" s__law_words f fd) (hm:mg "_law_words" = some (.ref f)) (n:Nat):Callee P w K mg base "_law_words" (0 + n) ["_law_some"] (spn__law_words K n):=by
 have bi:Binds K fd ["_law_some"] []:=F.binds fun _ _ _ _ _ _ us hl=>(by obtain ⟨x0,rfl⟩:=len_1 hl; rfl)
 induction n with
 | zero=>exact ⟨f,fd,⟨fun vs H Q E h=>(by obtain ⟨_,_,_,_,hd,_⟩:=h; exact absurd hd (Nat.not_lt_zero _)),fun A outer s H args us vs Q E _ _ _ _ h=>(by obtain ⟨_,_,_,_,hd,_⟩:=h; exact absurd hd (Nat.not_lt_zero _))⟩,hm,F.kp,bi⟩
 | succ n ih=>exact ⟨f,fd,ok__law_words B ER  n ih F,hm,F.kp,bi⟩
variable (P w K mg base) in
abbrev C__law_words:Prop:=Callee P w K mg base "_law_words" 32 ["_law_some"] (sp__law_words K)
theorem call__law_words (B:Blt mg) (ER:Ers K mg)  (F:Fun K "_law_words" "_law_words" s__law_words f fd) (hm:mg "_law_words" = some (.ref f)):C__law_words P w K mg base :=
 calln__law_words B ER  F hm 32
def sp__law_path (K:PySem.W.Frag):Sp:=fun vs H Q _=>∃ (c:Int) (L:Addr) (ls:List Str),vs=[.int c,.ref L]∧H L=some (.lst (ls.map V.str))∧1≤ls.length∧ls.length≤100∧(∀ x∈ls,LowW x)∧∀ (u:Addr) (p:List Str) (H':Hp),Same H H'→H' u=some (.tup (p.map V.str))→PthOk p→Q (.ref u) H'
theorem ok__law_path (B:Blt mg) (ER:Ers K mg)  (F:Fun K "_law_path" "_law_path" s__law_path f fd):FnOk P w K mg base CX0 1 f fd ["_law_cell", "_law_names_here"] (sp__law_path K):=by
 refine F.ok sc__law_path (fun vs H Q E h=>?_) (fun cdv A outer s H vs Q E hr h=>?_)
 · obtain ⟨c,L,ls,rfl,_⟩:=h
   rfl
 · obtain ⟨c,L,ls,rfl,eL,h1,h100,hlow,q⟩:=h
   refine ⟨_,(pss_cons (ps_set (i:=2) sc__law_path.nd (pe_op op_add pe_int (pe_op op_mod (pv 0) pe_int)))
    (pss_cons (ps_if (pt_cmpR op_eq (pe_op op_mod (pe_op op_fdiv (pv 0) pe_int) pe_int) pe_int (nomark _)) (pss_one (ps_set (i:=2) sc__law_path.nd (pe_op op_add pe_int (pe_op op_mod (pe_op op_fdiv (pv 0) pe_int) pe_int)))) pss_nil)
    (pss_one (ps_ret (pe_callTy call_tuple_of B.b_tuple (pa_cons (pe_comp (te:=tOp (rIx K) (tVar 1) (tOp xMod (tOp xDiv (tVar 2) (tOp xAdd (tOp xMul (tC (.int 3)) (tVar 0)) (tC (.int 11)))) (tCB (rLen K) (tCons (tVar 1) tNil)))) rfl _law_path_cs1 (pi_range1 rfl B.b_range (pa_cons (pv 2) pa_nil)) (fun _ _ _ _ _=>(pg_name (i:=0) _law_path_cs1.nd)) (fun _ _ _ _ _=>pf_nil) (fun _ _ _ _ _=>(pe_ix ix_seq (pv 1) (pe_op op_mod (pe_op op_fdiv (pv 2) (pe_op op_add (pe_op op_mul pe_int (pv 0)) pe_int)) (pe_callB call_len B.b_len (pa_cons (pv 1) pa_nil)))))) pa_nil)))))),?_⟩
   refine ⟨_,rfl,_,_,rfl,rfl,(by show (0:Int) < 2; decide),_,_,rfl,rfl,?_⟩
   refine g_in ?_
   try dsimp only
   refine seq_cut (fun σ' H'=>∃ m:Int,σ'=[some (.int c),some (.ref L),some (.int m)]∧1≤m∧m≤6∧H'=H) ?_ (fun NN hNN=>?_)
   case refine_2 =>
    refine ⟨_,rfl,_,_,rfl,rfl,⟨by decide,by decide⟩,_,_,rfl,rfl,(by show (0:Int) < 5; decide),rfl,_,rfl,ite2 (fun _=>?_) (fun _=>?_)⟩
    · refine ⟨_,rfl,_,_,rfl,rfl,⟨by decide,by decide⟩,_,_,rfl,rfl,(by show (0:Int) < 6; decide),_,_,rfl,rfl,?_⟩
      exact hNN _ _ ⟨_,rfl,by omega,by omega,rfl⟩
    · exact hNN _ _ ⟨_,rfl,by omega,by omega,rfl⟩
   rintro σ' H' ⟨m,rfl,m1,m6,rfl⟩
   refine ⟨_,rfl,_,rfl,by omega,by omega,comp_range (fun i=>V.str (pick ls (c / (3 * (0 + (i:Int)) + 11)))) (Nat.le_trans (show m.toNat≤6 by omega) (by decide)) (fun i H2 D R hi s2 hD k=>?_) (fun H1 Db t1 hDb e1=>?_)⟩
   · refine ⟨_,rfl,_,rfl,_,rfl,_,_,rfl,rfl,Or.inl ⟨by decide,by decide⟩,_,_,rfl,rfl,_,_,rfl,rfl,⟨by omega,by omega⟩,_,rfl,_,_,rfl,Or.inl ⟨_,SqL.of (s2 _ _ eL),rfl⟩,_,_,rfl,rfl,(by show (0:Int) < _; rw [List.length_map]; omega),Or.inl ⟨L,_,_,_,rfl,rfl,SqL.of (s2 _ _ eL),by rw [List.length_map]; exact pick_at h1 _,k H2 (Same.refl _)⟩⟩
   refine ⟨Db,_,rfl,Or.inl ⟨SqL.of e1,fun u hu=>?_⟩⟩
   refine q u ((List.range m.toNat).map fun i:Nat=>pick ls (c / (3 * (0 + (i:Int)) + 11))) _ (t1.trans (same_new hu)) (by rw [upd_same,List.map_map]; rfl) ⟨by rw [List.length_map,List.length_range]; omega,by rw [List.length_map,List.length_range]; omega,fun x hx=>?_⟩
   obtain ⟨i,_,rfl⟩:=List.mem_map.mp hx
   exact hlow _ (pick_mem h1 _)
variable (P w K mg base) in
abbrev C__law_path:Prop:=Callee P w K mg base "_law_path" 1 ["_law_cell", "_law_names_here"] (sp__law_path K)
theorem call__law_path (B:Blt mg) (ER:Ers K mg)  (F:Fun K "_law_path" "_law_path" s__law_path f fd) (hm:mg "_law_path" = some (.ref f)):C__law_path P w K mg base :=
 ⟨f,fd,ok__law_path B ER  F,hm,F.kp,F.binds fun _ _ _ _ _ _ us hl=>(by obtain ⟨x0,x1,rfl⟩:=len_2 hl; rfl)⟩
def sp__law_item (K:PySem.W.Frag):Sp:=fun vs H Q _=>∃ (kd c:Int) (L:Addr) (ls:List Str),vs=[.int kd,.int c,.ref L]∧0≤kd∧H L=some (.lst (ls.map V.str))∧1≤ls.length∧ls.length≤100∧(∀ x∈ls,LowW x)∧∀ (t:Addr) (it:Itm) (H':Hp),Same H H'→RowH H' t it→ItmOk it→NotPart it→RchI it→stpI it=(if kd=5∨kd=6 then 1 else 0)→telI it=(if kd < 3∨kd=7 then 1 else 0)→Q (.ref t) H'
theorem ok__law_item (B:Blt mg) (ER:Ers K mg) (c__law_path:C__law_path P w K mg base) (F:Fun K "_law_item" "_law_item" s__law_item f fd):FnOk P w K mg base CX0 2 f fd ["_law_kind", "_law_cell", "_law_names_here"] (sp__law_item K):=by
 refine F.ok sc__law_item (fun vs H Q E h=>?_) (fun cdv A outer s H vs Q E hr h=>?_)
 · obtain ⟨kd,c,L,ls,rfl,_⟩:=h
   rfl
 · obtain ⟨kd,c,L,ls,rfl,k0,eL,h1,h100,hlow,q⟩:=h
   refine ⟨_,(pss_cons (ps_set (i:=3) sc__law_item.nd (pe_ix ix_seq (pe_lst (pa_cons pe_str (pa_cons pe_str pa_nil))) (pe_op op_mod (pv 1) pe_int)))
    (pss_cons (ps_set (i:=4) sc__law_item.nd (pe_ix ix_seq (pv 2) (pe_op op_mod (pe_op op_fdiv (pv 1) pe_int) (pe_callB call_len B.b_len (pa_cons (pv 2) pa_nil)))))
    (pss_cons (ps_set (i:=5) sc__law_item.nd (pe_fn c__law_path (pa_cons (pe_op op_fdiv (pv 1) pe_int) (pa_cons (pv 2) pa_nil))))
    (pss_cons (ps_if (pt_cmpR op_lt (pv 0) pe_int (nomark _)) (pss_one (ps_ret (pe_tup (pa_cons pe_str (pa_cons (pv 3) (pa_cons (pv 4) (pa_cons (pe_ifExp (pt_cmpR op_eq (pv 0) pe_int (nomark _)) (pv 5) pe_non) pa_nil))))))) pss_nil)
    (pss_cons (ps_if (pt_cmpR op_lt (pv 0) pe_int (nomark _)) (pss_one (ps_ret (pe_tup (pa_cons pe_str (pa_cons (pv 4) (pa_cons (pe_ifExp (pt_cmpR op_eq (pv 0) pe_int (nomark _)) (pv 5) pe_non) pa_nil)))))) pss_nil)
    (pss_cons (ps_if (pt_cmpR op_eq (pv 0) pe_int (nomark _)) (pss_one (ps_ret (pe_tup (pa_cons pe_str (pa_cons (pv 5) pa_nil))))) pss_nil)
    (pss_cons (ps_if (pt_cmpR op_eq (pv 0) pe_int (nomark _)) (pss_one (ps_ret (pe_tup (pa_cons pe_str (pa_cons (pv 5) (pa_cons (pe_cmpR op_eq (pe_op op_mod (pe_op op_fdiv (pv 1) pe_int) pe_int) pe_int (nomark _)) pa_nil)))))) pss_nil)
    (pss_cons (ps_if (pt_cmpR op_eq (pv 0) pe_int (nomark _)) (pss_one (ps_ret (pe_tup (pa_cons pe_str (pa_cons (pv 3) (pa_cons (pv 4) (pa_cons (pv 5) pa_nil))))))) pss_nil)
    (pss_one (ps_ret (pe_tup (pa_cons pe_str (pa_cons (pv 5) pa_nil))))))))))))),?_⟩
   refine ⟨two_le,fun l hl=>?_⟩
   obtain ⟨H1,qH1,s1,el⟩:=new_at (o:=.lst [.str ("open" : Str),.str ("own" : Str)]) hl
   rw [←qH1]
   obtain ⟨r,hr1,hr2⟩:∃ r:Str,atI [V.str ("open" : Str),V.str ("own" : Str)] (c % 2)=some (.str r)∧Rch r:=by
    have y0:=Int.emod_nonneg c (by decide:(2:Int)≠0)
    have y1:=Int.emod_lt_of_pos c (by decide:(0:Int) < 2)
    generalize c % 2=z at y0 y1 ⊢
    have:z=0∨z=1:=by omega
    rcases this with rfl | rfl
    · exact ⟨_,rfl,.inl rfl⟩
    · exact ⟨_,rfl,.inr rfl⟩
   refine ⟨_,rfl,_,_,rfl,rfl,(by show (0:Int) < 2; decide),Or.inl ⟨l,_,_,.str r,rfl,rfl,SqL.of el,hr1,?_⟩⟩
   refine g_in ?_
   try dsimp only
   have eL1:=s1 _ _ eL
   refine ⟨_,rfl,_,rfl,_,_,rfl,rfl,⟨by decide,by decide⟩,_,rfl,_,_,rfl,Or.inl ⟨_,SqL.of eL1,rfl⟩,_,_,rfl,rfl,(by show (0:Int) < _; rw [List.length_map]; omega),Or.inl ⟨L,_,_,_,rfl,rfl,SqL.of eL1,by rw [List.length_map]; exact pick_at h1 _,?_⟩⟩
   have hn:=hlow _ (pick_mem h1 (c / 2))
   generalize pick ls (c / 2)=n at hn ⊢
   refine g_in ?_
   try dsimp only
   refine ⟨_,rfl,_,_,rfl,rfl,⟨by decide,by decide⟩,_,rfl,_,L,ls,rfl,eL1,h1,h100,hlow,fun u p H2 s2 eu hp=>?_⟩
   refine g_in ?_
   try dsimp only
   have s12:=s1.trans s2
   refine ⟨_,rfl,_,_,rfl,rfl,_,rfl,ite2 (fun e=>?_) (fun n3=>?_)⟩
   · have e:=of_decide_eq_true e
     refine ⟨_,rfl,_,rfl,_,rfl,rfl,_,rfl,ite2 (fun _=>?_) (fun _=>?_)⟩
     · refine ⟨_,rfl,four_le,fun t ht=>?_⟩
       exact q t (.thing r n (some p)) _ (s12.trans (same_new ht)) ⟨_,upd_same,u,rfl,(same_new ht) _ _ eu⟩ ⟨hr2.low,hn,fun q e=>Option.some.inj e ▸ hp⟩ trivial hr2 (by rw [if_neg (by omega)]; rfl) (by rw [if_pos (by omega)]; rfl)
     · refine ⟨four_le,fun t ht=>?_⟩
       exact q t (.thing r n none) _ (s12.trans (same_new ht)) ⟨_,upd_same,rfl⟩ ⟨hr2.low,hn,fun q e=>by cases e⟩ trivial hr2 (by rw [if_neg (by omega)]; rfl) (by rw [if_pos (by omega)]; rfl)
   have n3:¬ kd < 3:=fun z=>n3 (decide_eq_true z)
   refine ⟨_,rfl,_,_,rfl,rfl,_,rfl,ite2 (fun e=>?_) (fun n5=>?_)⟩
   · have e:=of_decide_eq_true e
     refine ⟨_,rfl,_,rfl,rfl,_,rfl,ite2 (fun _=>?_) (fun _=>?_)⟩
     · refine ⟨_,rfl,three_le,fun t ht=>?_⟩
       exact q t (.lett n (some p)) _ (s12.trans (same_new ht)) ⟨_,upd_same,u,rfl,(same_new ht) _ _ eu⟩ ⟨hn,fun q e=>Option.some.inj e ▸ hp⟩ trivial trivial (by rw [if_neg (by omega)]; rfl) (by rw [if_neg (by omega)]; rfl)
     · refine ⟨three_le,fun t ht=>?_⟩
       exact q t (.lett n none) _ (s12.trans (same_new ht)) ⟨_,upd_same,rfl⟩ ⟨hn,fun q e=>by cases e⟩ trivial trivial (by rw [if_neg (by omega)]; rfl) (by rw [if_neg (by omega)]; rfl)
   have n5:¬ kd < 5:=fun z=>n5 (decide_eq_true z)
   refine ⟨_,rfl,rfl,_,rfl,ite2 (fun e=>?_) (fun m5=>?_)⟩
   · have e:kd=5:=V.int.inj (of_decide_eq_true e)
     refine ⟨_,rfl,two_le,fun t ht=>?_⟩
     exact q t (.elder p) _ (s12.trans (same_new ht)) ⟨_,upd_same,u,rfl,(same_new ht) _ _ eu⟩ hp trivial trivial (by rw [if_pos (by omega)]; rfl) (by rw [if_neg (by omega)]; rfl)
   have m5:kd≠5:=fun z=>m5 (decide_eq_true (congrArg V.int z))
   refine ⟨_,rfl,rfl,_,rfl,ite2 (fun e=>?_) (fun m6=>?_)⟩
   · have e:kd=6:=V.int.inj (of_decide_eq_true e)
     refine ⟨_,rfl,_,rfl,_,_,rfl,rfl,⟨by decide,by decide⟩,_,_,rfl,rfl,(by show (0:Int) < 2; decide),rfl,three_le,fun t ht=>?_⟩
     exact q t (.all p _) _ (s12.trans (same_new ht)) ⟨_,upd_same,u,rfl,(same_new ht) _ _ eu⟩ hp trivial trivial (by rw [if_pos (by omega)]; rfl) (by rw [if_neg (by omega)]; rfl)
   have m6:kd≠6:=fun z=>m6 (decide_eq_true (congrArg V.int z))
   refine ⟨_,rfl,rfl,_,rfl,ite2 (fun e=>?_) (fun m7=>?_)⟩
   · have e:kd=7:=V.int.inj (of_decide_eq_true e)
     refine ⟨_,rfl,_,rfl,_,rfl,four_le,fun t ht=>?_⟩
     exact q t (.one r n p) _ (s12.trans (same_new ht)) ⟨_,upd_same,u,rfl,(same_new ht) _ _ eu⟩ ⟨hr2.low,hn,hp⟩ trivial hr2 (by rw [if_neg (by omega)]; rfl) (by rw [if_pos (by omega)]; rfl)
   have m7:kd≠7:=fun z=>m7 (decide_eq_true (congrArg V.int z))
   refine ⟨_,rfl,two_le,fun t ht=>?_⟩
   exact q t (.ask p) _ (s12.trans (same_new ht)) ⟨_,upd_same,u,rfl,(same_new ht) _ _ eu⟩ hp trivial trivial (by rw [if_neg (by omega)]; rfl) (by rw [if_neg (by omega)]; rfl)
variable (P w K mg base) in
abbrev C__law_item:Prop:=Callee P w K mg base "_law_item" 2 ["_law_kind", "_law_cell", "_law_names_here"] (sp__law_item K)
theorem call__law_item (B:Blt mg) (ER:Ers K mg) (c__law_path:C__law_path P w K mg base) (F:Fun K "_law_item" "_law_item" s__law_item f fd) (hm:mg "_law_item" = some (.ref f)):C__law_item P w K mg base :=
 ⟨f,fd,ok__law_item B ER c__law_path F,hm,F.kp,F.binds fun _ _ _ _ _ _ us hl=>(by obtain ⟨x0,x1,x2,rfl⟩:=len_3 hl; rfl)⟩
theorem kd5 (z:Int):inV (.int z) [.int 5,.int 6]=decide (z=5∨z=6):=by
 show ((5 == z) || ((6 == z) || false))=_
 rw [Bool.eq_iff_iff]
 simp only [Bool.or_eq_true,beq_iff_eq,Bool.or_false,decide_eq_true_eq]
 constructor <;> intro h <;> omega
theorem kd7 (z:Int):inV (.int z) [.int 0,.int 1,.int 2,.int 7]=decide (z=0∨z=1∨z=2∨z=7):=by
 show ((0 == z) || ((1 == z) || ((2 == z) || ((7 == z) || false))))=_
 rw [Bool.eq_iff_iff]
 simp only [Bool.or_eq_true,beq_iff_eq,Bool.or_false,decide_eq_true_eq]
 constructor <;> intro h <;> omega
def sp__law_program (_:PySem.W.Frag):Sp:=fun vs H Q _=>∃ (C L:Addr) (ns:List Int) (ls:List Str),vs=[.ref C,.ref L]∧H C=some (.lst (ns.map V.int))∧ns.length≤38∧H L=some (.lst (ls.map V.str))∧1≤ls.length∧ls.length≤100∧(∀ x∈ls,LowW x) ∧
 ∀ (P:Addr) (as:List Addr) (ts:List Tre) (H':Hp),Same H H'→H' P=some (.lst (as.map V.ref))→RowsT H' as ts→NoPartL ts→OkL ts→RoomL ts→stpL ts≤8→telL ts≤12→szL ts≤38→depL ts≤30→RchL ts→Q (.ref P) H'
theorem ok__law_program (B:Blt mg) (ER:Ers K mg) (c__law_item:C__law_item P w K mg base) (F:Fun K "_law_program" "_law_program" s__law_program f fd):FnOk P w K mg base CX0 3 f fd ["_law_cells", "_law_names_here"] (sp__law_program K):=by
 refine F.ok sc__law_program (fun vs H Q E h=>?_) (fun cdv A outer s H vs Q E hr h=>?_)
 · obtain ⟨C,L,ns,ls,rfl,_⟩:=h
   rfl
 · obtain ⟨C,L,ns,ls,rfl,eC,h38,eL,h1,h100,hlow,q⟩:=h
   refine ⟨_,(pss_cons (ps_set (i:=2) sc__law_program.nd (pe_lst pa_nil))
    (pss_cons (ps_set (i:=3) sc__law_program.nd (pe_lst (pa_cons (pe_tup (pa_cons (pv 2) (pa_cons (pe_lst (pa_cons pe_int (pa_cons pe_int pa_nil))) pa_nil))) pa_nil)))
    (pss_cons (ps_for PassesOwn.never rfl (pi_list (pv 0)) (pg_name (i:=4) sc__law_program.nd) (pss_cons (ps_set (i:=5) sc__law_program.nd (pe_op op_mod (pe_op op_mul (pe_op op_mod (pv 4) (pe_op op_pow pe_int pe_int)) pe_int) pe_int))
     (pss_cons (ps_asg (pe_ix ix_seq (pv 3) (pe_un un_neg pe_int)) (pg_tup (n:=2) rfl (pgs_cons (pg_name (i:=6) sc__law_program.nd) (pgs_cons (pg_name (i:=7) sc__law_program.nd) pgs_nil))))
     (pss_cons (ps_set (i:=8) sc__law_program.nd (pe_op op_mod (pv 5) pe_int))
     (pss_cons (ps_if (PW.pt (pw_and (pt_cmpR op_eq (pv 8) pe_int (nomark _)) (pw_and1 (pt_cmpR op_gt (pe_callB call_len B.b_len (pa_cons (pv 3) pa_nil)) pe_int (nomark _))))) (pss_cons (ps_expr (pe_bm0 PySem.F.plainAttrs_list PySem.F.slot_list_pop PySem.F.type_list_pop mr_pop (pv 3)))
      (pss_one ps_continue)) pss_nil)
     (pss_cons (ps_if (PW.pt (pw_or (PW.pt (pw_and (pt_cmpR op_in_seq (pv 8) (pe_tup (pa_cons pe_int (pa_cons pe_int (pa_cons pe_int (pa_cons pe_int pa_nil))))) (by with_unfolding_all rfl)) (pw_and1 (pt_cmpR op_eq (pe_ix ix_seq (pv 7) pe_int) pe_int (nomark _))))) (pw_or1 (PW.pt (pw_and (pt_cmpR op_in_seq (pv 8) (pe_tup (pa_cons pe_int (pa_cons pe_int pa_nil))) (by with_unfolding_all rfl)) (pw_and1 (pt_cmpR op_eq (pe_ix ix_seq (pv 7) pe_int) pe_int (nomark _)))))))) (pss_one (ps_set (i:=8) sc__law_program.nd pe_int)) pss_nil)
     (pss_one (ps_if (PW.pt (pw_and (pt_cmpR op_gt (pv 8) pe_int (nomark _)) (pw_and (pt_cmpR op_lt (pe_ix ix_seq (pv 7) pe_int) pe_int (nomark _)) (pw_and1 (pt_cmpR op_lt (pe_callB call_len B.b_len (pa_cons (pv 3) pa_nil)) pe_int (nomark _)))))) (pss_cons (ps_expr (pe_bm PySem.F.plainAttrs_list PySem.F.slot_list_append PySem.F.type_list_append mr_append (pv 6) (pa_cons (pe_tup (pa_cons pe_str (pa_cons (pe_ix ix_seq (pe_lst (pa_cons pe_str (pa_cons pe_str pa_nil))) (pe_op op_mod (pe_op op_fdiv (pv 5) pe_int) pe_int)) (pa_cons (pe_ix ix_seq (pv 1) (pe_op op_mod (pe_op op_fdiv (pv 5) pe_int) (pe_callB call_len B.b_len (pa_cons (pv 1) pa_nil)))) (pa_cons (pe_lst pa_nil) pa_nil))))) pa_nil)))
      (pss_cons (ps_asg (pe_op op_add (pe_ix ix_seq (pv 7) pe_int) pe_int) (pg_sub (pv 7) pe_int set_list))
      (pss_one (ps_expr (pe_bm PySem.F.plainAttrs_list PySem.F.slot_list_append PySem.F.type_list_append mr_append (pv 3) (pa_cons (pe_tup (pa_cons (pe_ix ix_seq (pe_ix ix_seq (pv 6) (pe_un un_neg pe_int)) pe_int) (pa_cons (pe_lst (pa_cons pe_int (pa_cons pe_int pa_nil))) pa_nil))) pa_nil)))))) (pss_cons (ps_expr (pe_bm PySem.F.plainAttrs_list PySem.F.slot_list_append PySem.F.type_list_append mr_append (pv 6) (pa_cons (pe_fn c__law_item (pa_cons (pe_callB (call_min2 rfl) B.b_min (pa_cons (pv 8) (pa_cons pe_int pa_nil))) (pa_cons (pe_op op_fdiv (pv 5) pe_int) (pa_cons (pv 1) pa_nil)))) pa_nil)))
      (pss_cons (ps_asg (pe_op op_add (pe_ix ix_seq (pv 7) pe_int) (pe_callTy call_int1 B.b_int (pa_cons (pe_cmpR op_in_seq (pv 8) (pe_tup (pa_cons pe_int (pa_cons pe_int pa_nil))) (by with_unfolding_all rfl)) pa_nil))) (pg_sub (pv 7) pe_int set_list))
      (pss_one (ps_asg (pe_op op_add (pe_ix ix_seq (pv 7) pe_int) (pe_callTy call_int1 B.b_int (pa_cons (pe_cmpR op_in_seq (pv 8) (pe_tup (pa_cons pe_int (pa_cons pe_int (pa_cons pe_int (pa_cons pe_int pa_nil))))) (by with_unfolding_all rfl)) pa_nil))) (pg_sub (pv 7) pe_int set_list)))))))))))))
    (pss_one (ps_ret (pv 2)))))),?_⟩
   refine ⟨by decide,fun P hP=>?_⟩
   obtain ⟨H1,qH1,s1,eP⟩:=new_at (o:=.lst []) hP
   rw [←qH1]
   refine g_in ?_
   try dsimp only
   refine ⟨_,rfl,two_le,fun R hR=>?_⟩
   have s2:=same_new (o:=.lst [.int ((0:Nat):Int),.int ((0:Nat):Int)]) hR
   have eR:(upd H1 R (.lst [.int ((0:Nat):Int),.int ((0:Nat):Int)])) R=some (.lst [.int ((0:Nat):Int),.int ((0:Nat):Int)]):=upd_same
   rw [show (HO.lst [.int 0,.int 0])=.lst [.int ((0:Nat):Int),.int ((0:Nat):Int)] from rfl]
   generalize upd H1 R (.lst [.int ((0:Nat):Int),.int ((0:Nat):Int)])=H2 at s2 eR ⊢
   refine ⟨two_le,fun T hT=>?_⟩
   obtain ⟨H3,qH3,s3,eT⟩:=new_at (o:=.tup [.ref P,.ref R]) hT
   rw [←qH3]
   refine ⟨one_le,fun S hS=>?_⟩
   obtain ⟨H4,qH4,s4,eS⟩:=new_at (o:=.lst [.ref T]) hS
   rw [←qH4]
   refine g_in ?_
   try dsimp only
   have s34:=s3.trans s4
   have s24:=s2.trans s34
   have s14:=s1.trans s24
   have fS:H S=none:=(s1.trans (s2.trans s3)).free hS
   have fR:H R=none:=s1.free hR
   have nPR:P≠R:=fun z=>by rw [←z,eP] at hR; cases hR
   have nPS:P≠S:=fun z=>by rw [←z,(s2.trans s3) _ _ eP] at hS; cases hS
   have nRS:R≠S:=fun z=>by rw [←z,s3 _ _ eR] at hS; cases hS
   have c0:Cur H H4 P (fun x=>if x=S then 1 else if x=R then 3 else 2) 0 [] T P R [] [] 0 0 0:=⟨.nil,s4 _ _ eT,s34 _ _ eR,s24 _ _ eP,by show (if P=S then 1 else if P=R then 3 else 2)=2; rw [if_neg nPS,if_neg nPR],by show (if R=S then 1 else if R=R then 3 else 2)=3; rw [if_neg nRS,if_pos rfl],.nil,⟨trivial,trivial,trivial,rfl,by decide,by decide,trivial⟩,rfl,by decide,hP,fR⟩
   refine ⟨_,rfl,C,rfl,⟨_,SqL.of (s14 _ _ eC)⟩,for_list (xs:=ns.map V.int) (fun i σ H'=>∃ w4 w5 w6 w7 w8 τ k Ts T Lc Rc as ts a b sz,σ=[some (.ref C),some (.ref L),some (.ref P),some (.ref S),w4,w5,w6,w7,w8]∧Same H H'∧H' S=some (.lst (Ts.map V.ref++[.ref T]))∧τ S=1∧Cur H H' P τ k Ts T Lc Rc as ts a b sz∧sz + szL ts≤i) ⟨none,none,none,none,none,_,0,[],T,P,R,[],[],0,0,0,rfl,s14,eS,by show (if S=S then 1 else _)=1; rw [if_pos rfl],c0,by rw [szL]; exact Nat.le_refl _⟩ (fun i σ H' _ ⟨_,_,_,_,_,_,_,_,_,_,_,_,_,_,_,_,_,s,_⟩=>SqL.of (s _ _ eC)) ?_ ?_⟩
   rotate_left
   · rintro σ H5 ⟨w4,w5,w6,w7,w8,τ,k,Ts,T,Lc,Rc,as,ts,a,b,sz,rfl,s5,eS5,tS,c5,hz⟩
     obtain ⟨as',ts',g1,g2,g3,g4,g5,g6,g7,g8,g9,g10⟩:=c5.close
     rw [List.length_map] at hz
     exact ⟨_,rfl,q P as' ts' H5 s5 g1 g2 g3 g4 g5 g6 g7 (by omega) g9 g10⟩
   clear c0 eS s4 eT s3 eR s2 s34 s24 s14 eP s1 nPR nPS nRS
   rintro i x σ H5 hx ⟨w4,w5,w6,w7,w8,τ,k,Ts,T,Lc,Rc,as,ts,a,b,sz,rfl,s5,eS5,tS,c5,hz⟩
   obtain ⟨cl,hcl,rfl⟩:=getm hx
   have hi:i < ns.length:=(List.getElem?_eq_some_iff.mp hcl).1
   refine g_in ?_
   try dsimp only
   refine ⟨_,rfl,_,_,rfl,rfl,⟨by decide,by decide,by decide⟩,_,_,rfl,rfl,(by show (0:Int) < 10 ^ Int.toNat 9; decide),_,_,rfl,rfl,Or.inr ⟨by decide,by decide⟩,_,_,rfl,rfl,(by show (0:Int) < 2147483647; decide),?_⟩
   refine g_in ?_
   try dsimp only
   generalize cl % 10 ^ Int.toNat 9 * 48271 % 2147483647=nu
   have lTs:=c5.c.len
   have dpk:=c5.fo.dp
   refine ⟨_,rfl,_,rfl,Or.inl ⟨S,_,_,.ref T,rfl,rfl,SqL.of eS5,atI_last _ _,T,_,rfl,SqT.of c5.hT,rfl,_,_,rfl,_,_,rfl,rfl,?_⟩⟩
   try dsimp only
   refine ⟨_,rfl,_,_,rfl,rfl,(by show (0:Int) < 12; decide),?_⟩
   refine g_in ?_
   try dsimp only
   have k0:=Int.emod_nonneg nu (by decide:(12:Int)≠0)
   have k12:=Int.emod_lt_of_pos nu (by decide:(0:Int) < 12)
   generalize nu % 12=kd at k0 k12 ⊢
   refine seq_cut (fun σ' H'=>σ'=[some (.ref C),some (.ref L),some (.ref P),some (.ref S),some (.int cl),some (.int nu),some (.ref Lc),some (.ref Rc),some (.int kd)]∧H5=H') ?_ (fun NN hNN=>?_)
   case refine_2 =>
    refine ⟨_,rfl,rfl,_,rfl,ite2 (fun e=>?_) (fun e=>iteF (hNN _ _ ⟨rfl,rfl⟩))⟩
    refine ⟨_,rfl,_,_,rfl,Or.inl ⟨_,SqL.of eS5,rfl⟩,_,_,rfl,rfl,_,rfl,ite2 (fun e2=>?_) (fun e2=>hNN _ _ ⟨rfl,rfl⟩)⟩
    have e2:=of_decide_eq_true e2
    rw [List.length_append,List.length_map,lTs,List.length_singleton] at e2
    obtain ⟨k',rfl⟩:∃ k',k=k' + 1:=⟨k - 1,by omega⟩
    obtain ⟨τ',Ts',T',L',R',as',ts',a',b',sz',rfl,c',ez,ht'⟩:=c5.pop
    refine ⟨_,rfl,Or.inl ⟨rfl,_,SqL.of eS5⟩,S,_,.ref T,rfl,rfl,eS5,by simp,?_⟩
    rw [List.dropLast_concat]
    refine ⟨_,_,_,_,_,τ',k',Ts',T',L',R',as',ts',a',b',sz',rfl,same_own s5 fS,by rw [upd_same,List.map_append]; rfl,ht' S tS,c'.step (Keeps.one eS5) (fun x m=>m ▸ ht' S tS),by omega⟩
   rintro σ' H' ⟨rfl,rfl⟩
   refine seq_cut (fun σ' H'=>∃ kd:Int,σ'=[some (.ref C),some (.ref L),some (.ref P),some (.ref S),some (.int cl),some (.int nu),some (.ref Lc),some (.ref Rc),some (.int kd)]∧Same H5 H'∧0≤kd∧((kd=0∨kd=1∨kd=2∨kd=7)→b≠12)∧((kd=5∨kd=6)→a≠8)) ?_ (fun NN hNN=>?_)
   case refine_2 =>
    refine if_cut (fun H'=>Same H5 H') (fun H'=>Same H5 H'∧((kd=0∨kd=1∨kd=2∨kd=7)→b≠12)∧((kd=5∨kd=6)→a≠8)) (fun H' s=>hNN _ _ ⟨8,rfl,s,by decide,fun z=>by omega,fun z=>by omega⟩) (fun H' ⟨s,g1,g2⟩=>hNN _ _ ⟨kd,rfl,s,k0,g1,g2⟩) (fun N1 N2 m1 m2=>?_)
    refine or_cut (fun H'=>Same H5 H'∧((kd=0∨kd=1∨kd=2∨kd=7)→b≠12)) (fun H' ⟨s,g1⟩=>?_) (fun N hN=>?_)
    · refine ⟨_,rfl,two_le,fun u hu=>⟨u,_,rfl,Or.inr (SqT.of upd_same),rfl,rfl,_,rfl,?_⟩⟩
      have s6:=same_new (o:=.tup [.int 5,.int 6]) hu
      generalize upd H' u (.tup [.int 5,.int 6])=H6 at s6 ⊢
      rw [show (if false=true then !inV (.int kd) [.int 5,.int 6] else inV (.int kd) [.int 5,.int 6])=decide (kd=5∨kd=6) from kd5 kd]
      have s56:=s.trans s6
      refine ite2 (fun e=>?_) (fun e=>iteF (m2 _ ⟨s56,g1,fun z=>absurd (decide_eq_true z) e⟩))
      refine ⟨_,rfl,Or.inl ⟨Rc,_,_,.int (a:Int),rfl,rfl,SqL.of (s56 _ _ c5.hR),rfl,rfl,_,rfl,ite2 (fun e2=>m1 _ s56) (fun e2=>m2 _ ⟨s56,g1,fun _ z=>e2 (decide_eq_true (by rw [z]; rfl))⟩)⟩⟩
    · refine ⟨_,rfl,four_le,fun u hu=>⟨u,_,rfl,Or.inr (SqT.of upd_same),rfl,rfl,_,rfl,?_⟩⟩
      have s6:=same_new (o:=.tup [.int 0,.int 1,.int 2,.int 7]) hu
      generalize upd H5 u (.tup [.int 0,.int 1,.int 2,.int 7])=H6 at s6 ⊢
      rw [show (if false=true then !inV (.int kd) [.int 0,.int 1,.int 2,.int 7] else inV (.int kd) [.int 0,.int 1,.int 2,.int 7])=decide (kd=0∨kd=1∨kd=2∨kd=7) from kd7 kd]
      refine ite2 (fun e=>?_) (fun e=>iteF (hN _ ⟨s6,fun z=>absurd (decide_eq_true z) e⟩))
      refine ⟨_,rfl,Or.inl ⟨Rc,_,_,.int (b:Int),rfl,rfl,SqL.of (s6 _ _ c5.hR),rfl,rfl,_,rfl,ite2 (fun e2=>iteT (m1 _ s6)) (fun e2=>hN _ ⟨s6,fun _ z=>e2 (decide_eq_true (by rw [z]; rfl))⟩)⟩⟩
   clear k0 k12
   generalize kd=kd0
   rintro σ' H6 ⟨kd,rfl,s6,k0,g1,g2⟩
   have c6:=c5.same s6
   have eS6:=s6 _ _ eS5
   have s56:=s5.trans s6
   clear eS5 c5
   have tL:=c6.tL
   have tR:=c6.tR
   have nLR:Lc≠Rc:=fun z=>by rw [z] at tL; omega
   have nSL:S≠Lc:=fun z=>by rw [z] at tS; omega
   have nSR:S≠Rc:=fun z=>by rw [z] at tS; omega
   have hal:as.length≤38:=by
    have:=c6.hr.toT.len
    have:=len_szL ts
    omega
   have bb:=c6.b12
   have aa:=c6.fo.a8
   refine if_cut (fun H'=>H6=H'∧b < 12∧k < 30) (fun H'=>H6=H') ?_ ?_ (fun N1 N2 m1 m2=>?_)
   rotate_left 2
   · refine ⟨_,rfl,_,_,rfl,rfl,_,rfl,ite2 (fun e1=>?_) (fun _=>iteF (m2 _ rfl))⟩
     refine ⟨_,rfl,Or.inl ⟨Rc,_,_,.int (b:Int),rfl,rfl,SqL.of c6.hR,rfl,_,_,rfl,rfl,_,rfl,ite2 (fun e2=>?_) (fun _=>iteF (m2 _ rfl))⟩⟩
     refine ⟨_,rfl,_,_,rfl,Or.inl ⟨_,SqL.of eS6,rfl⟩,_,_,rfl,rfl,_,rfl,ite2 (fun e3=>m1 _ ⟨rfl,?_,?_⟩) (fun _=>m2 _ rfl)⟩
     · have:=of_decide_eq_true e2
       omega
     · have e3:=of_decide_eq_true e3
       rw [List.length_append,List.length_map,lTs,List.length_singleton] at e3
       omega
   · rintro H' ⟨rfl,hb12,hk30⟩
     refine ⟨_,rfl,Or.inl ⟨rfl,_,SqL.of c6.hL⟩,two_le,fun l hl=>?_⟩
     obtain ⟨H7,qH7,s7,el⟩:=new_at (o:=.lst [.str ("open" : Str),.str ("own" : Str)]) hl
     rw [←qH7]
     obtain ⟨r,hr1,hr2⟩:∃ r:Str,atI [V.str ("open" : Str),V.str ("own" : Str)] (nu / 12 % 2)=some (.str r)∧Rch r:=by
      have y0:=Int.emod_nonneg (nu / 12) (by decide:(2:Int)≠0)
      have y1:=Int.emod_lt_of_pos (nu / 12) (by decide:(0:Int) < 2)
      generalize nu / 12 % 2=z at y0 y1 ⊢
      have:z=0∨z=1:=by omega
      rcases this with rfl | rfl
      · exact ⟨_,rfl,.inl rfl⟩
      · exact ⟨_,rfl,.inr rfl⟩
     have eL7:=s7 _ _ (s56 _ _ eL)
     refine ⟨_,rfl,_,_,rfl,rfl,⟨by decide,by decide⟩,_,_,rfl,rfl,(by show (0:Int) < 2; decide),Or.inl ⟨l,_,_,.str r,rfl,rfl,SqL.of el,hr1,?_⟩⟩
     refine ⟨_,rfl,_,rfl,_,_,rfl,rfl,⟨by decide,by decide⟩,_,rfl,_,_,rfl,Or.inl ⟨_,SqL.of eL7,rfl⟩,_,_,rfl,rfl,(by show (0:Int) < _; rw [List.length_map]; omega),Or.inl ⟨L,_,_,_,rfl,rfl,SqL.of eL7,by rw [List.length_map]; exact pick_at h1 _,?_⟩⟩
     have hn:=hlow _ (pick_mem h1 (nu / 24))
     generalize pick ls (nu / 24)=n at hn ⊢
     refine ⟨by decide,fun N hN=>?_⟩
     obtain ⟨H8,qH8,s8,eN⟩:=new_at (o:=.lst []) hN
     rw [←qH8]
     refine ⟨four_le,fun p hp=>?_⟩
     obtain ⟨H9,qH9,s9,ep⟩:=new_at (o:=.tup [.str ("part" : Str),.str r,.str n,.ref N]) hp
     rw [←qH9]
     have s69:=s7.trans (s8.trans s9)
     have kM:Keeps (fun x=>x=S∨x=Lc∨x=Rc) H6 H9:=Keeps.same (Keeps.refl fun x o m e=>by
      rcases m with rfl | rfl | rfl
      · rw [eS6] at e; exact ⟨_,(Option.some.inj e).symm⟩
      · rw [c6.hL] at e; exact ⟨_,(Option.some.inj e).symm⟩
      · rw [c6.hR] at e; exact ⟨_,(Option.some.inj e).symm⟩) s69
     refine ⟨Lc,_,_,rfl,rfl,s69 _ _ c6.hL,by rw [List.length_map]; exact small1000 (by omega),?_⟩
     have fN:H6 N=none:=s7.free hN
     have nNL:N≠Lc:=fun z=>by rw [z,c6.hL] at fN; cases fN
     have nNR:N≠Rc:=fun z=>by rw [z,c6.hR] at fN; cases fN
     have nNS:N≠S:=fun z=>by rw [z,eS6] at fN; cases fN
     have kA:=kM.set (o:=.lst (as.map V.ref++[.ref p])) (Or.inr (Or.inl rfl))
     have L10:(upd H9 Lc (.lst (as.map V.ref++[.ref p]))) Lc=some (.lst (as.map V.ref++[.ref p])):=upd_same
     have R10:(upd H9 Lc (.lst (as.map V.ref++[.ref p]))) Rc=_:=(upd_ne (Ne.symm nLR)).trans (s69 _ _ c6.hR)
     have S10:(upd H9 Lc (.lst (as.map V.ref++[.ref p]))) S=_:=(upd_ne nSL).trans (s69 _ _ eS6)
     have N10:(upd H9 Lc (.lst (as.map V.ref++[.ref p]))) N=_:=(upd_ne nNL).trans (s9 _ _ eN)
     have p10:(upd H9 Lc (.lst (as.map V.ref++[.ref p]))) p=_:=(upd_ne (fun z=>by rw [z,s69 _ _ c6.hL] at ep; cases ep)).trans ep
     generalize upd H9 Lc (.lst (as.map V.ref++[.ref p]))=HA at kA L10 R10 S10 N10 p10 ⊢
     refine ⟨_,rfl,Or.inl ⟨Rc,_,_,.int (b:Int),rfl,rfl,SqL.of R10,rfl,_,_,rfl,rfl,_,rfl,Rc,_,_,_,rfl,rfl,R10,rfl,?_⟩⟩
     try dsimp only
     refine upd_as (.lst [.int (a:Int),.int ((b + 1:Nat):Int)]) rfl ?_
     have kB:=kA.set (o:=.lst [.int (a:Int),.int ((b + 1:Nat):Int)]) (Or.inr (Or.inr rfl))
     have R11:(upd HA Rc (.lst [.int (a:Int),.int ((b + 1:Nat):Int)])) Rc=some (.lst [.int (a:Int),.int ((b + 1:Nat):Int)]):=upd_same
     have L11:(upd HA Rc (.lst [.int (a:Int),.int ((b + 1:Nat):Int)])) Lc=_:=(upd_ne nLR).trans L10
     have S11:(upd HA Rc (.lst [.int (a:Int),.int ((b + 1:Nat):Int)])) S=_:=(upd_ne nSR).trans S10
     have N11:(upd HA Rc (.lst [.int (a:Int),.int ((b + 1:Nat):Int)])) N=_:=(upd_ne nNR).trans N10
     have p11:(upd HA Rc (.lst [.int (a:Int),.int ((b + 1:Nat):Int)])) p=_:=(upd_ne (fun z=>by rw [z,R10] at p10; cases p10)).trans p10
     generalize upd HA Rc (.lst [.int (a:Int),.int ((b + 1:Nat):Int)])=HB at kB R11 L11 S11 N11 p11 ⊢
     refine ⟨_,rfl,Or.inl ⟨rfl,_,SqL.of S11⟩,_,rfl,_,rfl,Or.inl ⟨Lc,_,_,.ref p,rfl,rfl,SqL.of L11,atI_last _ _,Or.inr (Or.inl ⟨p,_,_,.ref N,rfl,rfl,SqT.of p11,rfl,two_le,fun R' hR'=>?_⟩)⟩⟩
     rw [show (HO.lst [.int 1,.int 0])=.lst [.int ((1:Nat):Int),.int ((0:Nat):Int)] from rfl]
     obtain ⟨HC,qHC,sC,eR'⟩:=new_at (o:=.lst [.int ((1:Nat):Int),.int ((0:Nat):Int)]) hR'
     rw [←qHC]
     refine ⟨two_le,fun T' hT'=>?_⟩
     obtain ⟨HD,qHD,sD,eT'⟩:=new_at (o:=.tup [.ref N,.ref R']) hT'
     rw [←qHD]
     have sBD:=sC.trans sD
     refine ⟨S,_,_,rfl,rfl,sBD _ _ S11,by rw [List.length_append,List.length_map,lTs]; exact small1000 (by show k + 1≤1000; omega),?_⟩
     have kD:=(kB.same sBD).set (o:=.lst ((Ts.map V.ref++[.ref T])++[.ref T'])) (Or.inl rfl)
     have fR':HB R'=none:=hR'
     have nR'S:R'≠S:=fun z=>by rw [z,S11] at fR'; cases fR'
     have fR6 : H6 R' = none := by
      rcases e:H6 R' with _ | o
      · rfl
      · exfalso
        by_cases m:R'=S∨R'=Lc∨R'=Rc
        · rcases m with z | z | z
          · exact nR'S z
          · rw [z,L11] at fR'; cases fR'
          · rw [z,R11] at fR'; cases fR'
        · rw [kB.at_ _ _ e m] at fR'; cases fR'
     have nNR':N≠R':=fun z=>by rw [←z,N11] at fR'; cases fR'
     obtain ⟨τ',c',tS'⟩:=Cur.push (r:=r) (n:=n) (p:=p) (N:=N) (R':=R') (T':=T') kD c6 tS (by rw [eS6]; intro z; cases z) (by rw [upd_ne (Ne.symm nSL),sBD _ _ L11,List.map_append]; rfl) ((upd_ne (Ne.symm nSR)).trans (sBD _ _ R11)) ((upd_ne (fun z=>by rw [z,S11] at p11; cases p11)).trans (sBD _ _ p11)) hr2 hn (by omega) (by omega) ((upd_ne nNS).trans (sBD _ _ N11)) ((upd_ne nR'S).trans (sD _ _ eR')) ((upd_ne (fun z=>by rw [z,sBD _ _ S11] at eT'; cases eT')).trans eT') fN fR6 nNR' (s56.free fN) (s56.free fR6)
     refine ⟨_,_,_,_,_,τ',k + 1,Ts++[T],T',N,R',[],[],1,0,_,rfl,kD.old s56 ?_,by rw [upd_same,List.map_append]; rfl,tS',c',by rw [szL]; omega⟩
     intro x m
     rcases m with rfl | rfl | rfl
     · exact fS
     · exact c6.f1
     · exact c6.f2
   · rintro H' rfl
     refine ⟨_,rfl,Or.inl ⟨rfl,_,SqL.of c6.hL⟩,_,rfl,_,_,rfl,_,rfl,_,_,rfl,rfl,⟨by decide,by decide⟩,_,rfl,_,_,L,ls,rfl,by split <;> omega,s56 _ _ eL,h1,h100,hlow,fun t it H7 s7 ht ok np rc hs ht2=>?_⟩
     have c7:=c6.same s7
     have hs':stpI it=if kd=5∨kd=6 then 1 else 0:=by
      rw [hs]
      repeat' first | omega | split
     have ht':telI it=if kd=0∨kd=1∨kd=2∨kd=7 then 1 else 0:=by
      rw [ht2]
      repeat' first | omega | split
     have s67:=s56.trans s7
     refine ⟨Lc,_,_,rfl,rfl,c7.hL,by rw [List.length_map]; exact small1000 (by omega),?_⟩
     have kM:Keeps (fun x=>x=Lc∨x=Rc) H7 H7:=Keeps.refl fun x o m e=>by
      rcases m with rfl | rfl
      · rw [c7.hL] at e; exact ⟨_,(Option.some.inj e).symm⟩
      · rw [c7.hR] at e; exact ⟨_,(Option.some.inj e).symm⟩
     have kA:=kM.set (o:=.lst (as.map V.ref++[.ref t])) (Or.inl rfl)
     have L8:(upd H7 Lc (.lst (as.map V.ref++[.ref t]))) Lc=some (.lst (as.map V.ref++[.ref t])):=upd_same
     have R8:(upd H7 Lc (.lst (as.map V.ref++[.ref t]))) Rc=_:=(upd_ne (Ne.symm nLR)).trans c7.hR
     have S8:(upd H7 Lc (.lst (as.map V.ref++[.ref t]))) S=_:=(upd_ne nSL).trans (s7 _ _ eS6)
     generalize upd H7 Lc (.lst (as.map V.ref++[.ref t]))=H8 at kA L8 R8 S8 ⊢
     refine ⟨_,rfl,Or.inl ⟨Rc,_,_,.int (a:Int),rfl,rfl,SqL.of R8,rfl,_,rfl,two_le,fun u hu=>⟨u,_,rfl,Or.inr (SqT.of upd_same),rfl,rfl,?_⟩⟩⟩
     have s9:=same_new (o:=.tup [.int 5,.int 6]) hu
     generalize upd H8 u (.tup [.int 5,.int 6])=H9 at s9 ⊢
     rw [show (if false=true then !inV (.int kd) [.int 5,.int 6] else inV (.int kd) [.int 5,.int 6])=decide (kd=5∨kd=6) from kd5 kd]
     refine Or.inr ⟨_,rfl,_,_,rfl,rfl,_,rfl,Rc,_,_,_,rfl,rfl,s9 _ _ R8,rfl,?_⟩
     try dsimp only
     have ea:(a:Int) + (if decide (kd=5∨kd=6)=true then 1 else 0)=((a + stpI it:Nat):Int):=by
      rw [hs',Int.natCast_add]
      by_cases z:kd=5∨kd=6
      · rw [if_pos z,if_pos (decide_eq_true z)]; rfl
      · rw [if_neg z,if_neg (fun y=>z (of_decide_eq_true y))]; rfl
     refine upd_as (.lst [.int ((a + stpI it:Nat):Int),.int (b:Int)]) (by rw [←ea]; rfl) ?_
     have kB:=(kA.same s9).set (o:=.lst [.int ((a + stpI it:Nat):Int),.int (b:Int)]) (Or.inr rfl)
     have RA:(upd H9 Rc (.lst [.int ((a + stpI it:Nat):Int),.int (b:Int)])) Rc=some (.lst [.int ((a + stpI it:Nat):Int),.int (b:Int)]):=upd_same
     have LA:(upd H9 Rc (.lst [.int ((a + stpI it:Nat):Int),.int (b:Int)])) Lc=_:=(upd_ne nLR).trans (s9 _ _ L8)
     have SA:(upd H9 Rc (.lst [.int ((a + stpI it:Nat):Int),.int (b:Int)])) S=_:=(upd_ne nSR).trans (s9 _ _ S8)
     generalize upd H9 Rc (.lst [.int ((a + stpI it:Nat):Int),.int (b:Int)])=HA at kB RA LA SA ⊢
     refine ⟨_,rfl,Or.inl ⟨Rc,_,_,.int (b:Int),rfl,rfl,SqL.of RA,rfl,_,rfl,four_le,fun u2 hu2=>⟨u2,_,rfl,Or.inr (SqT.of upd_same),rfl,rfl,?_⟩⟩⟩
     have sB:=same_new (o:=.tup [.int 0,.int 1,.int 2,.int 7]) hu2
     generalize upd HA u2 (.tup [.int 0,.int 1,.int 2,.int 7])=HB at sB ⊢
     rw [show (if false=true then !inV (.int kd) [.int 0,.int 1,.int 2,.int 7] else inV (.int kd) [.int 0,.int 1,.int 2,.int 7])=decide (kd=0∨kd=1∨kd=2∨kd=7) from kd7 kd]
     refine Or.inr ⟨_,rfl,_,_,rfl,rfl,_,rfl,Rc,_,_,_,rfl,rfl,sB _ _ RA,rfl,?_⟩
     have eb:(b:Int) + (if decide (kd=0∨kd=1∨kd=2∨kd=7)=true then 1 else 0)=((b + telI it:Nat):Int):=by
      rw [ht',Int.natCast_add]
      by_cases z:kd=0∨kd=1∨kd=2∨kd=7
      · rw [if_pos z,if_pos (decide_eq_true z)]; rfl
      · rw [if_neg z,if_neg (fun y=>z (of_decide_eq_true y))]; rfl
     try dsimp only
     rw [show (HO.lst ([V.int ((a + stpI it:Nat):Int),V.int (b:Int)].set (Int.toNat 1) (V.int ((b:Int) + (if decide (kd=0∨kd=1∨kd=2∨kd=7)=true then 1 else 0)))))=.lst [.int ((a + stpI it:Nat):Int),.int ((b + telI it:Nat):Int)] from by rw [←eb]; rfl]
     have kC:=(kB.same sB).set (o:=.lst [.int ((a + stpI it:Nat):Int),.int ((b + telI it:Nat):Int)]) (Or.inr rfl)
     have c8:=Cur.leaf (t:=t) (it:=it) kC c7 (by rw [upd_ne nLR,sB _ _ LA,List.map_append]; rfl) upd_same ht ok rc (by
      rw [hs']
      by_cases z:kd=5∨kd=6
      · have:=g2 z
        rw [if_pos z]; omega
      · rw [if_neg z]; omega) (by
      rw [ht']
      by_cases z:kd=0∨kd=1∨kd=2∨kd=7
      · have:=g1 z
        rw [if_pos z]; omega
      · rw [if_neg z]; omega)
     refine ⟨_,_,_,_,_,τ,k,Ts,T,Lc,Rc,_,_,_,_,sz,rfl,kC.old s67 ?_,(upd_ne nSR).trans (sB _ _ SA),tS,c8,by rw [szL_app,szL,szL,szT]; omega⟩
     intro x m
     rcases m with rfl | rfl
     · exact c6.f1
     · exact c6.f2
variable (P w K mg base) in
abbrev C__law_program:Prop:=Callee P w K mg base "_law_program" 3 ["_law_cells", "_law_names_here"] (sp__law_program K)
theorem call__law_program (B:Blt mg) (ER:Ers K mg) (c__law_item:C__law_item P w K mg base) (F:Fun K "_law_program" "_law_program" s__law_program f fd) (hm:mg "_law_program" = some (.ref f)):C__law_program P w K mg base :=
 ⟨f,fd,ok__law_program B ER c__law_item F,hm,F.kp,F.binds fun _ _ _ _ _ _ us hl=>(by obtain ⟨x0,x1,rfl⟩:=len_2 hl; rfl)⟩
abbrev spA:List Str:=[("(" : Str),(")" : Str),(";" : Str),("of" : Str),("on" : Str),("from" : Str),("open" : Str),("own" : Str),("part" : Str),("let" : Str),("a" : Str),("a.b" : Str),("" : Str),("A" : Str),("a." : Str),(".a" : Str)]
abbrev spB6:List Str:=[("a..b" : Str),("abcdefghi" : Str),("a.a.a.a.a.a.a" : Str),("elder" : Str),("Part" : Str),("ask" : Str)]
abbrev spS:List Str:=[("z" : Str),("-" : Str),("1" : Str),("." : Str),("\n" : Str),("Z" : Str),("\t" : Str),("\"" : Str)]
theorem spA_ok:∀ x∈spA++spB6,WdQ x:=wq_all (by decide +kernel)
theorem spS_ok:∀ x∈spS,WdQ x∧x.length=1:=by
 have h:spS.all (fun x=>wqB x && decide (x.length=1))=true:=by decide +kernel
 intro x hx
 have:=List.all_eq_true.mp h x hx
 rw [Bool.and_eq_true,decide_eq_true_eq] at this
 exact ⟨wqB_ok this.1,this.2⟩
def sp__law_spoiled (K:PySem.W.Frag):Sp:=fun vs H Q _=>∃ (L:Addr) (ws:List Str) (way at_ c:Int),vs=[.ref L,.int way,.int at_,.int c]∧H L=some (.lst (ws.map V.str))∧ws.length≤300∧(∀ x∈ws,WdOk x)∧0≤at_∧at_ < (ws.length:Int)∧∀ D H',Same H H'→WL H' D 905→Q (.ref D) H'
theorem ok__law_spoiled (B:Blt mg) (ER:Ers K mg)  (F:Fun K "_law_spoiled" "_law_spoiled" s__law_spoiled f fd):FnOk P w K mg base CX0 1 f fd ["_law_words_here", "_law_way", "_law_at", "_law_cell"] (sp__law_spoiled K):=by
 refine F.ok sc__law_spoiled (fun vs H Q E h=>?_) (fun cdv A outer s H vs Q E hr h=>?_)
 · obtain ⟨L,ws,way,at_,c,rfl,_⟩:=h
   rfl
 · obtain ⟨L,ws,way,at_,c,rfl,eL,h300,hw,a0,a1,q⟩:=h
   refine ⟨_,(pss_cons (ps_set (i:=4) sc__law_spoiled.nd (pe_lst (pa_cons pe_str (pa_cons pe_str (pa_cons pe_str (pa_cons pe_str (pa_cons pe_str (pa_cons pe_str (pa_cons pe_str (pa_cons pe_str (pa_cons pe_str (pa_cons pe_str (pa_cons pe_str (pa_cons pe_str (pa_cons pe_str (pa_cons pe_str (pa_cons pe_str (pa_cons pe_str pa_nil))))))))))))))))))
    (pss_cons (ps_set (i:=4) sc__law_spoiled.nd (pe_op op_cat (pv 4) (pe_lst (pa_cons pe_str (pa_cons pe_str (pa_cons pe_str (pa_cons pe_str (pa_cons pe_str (pa_cons pe_str pa_nil)))))))))
    (pss_cons (ps_set (i:=5) sc__law_spoiled.nd (pe_ix ix_seq (pv 4) (pe_op op_mod (pv 3) pe_int)))
    (pss_cons (ps_if (pt_cmpR op_eq (pv 1) pe_int (nomark _)) (pss_one (ps_ret (pe_op op_cat (pe_slice sl_list (pv 0) po_none (po_some (pv 2))) (pe_slice sl_list (pv 0) (po_some (pe_op op_add (pv 2) pe_int)) po_none)))) pss_nil)
    (pss_cons (ps_if (pt_cmpR op_eq (pv 1) pe_int (nomark _)) (pss_one (ps_ret (pe_op op_cat (pe_op op_cat (pe_slice sl_list (pv 0) po_none (po_some (pv 2))) (pe_slice sl_list (pv 0) (po_some (pv 2)) (po_some (pe_op op_add (pv 2) pe_int)))) (pe_slice sl_list (pv 0) (po_some (pv 2)) po_none)))) pss_nil)
    (pss_cons (ps_if (pt_cmpR op_eq (pv 1) pe_int (nomark _)) (pss_one (ps_ret (pe_op op_cat (pe_op op_cat (pe_slice sl_list (pv 0) po_none (po_some (pv 2))) (pe_lst (pa_cons (pv 5) pa_nil))) (pe_slice sl_list (pv 0) (po_some (pv 2)) po_none)))) pss_nil)
    (pss_cons (ps_if (pt_cmpR op_eq (pv 1) pe_int (nomark _)) (pss_one (ps_ret (pe_op op_cat (pe_op op_cat (pe_slice sl_list (pv 0) po_none (po_some (pv 2))) (pe_lst (pa_cons (pv 5) pa_nil))) (pe_slice sl_list (pv 0) (po_some (pe_op op_add (pv 2) pe_int)) po_none)))) pss_nil)
    (pss_cons (ps_set (i:=6) sc__law_spoiled.nd (pe_ix ix_seq (pv 0) (pv 2)))
    (pss_cons (ps_set (i:=7) sc__law_spoiled.nd (pe_op op_mod (pe_op op_fdiv (pv 3) pe_int) (pe_op op_add (pe_callB call_len B.b_len (pa_cons (pv 6) pa_nil)) pe_int)))
    (pss_cons (ps_if (pt_cmpR op_eq (pv 1) pe_int (nomark _)) (pss_cons (ps_set (i:=8) sc__law_spoiled.nd (pe_ix ix_seq (pe_lst (pa_cons pe_str (pa_cons pe_str (pa_cons pe_str (pa_cons pe_str (pa_cons pe_str (pa_cons pe_str (pa_cons pe_str (pa_cons pe_str pa_nil))))))))) (pe_op op_mod (pv 3) pe_int)))
     (pss_cons (ps_set (i:=6) sc__law_spoiled.nd (pe_op op_add_str (pe_op op_add_str (pe_slice sl_str (pv 6) po_none (po_some (pv 7))) (pv 8)) (pe_slice sl_str (pv 6) (po_some (pv 7)) po_none)))
     (pss_one (ps_ret (pe_op op_cat (pe_op op_cat (pe_slice sl_list (pv 0) po_none (po_some (pv 2))) (pe_lst (pa_cons (pv 6) pa_nil))) (pe_slice sl_list (pv 0) (po_some (pe_op op_add (pv 2) pe_int)) po_none)))))) pss_nil)
    (pss_cons (ps_if (pt_cmpR op_eq (pv 1) pe_int (nomark _)) (pss_cons (ps_set (i:=6) sc__law_spoiled.nd (pe_op op_add_str (pe_slice sl_str (pv 6) po_none (po_some (pv 7))) (pe_slice sl_str (pv 6) (po_some (pe_op op_add (pv 7) pe_int)) po_none)))
     (pss_one (ps_ret (pe_op op_cat (pe_op op_cat (pe_slice sl_list (pv 0) po_none (po_some (pv 2))) (pe_lst (pa_cons (pv 6) pa_nil))) (pe_slice sl_list (pv 0) (po_some (pe_op op_add (pv 2) pe_int)) po_none))))) pss_nil)
    (pss_one (ps_ret (pe_op op_cat (pe_op op_cat (pe_lst (pa_cons pe_str (pa_cons pe_str (pa_cons pe_str (pa_cons pe_str pa_nil))))) (pv 0)) (pe_lst (pa_cons pe_str pa_nil)))))))))))))))),?_⟩
   have wL:WL H L ws.length:=⟨ws,eL,Nat.le_refl _,fun x hx=>(hw x hx).q⟩
   refine ⟨by decide,fun l1 h1=>?_⟩
   have s1:=same_new (o:=.lst (spA.map V.str)) h1
   have e1:(upd H l1 (.lst (spA.map V.str))) l1=some (.lst (spA.map V.str)):=upd_same
   rw [show (HO.lst [.str ("(" : Str),.str (")" : Str),.str (";" : Str),.str ("of" : Str),.str ("on" : Str),.str ("from" : Str),.str ("open" : Str),.str ("own" : Str),.str ("part" : Str),.str ("let" : Str),.str ("a" : Str),.str ("a.b" : Str),.str ("" : Str),.str ("A" : Str),.str ("a." : Str),.str (".a" : Str)])=.lst (spA.map V.str) from rfl]
   generalize upd H l1 (.lst (spA.map V.str))=H1 at s1 e1 ⊢
   refine g_in ?_
   try dsimp only
   refine ⟨_,rfl,by decide,fun l2 h2=>?_⟩
   have s2:=same_new (o:=.lst (spB6.map V.str)) h2
   have e2:(upd H1 l2 (.lst (spB6.map V.str))) l2=some (.lst (spB6.map V.str)):=upd_same
   rw [show (HO.lst [.str ("a..b" : Str),.str ("abcdefghi" : Str),.str ("a.a.a.a.a.a.a" : Str),.str ("elder" : Str),.str ("Part" : Str),.str ("ask" : Str)])=.lst (spB6.map V.str) from rfl]
   generalize upd H1 l2 (.lst (spB6.map V.str))=H2 at s2 e2 ⊢
   refine ⟨l1,l2,_,_,rfl,rfl,s2 _ _ e1,e2,by decide,fun l3 h3=>?_⟩
   have s3:=same_new (o:=.lst ((spA++spB6).map V.str)) h3
   have e3:(upd H2 l3 (.lst ((spA++spB6).map V.str))) l3=some (.lst ((spA++spB6).map V.str)):=upd_same
   rw [←List.map_append]
   generalize upd H2 l3 (.lst ((spA++spB6).map V.str))=H3 at s3 e3 ⊢
   refine g_in ?_
   try dsimp only
   have y0:=Int.emod_nonneg c (by decide:(22:Int)≠0)
   have y1:=Int.emod_lt_of_pos c (by decide:(0:Int) < 22)
   obtain ⟨wd,hwd,ewd⟩:=at_pick (ws:=spA++spB6) (z:=c % 22) y0 y1
   have qwd:=spA_ok wd hwd
   refine ⟨_,rfl,_,rfl,_,_,rfl,rfl,(by show (0:Int) < 22; decide),Or.inl ⟨l3,_,_,_,rfl,rfl,SqL.of e3,ewd,?_⟩⟩
   refine g_in ?_
   try dsimp only
   have sH:=(s1.trans s2).trans s3
   have wL:=wL.same sH
   clear hwd ewd s1 s2 s3 e1 e2 e3 h1 h2 h3 y0 y1
   refine ⟨_,rfl,rfl,_,rfl,ite2 (fun _=>?_) (fun _=>?_)⟩
   · refine ⟨_,rfl,_,rfl,_,rfl,sl_W wL fun p1 H4 s4 w4=>?_⟩
     refine ⟨_,rfl,_,rfl,_,_,rfl,rfl,_,rfl,sl_WN (wL.same s4) fun p2 H5 s5 w5=>?_⟩
     exact cat_W (w4.same s5) w5 (by omega) fun p3 H6 s6 w6=>q p3 H6 (((sH.trans s4).trans s5).trans s6) (w6.mono (by omega))
   refine ⟨_,rfl,rfl,_,rfl,ite2 (fun _=>?_) (fun _=>?_)⟩
   · refine ⟨_,rfl,_,rfl,_,rfl,sl_W wL fun p1 H4 s4 w4=>?_⟩
     refine ⟨_,rfl,_,rfl,_,rfl,_,rfl,_,_,rfl,rfl,_,rfl,sl_W (wL.same s4) fun p2 H5 s5 w5=>?_⟩
     refine cat_W (w4.same s5) w5 (by omega) fun p3 H6 s6 w6=>?_
     have wL6:=((wL.same s4).same s5).same s6
     refine ⟨_,rfl,_,rfl,_,rfl,sl_WN wL6 fun p4 H7 s7 w7=>?_⟩
     exact cat_W (w6.same s7) w7 (by omega) fun p5 H8 s8 w8=>q p5 H8 (((((sH.trans s4).trans s5).trans s6).trans s7).trans s8) (w8.mono (by omega))
   refine ⟨_,rfl,rfl,_,rfl,ite2 (fun _=>?_) (fun _=>?_)⟩
   · refine ⟨_,rfl,_,rfl,_,rfl,sl_W wL fun p1 H4 s4 w4=>?_⟩
     refine ⟨_,rfl,one_le,fun p2 hp2=>?_⟩
     have s5:=same_new (o:=.lst [.str wd]) hp2
     have w5:WL (upd H4 p2 (.lst [.str wd])) p2 1:=WL.new (vs:=[wd]) rfl (fun x hx=>by rw [List.mem_singleton.mp hx]; exact qwd)
     generalize upd H4 p2 (.lst [.str wd])=H5 at s5 w5 ⊢
     refine cat_W (w4.same s5) w5 (by omega) fun p3 H6 s6 w6=>?_
     have wL6:=((wL.same s4).same s5).same s6
     refine ⟨_,rfl,_,rfl,_,rfl,sl_WN wL6 fun p4 H7 s7 w7=>?_⟩
     exact cat_W (w6.same s7) w7 (by omega) fun p5 H8 s8 w8=>q p5 H8 (((((sH.trans s4).trans s5).trans s6).trans s7).trans s8) (w8.mono (by omega))
   refine ⟨_,rfl,rfl,_,rfl,ite2 (fun _=>?_) (fun _=>?_)⟩
   · refine ⟨_,rfl,_,rfl,_,rfl,sl_W wL fun p1 H4 s4 w4=>?_⟩
     refine ⟨_,rfl,one_le,fun p2 hp2=>?_⟩
     have s5:=same_new (o:=.lst [.str wd]) hp2
     have w5:WL (upd H4 p2 (.lst [.str wd])) p2 1:=WL.new (vs:=[wd]) rfl (fun x hx=>by rw [List.mem_singleton.mp hx]; exact qwd)
     generalize upd H4 p2 (.lst [.str wd])=H5 at s5 w5 ⊢
     refine cat_W (w4.same s5) w5 (by omega) fun p3 H6 s6 w6=>?_
     have wL6:=((wL.same s4).same s5).same s6
     refine ⟨_,rfl,_,rfl,_,_,rfl,rfl,_,rfl,sl_WN wL6 fun p4 H7 s7 w7=>?_⟩
     exact cat_W (w6.same s7) w7 (by omega) fun p5 H8 s8 w8=>q p5 H8 (((((sH.trans s4).trans s5).trans s6).trans s7).trans s8) (w8.mono (by omega))
   obtain ⟨n,rfl⟩:=Int.eq_ofNat_of_zero_le a0
   have hn:n < ws.length:=by omega
   have okh:=hw _ (gW_mem hn)
   refine ⟨_,rfl,_,rfl,Or.inl ⟨L,_,_,_,rfl,rfl,SqL.of (sH _ _ eL),at_W hn,?_⟩⟩
   generalize gW ws n=hh at okh ⊢
   refine g_in ?_
   try dsimp only
   refine ⟨_,rfl,_,_,rfl,rfl,⟨by decide,by decide⟩,_,rfl,_,_,rfl,⟨Nat.le_trans okh.1 (by decide),rfl⟩,_,_,rfl,rfl,_,_,rfl,rfl,(by show (0:Int) < (hh.length:Int) + 1; omega),?_⟩
   have z0:=Int.emod_nonneg (c / 8) (show (hh.length:Int) + 1≠0 by omega)
   have z1:=Int.emod_lt_of_pos (c / 8) (show (0:Int) < (hh.length:Int) + 1 by omega)
   refine g_in ?_
   try dsimp only
   generalize c / 8 % ((hh.length:Int) + 1)=pt at z0 z1 ⊢
   have hz:hh.length≤sizeLine:=Nat.le_trans okh.1 (by decide)
   refine ⟨_,rfl,rfl,_,rfl,ite2 (fun _=>?_) (fun _=>?_)⟩
   · refine ⟨by decide,fun l4 h4=>?_⟩
     have s4:=same_new (o:=.lst (spS.map V.str)) h4
     have e4:(upd H3 l4 (.lst (spS.map V.str))) l4=some (.lst (spS.map V.str)):=upd_same
     rw [show (HO.lst [.str ("z" : Str),.str ("-" : Str),.str ("1" : Str),.str ("." : Str),.str ("\n" : Str),.str ("Z" : Str),.str ("\t" : Str),.str ("\"" : Str)])=.lst (spS.map V.str) from rfl]
     generalize upd H3 l4 (.lst (spS.map V.str))=H9 at s4 e4 ⊢
     have y0:=Int.emod_nonneg c (by decide:(8:Int)≠0)
     have y1:=Int.emod_lt_of_pos c (by decide:(0:Int) < 8)
     obtain ⟨sg,hsg,esg⟩:=at_pick (ws:=spS) (z:=c % 8) y0 y1
     obtain ⟨qsg,lsg⟩:=spS_ok sg hsg
     refine ⟨_,rfl,_,_,rfl,rfl,(by show (0:Int) < 8; decide),Or.inl ⟨l4,_,_,_,rfl,rfl,SqL.of e4,esg,?_⟩⟩
     refine g_in ?_
     try dsimp only
     refine ⟨_,rfl,_,rfl,_,rfl,hh,rfl,hz,(fun i e=>by cases e),(fun i e=>by cases e; exact z0),fun u1 eu1=>?_⟩
     have lu1:=cut_lo eu1
     refine ⟨_,rfl,_,_,rfl,rfl,Nat.le_trans (show u1.length + sg.length≤100 by have:=okh.1; omega) (by decide),?_⟩
     refine ⟨_,rfl,_,rfl,_,rfl,hh,rfl,hz,(fun i e=>by cases e; exact z0),(fun i e=>by cases e),fun u2 eu2=>?_⟩
     have lu2:=cut_hi eu2
     have l12:(u1++sg).length≤100:=by rw [catL]; have:=okh.1; omega
     refine ⟨_,_,rfl,rfl,Nat.le_trans (show (u1++sg).length + u2.length≤200 by have:=okh.1; omega) (by decide),?_⟩
     have qn:WdQ (u1++sg++u2):=by
      refine ⟨by rw [catL,catL]; have:=okh.1; omega,fun m=>?_⟩
      rcases catM m with m | m
      · rcases catM m with m | m
        · rw [eu1] at m; exact okh.2 (cutM m)
        · exact qsg.2 m
      · rw [eu2] at m; exact okh.2 (cutM m)
     generalize u1++sg++u2=nw at qn ⊢
     refine g_in ?_
     try dsimp only
     have wL9:=wL.same s4
     have sH9:=sH.trans s4
     clear s4
     refine ⟨_,rfl,_,rfl,_,rfl,sl_W wL9 fun p1 H4 s4 w4=>?_⟩
     refine ⟨_,rfl,one_le,fun p2 hp2=>?_⟩
     have s5:=same_new (o:=.lst [.str nw]) hp2
     have w5:WL (upd H4 p2 (.lst [.str nw])) p2 1:=WL.new (vs:=[nw]) rfl (fun x hx=>by rw [List.mem_singleton.mp hx]; exact qn)
     generalize upd H4 p2 (.lst [.str nw])=H5 at s5 w5 ⊢
     refine cat_W (w4.same s5) w5 (by omega) fun p3 H6 s6 w6=>?_
     have wL6:=((wL9.same s4).same s5).same s6
     refine ⟨_,rfl,_,rfl,_,_,rfl,rfl,_,rfl,sl_WN wL6 fun p4 H7 s7 w7=>?_⟩
     exact cat_W (w6.same s7) w7 (by omega) fun p5 H8 s8 w8=>q p5 H8 (((((sH9.trans s4).trans s5).trans s6).trans s7).trans s8) (w8.mono (by omega))
   refine ⟨_,rfl,rfl,_,rfl,ite2 (fun _=>?_) (fun _=>?_)⟩
   · refine ⟨_,rfl,_,rfl,_,rfl,hh,rfl,hz,(fun i e=>by cases e),(fun i e=>by cases e; exact z0),fun u1 eu1=>?_⟩
     have lu1:=cut_lo eu1
     refine ⟨_,rfl,_,rfl,_,_,rfl,rfl,_,rfl,hh,rfl,hz,(fun i e=>by cases e; show (0:Int)≤pt + 1; omega),(fun i e=>by cases e),fun u2 eu2=>?_⟩
     have lu2:=cut_hi eu2
     refine ⟨_,_,rfl,rfl,Nat.le_trans (show u1.length + u2.length≤200 by have:=okh.1; omega) (by decide),?_⟩
     have qn:WdQ (u1++u2):=by
      refine ⟨by rw [catL]; have:=okh.1; omega,fun m=>?_⟩
      rcases catM m with m | m
      · rw [eu1] at m; exact okh.2 (cutM m)
      · rw [eu2] at m; exact okh.2 (cutM m)
     generalize u1++u2=nw at qn ⊢
     refine g_in ?_
     try dsimp only
     refine ⟨_,rfl,_,rfl,_,rfl,sl_W wL fun p1 H4 s4 w4=>?_⟩
     refine ⟨_,rfl,one_le,fun p2 hp2=>?_⟩
     have s5:=same_new (o:=.lst [.str nw]) hp2
     have w5:WL (upd H4 p2 (.lst [.str nw])) p2 1:=WL.new (vs:=[nw]) rfl (fun x hx=>by rw [List.mem_singleton.mp hx]; exact qn)
     generalize upd H4 p2 (.lst [.str nw])=H5 at s5 w5 ⊢
     refine cat_W (w4.same s5) w5 (by omega) fun p3 H6 s6 w6=>?_
     have wL6:=((wL.same s4).same s5).same s6
     refine ⟨_,rfl,_,rfl,_,_,rfl,rfl,_,rfl,sl_WN wL6 fun p4 H7 s7 w7=>?_⟩
     exact cat_W (w6.same s7) w7 (by omega) fun p5 H8 s8 w8=>q p5 H8 (((((sH.trans s4).trans s5).trans s6).trans s7).trans s8) (w8.mono (by omega))
   refine ⟨four_le,fun p1 hp1=>?_⟩
   have s4:=same_new (o:=.lst [.str ("part" : Str),.str ("open" : Str),.str ("a" : Str),.str ("(" : Str)]) hp1
   have w4:WL (upd H3 p1 (.lst [.str ("part" : Str),.str ("open" : Str),.str ("a" : Str),.str ("(" : Str)])) p1 4:=WL.new (vs:=[("part" : Str),("open" : Str),("a" : Str),("(" : Str)]) rfl (wq_all (by decide +kernel))
   generalize upd H3 p1 (.lst [.str ("part" : Str),.str ("open" : Str),.str ("a" : Str),.str ("(" : Str)])=H4 at s4 w4 ⊢
   refine ⟨_,rfl,cat_W w4 (wL.same s4) (by omega) fun p2 H5 s5 w5=>?_⟩
   refine ⟨one_le,fun p3 hp3=>?_⟩
   have s6:=same_new (o:=.lst [.str (")" : Str)]) hp3
   have w6:WL (upd H5 p3 (.lst [.str (")" : Str)])) p3 1:=WL.new (vs:=[(")" : Str)]) rfl (wq_all (by decide +kernel))
   generalize upd H5 p3 (.lst [.str (")" : Str)])=H6 at s6 w6 ⊢
   exact cat_W (w5.same s6) w6 (by omega) fun p4 H7 s7 w7=>q p4 H7 ((((sH.trans s4).trans s5).trans s6).trans s7) (w7.mono (by omega))
variable (P w K mg base) in
abbrev C__law_spoiled:Prop:=Callee P w K mg base "_law_spoiled" 1 ["_law_words_here", "_law_way", "_law_at", "_law_cell"] (sp__law_spoiled K)
theorem call__law_spoiled (B:Blt mg) (ER:Ers K mg)  (F:Fun K "_law_spoiled" "_law_spoiled" s__law_spoiled f fd) (hm:mg "_law_spoiled" = some (.ref f)):C__law_spoiled P w K mg base :=
 ⟨f,fd,ok__law_spoiled B ER  F,hm,F.kp,F.binds fun _ _ _ _ _ _ us hl=>(by obtain ⟨x0,x1,x2,x3,rfl⟩:=len_4 hl; rfl)⟩
def sp_Words__init__ (K:PySem.W.Frag):Sp:=fun vs H Q _=>∃ (x dx:Addr) (v0:V),vs=[.ref x,v0]∧H x=some (.ins (clsA K "Words") dx [])∧Q .non (upd H x (.ins (clsA K "Words") dx [(("words" : Str),v0),(("place" : Str),V.int 0)]))
theorem ok_Words__init__ (B:Blt mg) (ER:Ers K mg)  (F:Fun K "__init__" "Words.__init__" s_Words__init__ f fd):FnOk P w K mg base CX0 1 f fd ["self", "words"] (sp_Words__init__ K):=by
 refine F.ok sc_Words__init__ (fun vs H Q E h=>?_) (fun cdv A outer s H vs Q E hr h=>?_)
 · obtain ⟨x,dx,v0,rfl,_⟩:=h
   rfl
 · obtain ⟨x,dx,v0,rfl,hx,q⟩:=h
   refine ⟨_,(pss_cons (ps_fld (pv 0) (pv 1) rfl)
    (pss_one (ps_fld (pv 0) pe_int rfl))),?_⟩
   refine ⟨_,rfl,_,rfl,x,_,dx,[],rfl,hx,ER.cl_Words,ER.na_Words_words,by show _ < 1000; simp,?_⟩
   rw [show putF "words" v0 []=[(("words" : Str),v0)] from rfl]
   refine ⟨_,rfl,x,_,dx,[(("words" : Str),v0)],rfl,upd_same,ER.cl_Words,ER.na_Words_place,by show _ < 1000; simp,?_⟩
   rw [show putF "place" (V.int 0) [(("words" : Str),v0)]=[(("words" : Str),v0),(("place" : Str),V.int 0)] from rfl]
   rw [upd_upd]
   exact q
theorem call_Words__init__ (B:Blt mg) (ER:Ers K mg)  (F:Fun K "__init__" "Words.__init__" s_Words__init__ f fd) (M:Mk K (clsA K "Words") f):CalleeN P w K mg base (clsA K "Words") 1 ["self", "words"] [] (sp_Words__init__ K) :=
 ⟨f,fd,ok_Words__init__ B ER  F,M,F.binds fun _ _ _ _ _ _ us hl=>(by obtain ⟨x0,x1,rfl⟩:=len_2 hl; rfl)⟩
def sp_Words_ahead (K:PySem.W.Frag):Sp:=fun vs H Q _=>∃ (w:Addr) (rem:List Str),vs=[.ref w]∧WdR K H w rem∧Q (headV rem) H
theorem ok_Words_ahead (B:Blt mg) (ER:Ers K mg)  (F:Fun K "ahead" "Words.ahead" s_Words_ahead f fd):FnOk P w K mg base CX0 1 f fd ["self"] (sp_Words_ahead K):=by
 refine F.ok sc_Words_ahead (fun vs H Q E h=>?_) (fun cdv A outer s H vs Q E hr h=>?_)
 · obtain ⟨w,rem,rfl,_⟩:=h
   rfl
 · obtain ⟨w,rem,rfl,hw,q⟩:=h
   obtain ⟨dx,L,ws,i,e1,e2,rfl,hi,hn,hx⟩:=hw.ex
   refine ⟨_,(pss_cons (ps_if (pt_cmpR op_eq (pe_fld (pv 0) rfl) (pe_callB call_len B.b_len (pa_cons (pe_fld (pv 0) rfl) pa_nil)) (nomark _)) (pss_one (ps_ret pe_non)) pss_nil)
    (pss_one (ps_ret (pe_ix ix_seq (pe_fld (pv 0) rfl) (pe_fld (pv 0) rfl))))),?_⟩
   refine ⟨_,rfl,w,_,dx,_,.int (i:Int),rfl,e1,ER.cl_Words,ER.na_Words_place,rfl,_,rfl,w,_,dx,_,.ref L,rfl,e1,ER.cl_Words,ER.na_Words_words,rfl,_,_,rfl,Or.inl ⟨_,SqL.of e2,rfl⟩,rfl,_,rfl,ite2 (fun e=>?_) (fun e=>?_)⟩
   · have e:=V.int.inj (of_decide_eq_true e)
     rw [List.length_map] at e
     rw [List.drop_eq_nil_of_le (by omega)] at q
     exact q
   have e:i≠ws.length:=fun z=>e (decide_eq_true (by rw [List.length_map,z]))
   have hl:i < ws.length:=by omega
   refine ⟨_,rfl,w,_,dx,_,.ref L,rfl,e1,ER.cl_Words,ER.na_Words_words,rfl,_,rfl,w,_,dx,_,.int (i:Int),rfl,e1,ER.cl_Words,ER.na_Words_place,rfl,Or.inl ⟨L,_,_,.str ws[i],rfl,rfl,SqL.of e2,atI_nat (by rw [List.getElem?_map,List.getElem?_eq_getElem hl]; rfl),?_⟩⟩
   rw [List.drop_eq_getElem_cons hl] at q
   exact q
theorem call_Words_ahead (B:Blt mg) (ER:Ers K mg)  (F:Fun K "ahead" "Words.ahead" s_Words_ahead f fd) (M:Meth K (clsA K "Words") "ahead" f):CalleeM P w K mg base (clsA K "Words") "ahead" 1 ["self"] (sp_Words_ahead K) :=
 ⟨f,fd,ok_Words_ahead B ER  F,M,F.binds fun _ _ _ _ _ _ us hl=>(by obtain ⟨x0,rfl⟩:=len_1 hl; rfl)⟩
def sp_Words_taken (K:PySem.W.Frag):Sp:=fun vs H Q E=>∃ (w:Addr) (rem:List Str),vs=[.ref w]∧WdR K H w rem∧(∀ x rs,rem=x :: rs→∀ H',Bt w H H'→WdR K H' w rs→Q (.str x) H')∧(rem=[]→∀ H',Bt w H H'→E (.ref (clsA K "NoText")) none H')
theorem ok_Words_taken (B:Blt mg) (ER:Ers K mg) (c_Words_ahead:CalleeM P w K mg base (clsA K "Words") "ahead" 1 ["self"] (sp_Words_ahead K)) (F:Fun K "taken" "Words.taken" s_Words_taken f fd):FnOk P w K mg base (CXE P w) 2 f fd ["self"] (sp_Words_taken K):=by
 refine F.okE sc_Words_taken (fun vs H Q E h=>?_) (fun cdv A outer s H vs Q E hr h=>?_)
 · obtain ⟨w,rem,rfl,_⟩:=h
   rfl
 · obtain ⟨w,rem,rfl,hw,q,qe⟩:=h
   obtain ⟨dx,L,ws,i,e1,e2,e3,hi,hn,hx⟩:=hw.ex
   refine ⟨_,(pss_cons (ps_set (i:=1) sc_Words_taken.nd (pe_mth0 c_Words_ahead ER.cl_Words (hr.mono (by decide)) (pv 0)))
    (pss_cons (ps_if (pt_cmp (pc_isN (pv 1))) (pss_one (ps_raise throws_cx rfl ER.k_NoText rfl (pa_cons pe_str pa_nil))) pss_nil)
    (pss_cons (ps_fldaug (pv 0) pe_int in_add)
    (pss_one (ps_ret (pv 1)))))),?_⟩
   refine ⟨_,rfl,w,dx,_,rfl,e1,rfl,w,_,rfl,hw,?_⟩
   refine g_in ?_
   try dsimp only
   refine ⟨_,rfl,_,rfl,?_⟩
   cases rem with
   | nil =>
     rw [decide_eq_true (show headV []=V.non from rfl)]
     refine iteT ?_
     exact ⟨one_le,qe rfl H (Bt.same hw.live (Same.refl _))⟩
   | cons x rem =>
     rw [decide_eq_false (show ¬ headV (x :: rem)=V.non from fun z=>by cases z)]
     refine iteF ?_
     refine nx_of ?_
     try dsimp only
     have hl:i < ws.length:=by
      refine Nat.lt_of_not_le fun z=>?_
      rw [List.drop_eq_nil_of_le z] at e3; cases e3
     refine ⟨_,rfl,w,_,dx,_,.int (i:Int),rfl,e1,ER.cl_Words,ER.na_Words_place,rfl,_,_,rfl,rfl,dx,_,e1,by show 2 < 1000; decide,?_⟩
     rw [show putF "place" (V.int ((i:Int) + 1)) [(("words" : Str),V.ref L),(("place" : Str),V.int (i:Int))]=[(("words" : Str),V.ref L),(("place" : Str),V.int ((i + 1:Nat):Int))] from rfl]
     have hne:L≠w:=fun z=>by rw [z,e1] at e2; cases e2
     rw [List.drop_eq_getElem_cons hl] at e3
     exact ⟨_,rfl,q x rem rfl _ (Bt.upd (by unfold wlOf; rw [upd_same,e1])) ⟨dx,L,ws,i + 1,upd_same,(upd_ne hne).trans e2,(List.cons.inj e3).2,hl,hn,hx⟩⟩
theorem call_Words_taken (B:Blt mg) (ER:Ers K mg) (c_Words_ahead:CalleeM P w K mg base (clsA K "Words") "ahead" 1 ["self"] (sp_Words_ahead K)) (F:Fun K "taken" "Words.taken" s_Words_taken f fd) (M:Meth K (clsA K "Words") "taken" f):CalleeME P w K mg base (clsA K "Words") "taken" 2 ["self"] (sp_Words_taken K) :=
 ⟨f,fd,ok_Words_taken B ER c_Words_ahead F,M,F.binds fun _ _ _ _ _ _ us hl=>(by obtain ⟨x0,rfl⟩:=len_1 hl; rfl)⟩
def sp_taken_reach (K:PySem.W.Frag):Sp:=fun vs H Q E=>∃ (w:Addr) (rem:List Str),vs=[.ref w]∧WdR K H w rem∧(∀ x rem',reachP rem=some (x,rem')→∀ H',Bt w H H'→WdR K H' w rem'→Q (.str x) H')∧(reachP rem=none→∀ H',Bt w H H'→E (.ref (clsA K "NoText")) none H')
theorem ok_taken_reach (B:Blt mg) (ER:Ers K mg) (c_Words_taken:CalleeME P w K mg base (clsA K "Words") "taken" 2 ["self"] (sp_Words_taken K)) (F:Fun K "taken_reach" "taken_reach" s_taken_reach f fd):FnOk P w K mg base (CXE P w) 3 f fd ["words"] (sp_taken_reach K):=by
 refine F.okE sc_taken_reach (fun vs H Q E h=>?_) (fun cdv A outer s H vs Q E hr h=>?_)
 · obtain ⟨w,rem,rfl,_⟩:=h
   rfl
 · obtain ⟨w,rem,rfl,hw,q,qe⟩:=h
   obtain ⟨dx,L,ws,i,e1,e2,e3,hi,hn,hx⟩:=hw.ex
   refine ⟨_,(pss_cons (ps_set (i:=1) sc_taken_reach.nd (pe_mth0E c_Words_taken throws_cx ER.cl_Words (hr.mono (by decide)) (pv 0)))
    (pss_cons (ps_if (pt_cmpR op_notIn_seq (pv 1) (pe_tup (pa_cons pe_str (pa_cons pe_str pa_nil))) (by with_unfolding_all rfl)) (pss_one (ps_raise throws_cx rfl ER.k_NoText rfl (pa_cons pe_str pa_nil))) pss_nil)
    (pss_one (ps_ret (pv 1))))),?_⟩
   refine ⟨_,rfl,w,dx,_,rfl,e1,rfl,w,rem,rfl,hw,fun y rs er H' b w'=>?_,fun er H' b=>qe (by rw [er]; rfl) H' b⟩
   subst er
   refine g_in ?_
   try dsimp only
   refine ⟨_,rfl,two_le,fun u hu=>⟨u,_,rfl,Or.inr (SqT.of upd_same),rfl,rfl,_,rfl,?_⟩⟩
   have s1:=same_new (o:=.tup [.str ("open" : Str),.str ("own" : Str)]) hu
   have b1:=b.trans (Bt.same w'.live s1)
   by_cases hy:y=("open" : Str)∨y=("own" : Str)
   · have e:(if true=true then !inV (.str y) [.str ("open" : Str),.str ("own" : Str)] else inV (.str y) [.str ("open" : Str),.str ("own" : Str)])=false:=by
      rcases hy with rfl | rfl <;> decide +kernel
     rw [e]
     refine iteF ?_
     exact ⟨_,rfl,q y rs (if_pos hy) _ b1 (w'.same s1)⟩
   · have e:(if true=true then !inV (.str y) [.str ("open" : Str),.str ("own" : Str)] else inV (.str y) [.str ("open" : Str),.str ("own" : Str)])=true:=by
      rw [if_pos rfl]
      have h1:eqV (.str ("open" : Str)) (.str y)=false:=Bool.eq_false_iff.mpr fun z=>hy (.inl (eq_of_beq z).symm)
      have h2:eqV (.str ("own" : Str)) (.str y)=false:=Bool.eq_false_iff.mpr fun z=>hy (.inr (eq_of_beq z).symm)
      unfold inV
      rw [List.any_cons,List.any_cons,h1,h2]; rfl
     rw [e]
     exact iteT ⟨one_le,qe (if_neg hy) _ b1⟩
theorem call_taken_reach (B:Blt mg) (ER:Ers K mg) (c_Words_taken:CalleeME P w K mg base (clsA K "Words") "taken" 2 ["self"] (sp_Words_taken K)) (F:Fun K "taken_reach" "taken_reach" s_taken_reach f fd) (hm:mg "taken_reach" = some (.ref f)):CalleeE P w K mg base "taken_reach" 3 ["words"] (sp_taken_reach K) :=
 ⟨f,fd,ok_taken_reach B ER c_Words_taken F,hm,F.kp,F.binds fun _ _ _ _ _ _ us hl=>(by obtain ⟨x0,rfl⟩:=len_1 hl; rfl)⟩
theorem sign_a (c:Nat):(!decide ((⟨#[c]⟩:Str).cps.toList < ("a" : Str).cps.toList))=decide (97≤c):=by
 show (!decide (([c]:List Nat) < ("a" : Str).cps.toList))=_
 have e:("a" : Str).cps.toList=[97]:=by decide +kernel
 rw [e,lt_sing]
 by_cases h:c < 97
 · rw [decide_eq_true h,decide_eq_false (by omega)]; rfl
 · rw [decide_eq_false h,decide_eq_true (by omega)]; rfl
theorem sign_z (c:Nat):(!decide (("z" : Str).cps.toList < (⟨#[c]⟩:Str).cps.toList))=decide (c≤122):=by
 show (!decide (("z" : Str).cps.toList < ([c]:List Nat)))=_
 have e:("z" : Str).cps.toList=[122]:=by decide +kernel
 rw [e,lt_sing]
 by_cases h:122 < c
 · rw [decide_eq_true h,decide_eq_false (by omega)]; rfl
 · rw [decide_eq_false h,decide_eq_true (by omega)]; rfl
def sp_is_name (K:PySem.W.Frag):Sp:=fun vs H Q _=>∃ v,vs=[v] ∧
 ((∃ x,v=.str x∧x.length≤1000∧∀ H',Same H H'→Q (.bl (nameB x)) H')∨∃ T,TyN K H v T∧T≠.str∧Q (.bl false) H)
theorem ok_is_name (B:Blt mg) (ER:Ers K mg)  (F:Fun K "is_name" "is_name" s_is_name f fd):FnOk P w K mg base CX0 1 f fd ["thing"] (sp_is_name K):=by
 refine F.ok sc_is_name (fun vs H Q E h=>?_) (fun cdv A outer s H vs Q E hr h=>?_)
 · obtain ⟨v,rfl,_⟩:=h
   rfl
 · obtain ⟨v, rfl, h⟩ := h
   refine ⟨_,(pss_cons (ps_if (PW.pt (pw_or (pt_not (pt_val (pe_callB call_isi B.b_isinstance (pa_cons (pv 0) (pa_cons (pe_ty "str" rfl B.b_str (by decide +kernel)) pa_nil))))) (pw_or1 (pt_not (pt_chain op_le op_le pe_int (pe_callB call_len B.b_len (pa_cons (pv 0) pa_nil)) (pe_glob (v:=.int 8) rfl (Classical.choose_spec B.c_LONGEST_NAME) ⟨_,rfl⟩)))))) (pss_one (ps_ret pe_bl)) pss_nil)
    (pss_one (ps_ret (pe_callB (call_allL rfl) B.b_all (pa_cons (pe_comp rfl is_name_cs1 (pi_str (pv 0)) (fun _ _ _ _ _=>(pg_name (i:=0) is_name_cs1.nd)) (fun _ _ _ _ _=>pf_nil) (fun _ _ _ _ _=>(pe_chain op_leS op_leS pe_str (pv 0) pe_str))) pa_nil))))),?_⟩
   rcases h with ⟨x,rfl,hx,q⟩ | ⟨T,ty,hT,q⟩
   · have hz : x.length ≤ sizeLine := Nat.le_of_lt (small1000 hx)
     refine ⟨_,rfl,_,.str,.str,rfl,.str x,_,rfl,iteF ?_⟩
     refine ⟨_,rfl,_,_,rfl,⟨hz,rfl⟩,_,_,rfl,rfl,_,rfl,?_⟩
     refine ite2 (fun h1=>?_) (fun h1=>?_)
     · have h1:1≤x.length:=by have:=of_decide_eq_true h1; omega
       refine ⟨_,_,rfl,rfl,_,rfl,?_⟩
       refine ite2 (fun h2=>?_) (fun h2=>?_)
       · have h2:¬ x.length≤8:=fun z=>by
          rw [decide_eq_true (show ((x.length:Nat):Int)≤8 by omega)] at h2
          cases h2
         have e:nameB x=false:=by unfold nameB; rw [decide_eq_false h2]; simp
         have:=q H (Same.refl _)
         rw [e] at this
         exact this
       · have h2:x.length≤8:=by
          refine Nat.le_of_not_lt fun z=>h2 ?_
          rw [decide_eq_false (show ¬ ((x.length:Nat):Int)≤8 by omega)]; rfl
         have e:nameB x=(x.cps.toList.map signB).all id:=by
          unfold nameB; rw [decide_eq_true h1,decide_eq_true h2,List.all_map]; rfl
         refine ⟨_,rfl,_,rfl,comp_str (f:=fun c=>V.bl (signB c)) hz (fun i c H2 D R hc s2 hD k=>?_) (fun H2 D s2 hD e2=>?_)⟩
         · refine ⟨_,rfl,_,_,rfl,rfl,_,rfl,?_⟩
           show if (!decide ((⟨#[c]⟩:Str).cps.toList < ("a" : Str).cps.toList))=true then _ else _
           rw [show (!decide ((⟨#[c]⟩:Str).cps.toList < ("a" : Str).cps.toList))=decide (97≤c) from sign_a c]
           refine ite2 (fun h3=>?_) (fun h3=>?_)
           · refine ⟨_,_,rfl,rfl,?_⟩
             rw [show (V.bl ((fun a b:Str=>!decide (b.cps.toList < a.cps.toList)) ⟨#[c]⟩ "z"))=V.bl (decide (c≤122)) from congrArg V.bl (sign_z c)]
             have:=k H2 (Same.refl _)
             unfold signB at this
             rw [h3] at this
             exact this
           · have:=k H2 (Same.refl _)
             unfold signB at this
             rw [Bool.not_eq_true _ |>.mp h3] at this
             exact this
         · refine ⟨_,x.cps.toList.map signB,rfl,SqL.of (by rw [List.map_map]; exact e2),?_⟩
           rw [←e]
           exact q H2 s2
     · have h1:¬ 1≤x.length:=fun z=>h1 (decide_eq_true (by omega))
       have e:nameB x=false:=by unfold nameB; rw [decide_eq_false h1]; rfl
       have:=q H (Same.refl _)
       rw [e] at this
       exact ⟨_,rfl,iteT this⟩
   · refine ⟨_,rfl,_,.str,T,rfl,ty,_,rfl,?_⟩
     cases T with
     | str=>exact absurd rfl hT
     | _=>exact iteT (iteT q)
variable (P w K mg base) in
abbrev C_is_name:Prop:=Callee P w K mg base "is_name" 1 ["thing"] (sp_is_name K)
theorem call_is_name (B:Blt mg) (ER:Ers K mg)  (F:Fun K "is_name" "is_name" s_is_name f fd) (hm:mg "is_name" = some (.ref f)):C_is_name P w K mg base :=
 ⟨f,fd,ok_is_name B ER  F,hm,F.kp,F.binds fun _ _ _ _ _ _ us hl=>(by obtain ⟨x0,rfl⟩:=len_1 hl; rfl)⟩
def sp_taken_name (K:PySem.W.Frag):Sp:=fun vs H Q E=>∃ (w:Addr) (rem:List Str),vs=[.ref w]∧WdR K H w rem∧(∀ x rem',nameP rem=some (x,rem')→∀ H',Bt w H H'→WdR K H' w rem'→Q (.str x) H')∧(nameP rem=none→∀ H',Bt w H H'→E (.ref (clsA K "NoText")) none H')
theorem ok_taken_name (B:Blt mg) (ER:Ers K mg) (c_Words_taken:CalleeME P w K mg base (clsA K "Words") "taken" 2 ["self"] (sp_Words_taken K)) (c_is_name:C_is_name P w K mg base) (F:Fun K "taken_name" "taken_name" s_taken_name f fd):FnOk P w K mg base (CXE P w) 3 f fd ["words"] (sp_taken_name K):=by
 refine F.okE sc_taken_name (fun vs H Q E h=>?_) (fun cdv A outer s H vs Q E hr h=>?_)
 · obtain ⟨w,rem,rfl,_⟩:=h
   rfl
 · obtain ⟨w,rem,rfl,hw,q,qe⟩:=h
   obtain ⟨dx,L,ws,i,e1,e2,e3,hi,hn,hx⟩:=hw.ex
   refine ⟨_,(pss_cons (ps_set (i:=1) sc_taken_name.nd (pe_mth0E c_Words_taken throws_cx ER.cl_Words (hr.mono (by decide)) (pv 0)))
    (pss_cons (ps_if (pt_not (pt_val (pe_fn c_is_name (pa_cons (pv 1) pa_nil)))) (pss_one (ps_raise throws_cx rfl ER.k_NoText rfl (pa_cons pe_str pa_nil))) pss_nil)
    (pss_one (ps_ret (pv 1))))),?_⟩
   refine ⟨_,rfl,w,dx,_,rfl,e1,rfl,w,rem,rfl,hw,fun y rs er H' b w'=>?_,fun er H' b=>qe (by rw [er]; rfl) H' b⟩
   subst er
   have hy1:=hw.long y (by simp)
   refine g_in ?_
   try dsimp only
   refine ⟨_,rfl,_,rfl,Or.inl ⟨y,rfl,hy1,fun H2 s2=>⟨_,rfl,?_⟩⟩⟩
   have b1:=b.trans (Bt.same w'.live s2)
   by_cases hy:nameB y=true
   · rw [hy]
     refine iteF ?_
     exact ⟨_,rfl,q y rs (if_pos hy) _ b1 (w'.same s2)⟩
   · rw [Bool.eq_false_iff.mpr hy]
     exact iteT ⟨one_le,qe (if_neg hy) _ b1⟩
theorem call_taken_name (B:Blt mg) (ER:Ers K mg) (c_Words_taken:CalleeME P w K mg base (clsA K "Words") "taken" 2 ["self"] (sp_Words_taken K)) (c_is_name:C_is_name P w K mg base) (F:Fun K "taken_name" "taken_name" s_taken_name f fd) (hm:mg "taken_name" = some (.ref f)):CalleeE P w K mg base "taken_name" 3 ["words"] (sp_taken_name K) :=
 ⟨f,fd,ok_taken_name B ER c_Words_taken c_is_name F,hm,F.kp,F.binds fun _ _ _ _ _ _ us hl=>(by obtain ⟨x0,rfl⟩:=len_1 hl; rfl)⟩
def sp_Words_skip (K:PySem.W.Frag):Sp:=fun vs H Q E=>∃ (w:Addr) (x:Str) (rem:List Str),vs=[.ref w,.str x]∧WdR K H w rem∧(∀ rem',skipP x rem=some rem'→∀ H',Bt w H H'→WdR K H' w rem'→Q .non H')∧(skipP x rem=none→∀ H',Bt w H H'→E (.ref (clsA K "NoText")) none H')
theorem ok_Words_skip (B:Blt mg) (ER:Ers K mg) (c_Words_taken:CalleeME P w K mg base (clsA K "Words") "taken" 2 ["self"] (sp_Words_taken K)) (F:Fun K "skip" "Words.skip" s_Words_skip f fd):FnOk P w K mg base (CXE P w) 3 f fd ["self", "due"] (sp_Words_skip K):=by
 refine F.okE sc_Words_skip (fun vs H Q E h=>?_) (fun cdv A outer s H vs Q E hr h=>?_)
 · obtain ⟨w,x,rem,rfl,_⟩:=h
   rfl
 · obtain ⟨w,x,rem,rfl,hw,q,qe⟩:=h
   obtain ⟨dx,L,ws,i,e1,e2,e3,hi,hn,hx⟩:=hw.ex
   refine ⟨_,(pss_one (ps_if (pt_cmpR op_ne (pe_mth0E c_Words_taken throws_cx ER.cl_Words (hr.mono (by decide)) (pv 0)) (pv 1) (nomark _)) (pss_one (ps_raise throws_cx rfl ER.k_NoText rfl (pa_cons pe_str pa_nil))) pss_nil)),?_⟩
   refine ⟨_,rfl,w,dx,_,rfl,e1,rfl,w,rem,rfl,hw,fun y rs er H' b w'=>?_,fun er H' b=>qe (by rw [er]; rfl) H' b⟩
   subst er
   refine ⟨_,rfl,rfl,_,rfl,?_⟩
   by_cases hy:y=x
   · subst hy
     exact iteNS rfl (q rs (if_pos rfl) H' b w')
   · refine ite2 (fun _=>⟨one_le,qe (if_neg hy) H' b⟩) (fun h=>absurd ?_ h)
     simp [hy]
theorem call_Words_skip (B:Blt mg) (ER:Ers K mg) (c_Words_taken:CalleeME P w K mg base (clsA K "Words") "taken" 2 ["self"] (sp_Words_taken K)) (F:Fun K "skip" "Words.skip" s_Words_skip f fd) (M:Meth K (clsA K "Words") "skip" f):CalleeME P w K mg base (clsA K "Words") "skip" 3 ["self", "due"] (sp_Words_skip K) :=
 ⟨f,fd,ok_Words_skip B ER c_Words_taken F,M,F.binds fun _ _ _ _ _ _ us hl=>(by obtain ⟨x0,x1,rfl⟩:=len_2 hl; rfl)⟩
def sp_Part__init__ (K:PySem.W.Frag):Sp:=fun vs H Q _=>∃ (x dx p:Addr) (v0 v1:V) (ys:List V),vs=[.ref x,v0,v1,.ref p]∧H x=some (.ins (clsA K "Part") dx [])∧H p=some (.lst ys)∧∀ (l:Addr) (H':Hp),H l=none→H' x=some (.ins (clsA K "Part") dx [(("reach" : Str),v0),(("name" : Str),v1),(("inner" : Str),.ref l)])→H' l=some (.lst ys)→(∀ b o,b≠x→H b=some o→H' b=some o)→Q .non H'
theorem ok_Part__init__ (B:Blt mg) (ER:Ers K mg)  (F:Fun K "__init__" "Part.__init__" s_Part__init__ f fd):FnOk P w K mg base CX0 1 f fd ["self", "reach", "name", "items"] (sp_Part__init__ K):=by
 refine F.ok sc_Part__init__ (fun vs H Q E h=>?_) (fun cdv A outer s H vs Q E hr h=>?_)
 · obtain ⟨x,dx,p,v0,v1,ys,rfl,_⟩:=h
   rfl
 · obtain ⟨x,dx,p,v0,v1,ys,rfl,hx,hp,q⟩:=h
   refine ⟨_,(pss_cons (ps_fld (pv 0) (pv 1) rfl)
    (pss_cons (ps_fld (pv 0) (pv 2) rfl)
    (pss_one (ps_fld (pv 0) (pe_callTy call_list_of B.b_list (pa_cons (pv 3) pa_nil)) rfl)))),?_⟩
   refine ⟨_,rfl,_,rfl,x,_,dx,[],rfl,hx,ER.cl_Part,ER.na_Part_reach,by show _ < 1000; simp,?_⟩
   rw [show putF "reach" v0 []=[(("reach" : Str),v0)] from rfl]
   refine ⟨_,rfl,_,rfl,x,_,dx,[(("reach" : Str),v0)],rfl,upd_same,ER.cl_Part,ER.na_Part_name,by show _ < 1000; simp,?_⟩
   rw [show putF "name" v1 [(("reach" : Str),v0)]=[(("reach" : Str),v0),(("name" : Str),v1)] from rfl]
   rw [upd_upd]
   have np:p≠x:=fun z=>by rw [z,hx] at hp; cases hp
   refine ⟨_,rfl,p,ys,rfl,Or.inl (SqL.of (by rw [upd_ne np]; exact hp)),fun l hl=>?_⟩
   have nl:l≠x:=fun z=>by rw [z,upd_same] at hl; cases hl
   have hl0:H l=none:=by rw [upd_ne nl] at hl; exact hl
   refine ⟨_,rfl,x,_,dx,[(("reach" : Str),v0),(("name" : Str),v1)],rfl,by rw [upd_ne (Ne.symm nl),upd_same],ER.cl_Part,ER.na_Part_inner,by show _ < 1000; simp,?_⟩
   rw [show putF "inner" (V.ref l) [(("reach" : Str),v0),(("name" : Str),v1)]=[(("reach" : Str),v0),(("name" : Str),v1),(("inner" : Str),V.ref l)] from rfl]
   exact q l _ hl0 (by rw [upd_same]) (by rw [upd_ne nl,upd_same]) (fun b o n e=>by rw [upd_ne n,upd_ne (ne_of_none e hl0),upd_ne n]; exact e)
theorem call_Part__init__ (B:Blt mg) (ER:Ers K mg)  (F:Fun K "__init__" "Part.__init__" s_Part__init__ f fd) (M:Mk K (clsA K "Part") f):CalleeN P w K mg base (clsA K "Part") 1 ["self", "reach", "name", "items"] [] (sp_Part__init__ K) :=
 ⟨f,fd,ok_Part__init__ B ER  F,M,F.binds fun _ _ _ _ _ _ us hl=>(by obtain ⟨x0,x1,x2,x3,rfl⟩:=len_4 hl; rfl)⟩
def sp_Thing__init__ (K:PySem.W.Frag):Sp:=fun vs H Q _=>∃ (x dx:Addr) (v0 v1 v2:V),vs=[.ref x,v0,v1,v2]∧H x=some (.ins (clsA K "Thing") dx [])∧Q .non (upd H x (.ins (clsA K "Thing") dx [(("reach" : Str),v0),(("name" : Str),v1),(("of" : Str),v2)]))
theorem ok_Thing__init__ {T f:Addr} {fd:FuncData} (B:Blt mg) (ER:Ers K mg)  (F:FunD K "__init__" "Thing.__init__" s_Thing__init__ T f fd):FnOk P w K mg base CX0 1 f fd ["self", "reach", "name", "of"] (sp_Thing__init__ K):=by
 refine F.ok sc_Thing__init__ (fun vs H Q E h=>?_) (fun cdv A outer s H vs Q E hr h=>?_)
 · obtain ⟨x,dx,v0,v1,v2,rfl,_⟩:=h
   rfl
 · obtain ⟨x,dx,v0,v1,v2,rfl,hx,q⟩:=h
   refine ⟨_,(pss_cons (ps_fld (pv 0) (pv 1) rfl)
    (pss_cons (ps_fld (pv 0) (pv 2) rfl)
    (pss_one (ps_fld (pv 0) (pv 3) rfl)))),?_⟩
   refine ⟨_,rfl,_,rfl,x,_,dx,[],rfl,hx,ER.cl_Thing,ER.na_Thing_reach,by show _ < 1000; simp,?_⟩
   rw [show putF "reach" v0 []=[(("reach" : Str),v0)] from rfl]
   refine ⟨_,rfl,_,rfl,x,_,dx,[(("reach" : Str),v0)],rfl,upd_same,ER.cl_Thing,ER.na_Thing_name,by show _ < 1000; simp,?_⟩
   rw [show putF "name" v1 [(("reach" : Str),v0)]=[(("reach" : Str),v0),(("name" : Str),v1)] from rfl]
   rw [upd_upd]
   refine ⟨_,rfl,_,rfl,x,_,dx,[(("reach" : Str),v0),(("name" : Str),v1)],rfl,upd_same,ER.cl_Thing,ER.na_Thing_of,by show _ < 1000; simp,?_⟩
   rw [show putF "of" v2 [(("reach" : Str),v0),(("name" : Str),v1)]=[(("reach" : Str),v0),(("name" : Str),v1),(("of" : Str),v2)] from rfl]
   rw [upd_upd]
   exact q
theorem call_Thing__init__ {f:Addr} {fd:FuncData} {T:Addr} {oT:Obj} {nT:Nat} (lT:K.lookup T=some oT) (hT:oT.data=.seq #[.none] nT) (B:Blt mg) (ER:Ers K mg)  (F:FunD K "__init__" "Thing.__init__" s_Thing__init__ T f fd) (M:Mk K (clsA K "Thing") f):CalleeN P w K mg base (clsA K "Thing") 1 ["self", "reach", "name", "of"] [] (sp_Thing__init__ K) :=
 ⟨f,fd,ok_Thing__init__ B ER  F,M,F.binds lT hT fun _ _ _ _ _ _ us hl=>(by rw [List.append_nil] at hl ⊢; obtain ⟨x0,x1,x2,x3,rfl⟩:=len_4 hl; exact ⟨_,rfl,rfl⟩)⟩
theorem call_Thing__init___D {f:Addr} {fd:FuncData} {T:Addr} {oT:Obj} {nT:Nat} (lT:K.lookup T=some oT) (hT:oT.data=.seq #[.none] nT) (B:Blt mg) (ER:Ers K mg)  (F:FunD K "__init__" "Thing.__init__" s_Thing__init__ T f fd) (M:Mk K (clsA K "Thing") f):CalleeN P w K mg base (clsA K "Thing") 1 ["self", "reach", "name", "of"] [.none] (sp_Thing__init__ K) :=
 ⟨f,fd,ok_Thing__init__ B ER  F,M,F.binds lT hT fun _ _ _ _ _ _ us hl=>(by rw [List.length_append] at hl; obtain ⟨x0,x1,x2,rfl⟩:=len_3 (Nat.succ.inj hl); exact ⟨_,rfl,rfl⟩)⟩
def sp_read_path (K:PySem.W.Frag):Sp:=fun vs H Q E=>∃ (x:Str),vs=[.str x]∧x.length≤1000∧(∀ p,pathO x=some p→∀ (u:Addr) (H':Hp),Same H H'→H' u=some (.tup (p.map V.str))→Q (.ref u) H')∧(pathO x=none→∀ H',Same H H'→E (.ref (clsA K "NoText")) none H')
theorem ok_read_path (B:Blt mg) (ER:Ers K mg) (c_is_name:C_is_name P w K mg base) (F:Fun K "read_path" "read_path" s_read_path f fd):FnOk P w K mg base (CXE P w) 2 f fd ["word"] (sp_read_path K):=by
 refine F.okE sc_read_path (fun vs H Q E h=>?_) (fun cdv A outer s H vs Q E hr h=>?_)
 · obtain ⟨x,rfl,_⟩:=h
   rfl
 · obtain ⟨x,rfl,hx,q,qe⟩:=h
   refine ⟨_,(pss_cons (ps_set (i:=1) sc_read_path.nd (pe_bm PySem.F.plainAttrs_str PySem.F.slot_str_split PySem.F.type_str_split mt_split (pv 0) (pa_cons pe_str pa_nil)))
    (pss_cons (ps_if (PW.pt (pw_or (pt_cmpR op_gt (pe_callB call_len B.b_len (pa_cons (pv 1) pa_nil)) (pe_glob (v:=.int 6) rfl (Classical.choose_spec B.c_LONGEST_PATH) ⟨_,rfl⟩) (nomark _)) (pw_or1 (pt_not (pt_val (pe_callB (call_allL rfl) B.b_all (pa_cons (pe_comp rfl read_path_cs1 (pi_list (pv 1)) (fun _ _ _ _ _=>(pg_name (i:=0) read_path_cs1.nd)) (fun _ _ _ _ _=>pf_nil) (fun _ _ _ _ _=>(pe_fn c_is_name (pa_cons (pv 0) pa_nil)))) pa_nil))))))) (pss_one (ps_raise throws_cx rfl ER.k_NoText rfl (pa_cons pe_str pa_nil))) pss_nil)
    (pss_one (ps_ret (pe_callTy call_tuple_of B.b_tuple (pa_cons (pv 1) pa_nil)))))),?_⟩
   refine ⟨_,rfl,rfl,x,("." : Str),rfl,rfl,by decide +kernel,by omega,fun D hD=>?_⟩
   have hpl:∀ y∈Txt.split x ("." : Str),y.length≤1000:=fun y hy=>Nat.le_trans (split_le hy) hx
   unfold pathO at q qe
   generalize Txt.split x ("." : Str)=p at q qe hpl ⊢
   obtain ⟨H1,qH1,s1,eD⟩:=new_at (o:=.lst (p.map V.str)) hD
   rw [←qH1]
   refine g_in ?_
   try dsimp only
   refine ⟨_,rfl,_,_,rfl,Or.inl ⟨_,SqL.of eD,rfl⟩,_,_,rfl,rfl,_,rfl,ite2 (fun e=>?_) (fun e=>?_)⟩
   · have e:=of_decide_eq_true e
     rw [List.length_map] at e
     exact iteT ⟨one_le,qe (if_neg fun z=>by omega) _ s1⟩
   have h6:p.length≤6:=by
    refine Nat.le_of_not_lt fun z=>e (decide_eq_true ?_)
    rw [List.length_map]; omega
   refine ⟨_,rfl,D,rfl,⟨_,SqL.of eD⟩,comp_list (f:=fun v=>match v with
    | .str y=>V.bl (nameB y)
    | _=>.non) (by rw [List.length_map]; exact Nat.le_of_lt (small1000 (by omega))) (SqL.of eD) (fun i v H2 D2 R hv s2 hD2 k=>?_) (fun H2 D2 s2 hD2 e2=>?_)⟩
   · obtain ⟨y,hy,rfl⟩:=getm hv
     refine ⟨_,rfl,_,rfl,Or.inl ⟨y,rfl,hpl y (List.mem_of_getElem? hy),fun H3 s3=>k H3 s3⟩⟩
   refine ⟨_,p.map nameB,rfl,SqL.of (by rw [e2,List.map_map,List.map_map]; rfl),_,rfl,?_⟩
   have s12:=s1.trans s2
   by_cases hall:p.all nameB=true
   · rw [show (p.map nameB).all id=true by rw [List.all_map]; exact hall]
     refine iteF ?_
     refine nx_of ?_
     try dsimp only
     refine ⟨_,rfl,D,_,rfl,Or.inl ⟨SqL.of (s2 _ _ eD),fun u hu=>?_⟩⟩
     exact q p (if_pos ⟨h6,hall⟩) u _ (s12.trans (same_new hu)) upd_same
   · rw [show (p.map nameB).all id=false by rw [List.all_map]; exact Bool.eq_false_iff.mpr hall]
     exact iteT ⟨one_le,qe (if_neg fun z=>hall z.2) _ s12⟩
theorem call_read_path (B:Blt mg) (ER:Ers K mg) (c_is_name:C_is_name P w K mg base) (F:Fun K "read_path" "read_path" s_read_path f fd) (hm:mg "read_path" = some (.ref f)):CalleeE P w K mg base "read_path" 2 ["word"] (sp_read_path K) :=
 ⟨f,fd,ok_read_path B ER c_is_name F,hm,F.kp,F.binds fun _ _ _ _ _ _ us hl=>(by obtain ⟨x0,rfl⟩:=len_1 hl; rfl)⟩
def sp_taken_sort (K:PySem.W.Frag):Sp:=fun vs H Q E=>∃ (w:Addr) (rem:List Str),vs=[.ref w]∧WdR K H w rem∧(∀ o rem',sortP rem=some (o,rem')→∀ (v:V) (H':Hp),Bt w H H'→WdR K H' w rem'→OfH (rmv H' w) v o→Q v H')∧(sortP rem=none→∀ H',Bt w H H'→E (.ref (clsA K "NoText")) none H')
theorem ok_taken_sort (B:Blt mg) (ER:Ers K mg) (c_Words_ahead:CalleeM P w K mg base (clsA K "Words") "ahead" 1 ["self"] (sp_Words_ahead K)) (c_Words_skip:CalleeME P w K mg base (clsA K "Words") "skip" 3 ["self", "due"] (sp_Words_skip K)) (c_read_path:CalleeE P w K mg base "read_path" 2 ["word"] (sp_read_path K)) (c_Words_taken:CalleeME P w K mg base (clsA K "Words") "taken" 2 ["self"] (sp_Words_taken K)) (F:Fun K "taken_sort" "taken_sort" s_taken_sort f fd):FnOk P w K mg base (CXE P w) 4 f fd ["words"] (sp_taken_sort K):=by
 refine F.okE sc_taken_sort (fun vs H Q E h=>?_) (fun cdv A outer s H vs Q E hr h=>?_)
 · obtain ⟨w,rem,rfl,_⟩:=h
   rfl
 · obtain ⟨w,rem,rfl,hw,q,qe⟩:=h
   obtain ⟨dx,L,ws,i,e1,e2,e3,hi,hn,hx⟩:=hw.ex
   refine ⟨_,(pss_cons (ps_if (pt_cmpR op_ne (pe_mth0 c_Words_ahead ER.cl_Words (hr.mono (by decide)) (pv 0)) pe_str (nomark _)) (pss_one (ps_ret pe_non)) pss_nil)
    (pss_cons (ps_expr (pe_mthE c_Words_skip throws_cx ER.cl_Words (hr.mono (by decide)) (pv 0) (pa_cons pe_str pa_nil)))
    (pss_one (ps_ret (pe_fnE c_read_path throws_cx (hr.mono (by decide)) rfl (pa_cons (pe_mth0E c_Words_taken throws_cx ER.cl_Words (hr.mono (by decide)) (pv 0)) pa_nil)))))),?_⟩
   refine ⟨_,rfl,w,dx,_,rfl,e1,rfl,w,rem,rfl,hw,scal_head _ _,_,rfl,?_⟩
   unfold sortP at q qe
   by_cases hh:rem.head?=some ("of" : Str)
   rotate_left
   · rw [decide_eq_false (headV_ne hh)]
     exact iteT (q none rem (if_neg hh) .non H (Bt.same hw.live (Same.refl _)) hw rfl)
   rw [if_pos hh] at q qe
   have er:=head_cons hh
   rw [show headV rem=.str ("of" : Str) by rw [er]; rfl,decide_eq_true rfl]
   refine iteF ?_
   have hsk:skipP ("of" : Str) rem=some rem.tail:=by rw [er]; exact skipP_ok _ _
   refine ⟨_,rfl,w,dx,_,rfl,e1,rfl,w,("of" : Str),rem,rfl,hw,fun r2 er2 H2 b2 w2=>?_,fun er2=>by rw [hsk] at er2; cases er2⟩
   rw [hsk] at er2
   have er2:=Option.some.inj er2
   subst er2
   obtain ⟨dx2,L2',ws2,i2,f1,_⟩:=w2.ex
   refine ⟨_,rfl,w,dx2,_,rfl,f1,rfl,w,rem.tail,rfl,w2,fun x rs ex H3 b3 w3=>?_,fun ex H3 b3=>?_⟩
   rotate_left
   · exact qe (by rw [ex]; rfl) H3 (b2.trans b3)
   rw [ex] at q qe w2
   refine ⟨x,rfl,w2.long x (by simp),fun p hpo u H4 s4 eu=>?_,fun hpo H4 s4=>?_⟩
   rotate_left
   · exact qe (by rw [pathP,hpo]) H4 ((b2.trans b3).trans (Bt.same w3.live s4))
   have nu:u≠w:=fun z=>by
    obtain ⟨dx3,L3,ws3,i3,g1,_⟩:=(w3.same s4).ex
    rw [z,g1] at eu; cases eu
   exact q (some p) rs (by rw [pathP,hpo]) (.ref u) H4 ((b2.trans b3).trans (Bt.same w3.live s4)) (w3.same s4) ⟨u,rfl,by rw [rmv_ne nu]; exact eu⟩
theorem call_taken_sort (B:Blt mg) (ER:Ers K mg) (c_Words_ahead:CalleeM P w K mg base (clsA K "Words") "ahead" 1 ["self"] (sp_Words_ahead K)) (c_Words_skip:CalleeME P w K mg base (clsA K "Words") "skip" 3 ["self", "due"] (sp_Words_skip K)) (c_read_path:CalleeE P w K mg base "read_path" 2 ["word"] (sp_read_path K)) (c_Words_taken:CalleeME P w K mg base (clsA K "Words") "taken" 2 ["self"] (sp_Words_taken K)) (F:Fun K "taken_sort" "taken_sort" s_taken_sort f fd) (hm:mg "taken_sort" = some (.ref f)):CalleeE P w K mg base "taken_sort" 4 ["words"] (sp_taken_sort K) :=
 ⟨f,fd,ok_taken_sort B ER c_Words_ahead c_Words_skip c_read_path c_Words_taken F,hm,F.kp,F.binds fun _ _ _ _ _ _ us hl=>(by obtain ⟨x0,rfl⟩:=len_1 hl; rfl)⟩
def sp_Let__init__ (K:PySem.W.Frag):Sp:=fun vs H Q _=>∃ (x dx:Addr) (v0 v1:V),vs=[.ref x,v0,v1]∧H x=some (.ins (clsA K "Let") dx [])∧Q .non (upd H x (.ins (clsA K "Let") dx [(("name" : Str),v0),(("of" : Str),v1)]))
theorem ok_Let__init__ {T f:Addr} {fd:FuncData} (B:Blt mg) (ER:Ers K mg)  (F:FunD K "__init__" "Let.__init__" s_Let__init__ T f fd):FnOk P w K mg base CX0 1 f fd ["self", "name", "of"] (sp_Let__init__ K):=by
 refine F.ok sc_Let__init__ (fun vs H Q E h=>?_) (fun cdv A outer s H vs Q E hr h=>?_)
 · obtain ⟨x,dx,v0,v1,rfl,_⟩:=h
   rfl
 · obtain ⟨x,dx,v0,v1,rfl,hx,q⟩:=h
   refine ⟨_,(pss_cons (ps_fld (pv 0) (pv 1) rfl)
    (pss_one (ps_fld (pv 0) (pv 2) rfl))),?_⟩
   refine ⟨_,rfl,_,rfl,x,_,dx,[],rfl,hx,ER.cl_Let,ER.na_Let_name,by show _ < 1000; simp,?_⟩
   rw [show putF "name" v0 []=[(("name" : Str),v0)] from rfl]
   refine ⟨_,rfl,_,rfl,x,_,dx,[(("name" : Str),v0)],rfl,upd_same,ER.cl_Let,ER.na_Let_of,by show _ < 1000; simp,?_⟩
   rw [show putF "of" v1 [(("name" : Str),v0)]=[(("name" : Str),v0),(("of" : Str),v1)] from rfl]
   rw [upd_upd]
   exact q
theorem call_Let__init__ {f:Addr} {fd:FuncData} {T:Addr} {oT:Obj} {nT:Nat} (lT:K.lookup T=some oT) (hT:oT.data=.seq #[.none] nT) (B:Blt mg) (ER:Ers K mg)  (F:FunD K "__init__" "Let.__init__" s_Let__init__ T f fd) (M:Mk K (clsA K "Let") f):CalleeN P w K mg base (clsA K "Let") 1 ["self", "name", "of"] [] (sp_Let__init__ K) :=
 ⟨f,fd,ok_Let__init__ B ER  F,M,F.binds lT hT fun _ _ _ _ _ _ us hl=>(by rw [List.append_nil] at hl ⊢; obtain ⟨x0,x1,x2,rfl⟩:=len_3 hl; exact ⟨_,rfl,rfl⟩)⟩
theorem call_Let__init___D {f:Addr} {fd:FuncData} {T:Addr} {oT:Obj} {nT:Nat} (lT:K.lookup T=some oT) (hT:oT.data=.seq #[.none] nT) (B:Blt mg) (ER:Ers K mg)  (F:FunD K "__init__" "Let.__init__" s_Let__init__ T f fd) (M:Mk K (clsA K "Let") f):CalleeN P w K mg base (clsA K "Let") 1 ["self", "name", "of"] [.none] (sp_Let__init__ K) :=
 ⟨f,fd,ok_Let__init__ B ER  F,M,F.binds lT hT fun _ _ _ _ _ _ us hl=>(by rw [List.length_append] at hl; obtain ⟨x0,x1,rfl⟩:=len_2 (Nat.succ.inj hl); exact ⟨_,rfl,rfl⟩)⟩
def sp_Elder__init__ (K:PySem.W.Frag):Sp:=fun vs H Q _=>∃ (x dx:Addr) (v0:V),vs=[.ref x,v0]∧H x=some (.ins (clsA K "Elder") dx [])∧Q .non (upd H x (.ins (clsA K "Elder") dx [(("path" : Str),v0)]))
theorem ok_Elder__init__ (B:Blt mg) (ER:Ers K mg)  (F:Fun K "__init__" "Elder.__init__" s_Elder__init__ f fd):FnOk P w K mg base CX0 1 f fd ["self", "path"] (sp_Elder__init__ K):=by
 refine F.ok sc_Elder__init__ (fun vs H Q E h=>?_) (fun cdv A outer s H vs Q E hr h=>?_)
 · obtain ⟨x,dx,v0,rfl,_⟩:=h
   rfl
 · obtain ⟨x,dx,v0,rfl,hx,q⟩:=h
   refine ⟨_,(pss_one (ps_fld (pv 0) (pv 1) rfl)),?_⟩
   refine ⟨_,rfl,_,rfl,x,_,dx,[],rfl,hx,ER.cl_Elder,ER.na_Elder_path,by show _ < 1000; simp,?_⟩
   rw [show putF "path" v0 []=[(("path" : Str),v0)] from rfl]
   exact q
theorem call_Elder__init__ (B:Blt mg) (ER:Ers K mg)  (F:Fun K "__init__" "Elder.__init__" s_Elder__init__ f fd) (M:Mk K (clsA K "Elder") f):CalleeN P w K mg base (clsA K "Elder") 1 ["self", "path"] [] (sp_Elder__init__ K) :=
 ⟨f,fd,ok_Elder__init__ B ER  F,M,F.binds fun _ _ _ _ _ _ us hl=>(by obtain ⟨x0,x1,rfl⟩:=len_2 hl; rfl)⟩
def sp_All__init__ (K:PySem.W.Frag):Sp:=fun vs H Q _=>∃ (x dx:Addr) (v0 v1:V),vs=[.ref x,v0,v1]∧H x=some (.ins (clsA K "All") dx [])∧Q .non (upd H x (.ins (clsA K "All") dx [(("path" : Str),v0),(("on" : Str),v1)]))
theorem ok_All__init__ {T f:Addr} {fd:FuncData} (B:Blt mg) (ER:Ers K mg)  (F:FunD K "__init__" "All.__init__" s_All__init__ T f fd):FnOk P w K mg base CX0 1 f fd ["self", "path", "on"] (sp_All__init__ K):=by
 refine F.ok sc_All__init__ (fun vs H Q E h=>?_) (fun cdv A outer s H vs Q E hr h=>?_)
 · obtain ⟨x,dx,v0,v1,rfl,_⟩:=h
   rfl
 · obtain ⟨x,dx,v0,v1,rfl,hx,q⟩:=h
   refine ⟨_,(pss_cons (ps_fld (pv 0) (pv 1) rfl)
    (pss_one (ps_fld (pv 0) (pv 2) rfl))),?_⟩
   refine ⟨_,rfl,_,rfl,x,_,dx,[],rfl,hx,ER.cl_All,ER.na_All_path,by show _ < 1000; simp,?_⟩
   rw [show putF "path" v0 []=[(("path" : Str),v0)] from rfl]
   refine ⟨_,rfl,_,rfl,x,_,dx,[(("path" : Str),v0)],rfl,upd_same,ER.cl_All,ER.na_All_on,by show _ < 1000; simp,?_⟩
   rw [show putF "on" v1 [(("path" : Str),v0)]=[(("path" : Str),v0),(("on" : Str),v1)] from rfl]
   rw [upd_upd]
   exact q
theorem call_All__init__ {f:Addr} {fd:FuncData} {T:Addr} {oT:Obj} {nT:Nat} (lT:K.lookup T=some oT) (hT:oT.data=.seq #[.bool false] nT) (B:Blt mg) (ER:Ers K mg)  (F:FunD K "__init__" "All.__init__" s_All__init__ T f fd) (M:Mk K (clsA K "All") f):CalleeN P w K mg base (clsA K "All") 1 ["self", "path", "on"] [] (sp_All__init__ K) :=
 ⟨f,fd,ok_All__init__ B ER  F,M,F.binds lT hT fun _ _ _ _ _ _ us hl=>(by rw [List.append_nil] at hl ⊢; obtain ⟨x0,x1,x2,rfl⟩:=len_3 hl; exact ⟨_,rfl,rfl⟩)⟩
theorem call_All__init___D {f:Addr} {fd:FuncData} {T:Addr} {oT:Obj} {nT:Nat} (lT:K.lookup T=some oT) (hT:oT.data=.seq #[.bool false] nT) (B:Blt mg) (ER:Ers K mg)  (F:FunD K "__init__" "All.__init__" s_All__init__ T f fd) (M:Mk K (clsA K "All") f):CalleeN P w K mg base (clsA K "All") 1 ["self", "path", "on"] [(.bool false)] (sp_All__init__ K) :=
 ⟨f,fd,ok_All__init__ B ER  F,M,F.binds lT hT fun _ _ _ _ _ _ us hl=>(by rw [List.length_append] at hl; obtain ⟨x0,x1,rfl⟩:=len_2 (Nat.succ.inj hl); exact ⟨_,rfl,rfl⟩)⟩
def sp_read_all (K:PySem.W.Frag):Sp:=fun vs H Q E=>∃ (w:Addr) (rem:List Str),vs=[.ref w]∧WdR K H w rem∧(∀ t rem',allP rem=some (t,rem')→∀ (a:Addr) (H':Hp),Bt w H H'→WdR K H' w rem'→TreF K (fun x=>H x=none) (rmv H' w) a t→Q (.ref a) H')∧(allP rem=none→∀ H',Bt w H H'→E (.ref (clsA K "NoText")) none H')
theorem ok_read_all (B:Blt mg) (ER:Ers K mg) (c_Words_taken:CalleeME P w K mg base (clsA K "Words") "taken" 2 ["self"] (sp_Words_taken K)) (c_Words_ahead:CalleeM P w K mg base (clsA K "Words") "ahead" 1 ["self"] (sp_Words_ahead K)) (c_All__init__:CalleeN P w K mg base (clsA K "All") 1 ["self", "path", "on"] [] (sp_All__init__ K)) (c_read_path:CalleeE P w K mg base "read_path" 2 ["word"] (sp_read_path K)) (F:Fun K "read_all" "read_all" s_read_all f fd):FnOk P w K mg base (CXE P w) 3 f fd ["words"] (sp_read_all K):=by
 refine F.okE sc_read_all (fun vs H Q E h=>?_) (fun cdv A outer s H vs Q E hr h=>?_)
 · obtain ⟨w,rem,rfl,_⟩:=h
   rfl
 · obtain ⟨w,rem,rfl,hw,q,qe⟩:=h
   obtain ⟨dx,L,ws,i,e1,e2,e3,hi,hn,hx⟩:=hw.ex
   refine ⟨_,(pss_cons (ps_set (i:=1) sc_read_all.nd (pe_mth0E c_Words_taken throws_cx ER.cl_Words (hr.mono (by decide)) (pv 0)))
    (pss_cons (ps_if (PW.pt (pw_and (pt_cmpR op_eq (pv 1) pe_str (nomark _)) (pw_and1 (pt_cmpR op_notIn_seq (pe_mth0 c_Words_ahead ER.cl_Words (hr.mono (by decide)) (pv 0)) (pe_tup (pa_cons pe_non (pa_cons pe_str (pa_cons pe_str pa_nil)))) (by with_unfolding_all rfl))))) (pss_one (ps_ret (pe_mk c_All__init__ (hr.mono (by decide)) rfl ER.e_All .nil (pa_cons (pe_fnE c_read_path throws_cx (hr.mono (by decide)) rfl (pa_cons (pe_mth0E c_Words_taken throws_cx ER.cl_Words (hr.mono (by decide)) (pv 0)) pa_nil)) (pa_cons pe_bl pa_nil))))) pss_nil)
    (pss_one (ps_ret (pe_mk c_All__init__ (hr.mono (by decide)) rfl ER.e_All .nil (pa_cons (pe_fnE c_read_path throws_cx (hr.mono (by decide)) rfl (pa_cons (pv 1) pa_nil)) (pa_cons pe_bl pa_nil))))))),?_⟩
   refine ⟨_,rfl,w,dx,_,rfl,e1,rfl,w,rem,rfl,hw,fun y rs er H2 b2 w2=>?_,fun er H2 b2=>qe (by rw [er]; rfl) H2 b2⟩
   subst er
   rw [allP] at q qe
   obtain ⟨dx2,L2',ws2,i2,f1,_⟩:=w2.ex
   refine g_in ?_
   try dsimp only
   refine if_cut (fun H'=>Same H2 H'∧y=("on" : Str)∧stopB rs=false) (fun H'=>Same H2 H'∧¬ (y=("on" : Str)∧stopB rs=false)) ?_ ?_ (fun N1 N2 m1 m2=>?_)
   rotate_left 2
   · refine ⟨_,rfl,rfl,_,rfl,ite2 (fun e=>?_) (fun e=>iteF (m2 _ ⟨Same.refl _,fun z=>e (decide_eq_true (by rw [z.1]))⟩))⟩
     have e:y=("on" : Str):=V.str.inj (of_decide_eq_true e)
     refine ⟨_,rfl,w,dx2,_,rfl,f1,rfl,w,rs,rfl,w2,three_le,fun u hu=>⟨u,_,rfl,Or.inr (SqT.of upd_same),by cases rs <;> rfl,rfl,_,rfl,?_⟩⟩
     have s3:=same_new (o:=.tup [.non,.str (";" : Str),.str (")" : Str)]) hu
     generalize upd H2 u (.tup [.non,.str (";" : Str),.str (")" : Str)])=H3 at s3 ⊢
     rw [show (if true=true then !inV (headV rs) [.non,.str (";" : Str),.str (")" : Str)] else inV (headV rs) [.non,.str (";" : Str),.str (")" : Str)])=!stopB rs from congrArg (! ·) (stop_in rs)]
     cases hb:stopB rs with
     | true=>exact iteF (m2 _ ⟨s3,fun z=>by rw [hb] at z; cases z.2⟩)
     | false=>exact iteT (m1 _ ⟨s3,e,hb⟩)
   · rintro H3 ⟨s3,hy,hst⟩
     rw [if_pos ⟨hy,hst⟩] at q qe
     have w3:=w2.same s3
     have b3:=b2.trans (Bt.same w2.live s3)
     obtain ⟨dx3,L3,ws3,i3,g1,_⟩:=w3.ex
     refine ⟨_,rfl,w,dx3,_,rfl,g1,rfl,w,rs,rfl,w3,fun x rem' ex H4 b4 w4=>?_,fun ex H4 b4=>qe (by rw [ex]; rfl) H4 (b3.trans b4)⟩
     rw [ex] at q qe w3
     refine ⟨x,rfl,w3.long x (by simp),fun p hpo u H5 s5 eu=>?_,fun hpo H5 s5=>qe (by rw [pathP,hpo]) H5 ((b3.trans b4).trans (Bt.same w4.live s5))⟩
     have w5:=w4.same s5
     have nu:u≠w:=fun z=>by
      obtain ⟨dx6,L6,ws6,i6,k1,_⟩:=w5.ex
      rw [z,k1] at eu; cases eu
     refine fun a da ha hda hne=>⟨a,da,_,_,rfl,upd_same,rfl,?_⟩
     rw [upd_upd]
     have s6:=fresh_ins (o:=.own a) (o':=.ins (clsA K "All") da [(("path" : Str),V.ref u),(("on" : Str),V.bl true)]) ha hda
     have ea:(upd (upd H5 da (.own a)) a (.ins (clsA K "All") da [(("path" : Str),V.ref u),(("on" : Str),V.bl true)])) a=some (.ins (clsA K "All") da [(("path" : Str),V.ref u),(("on" : Str),V.bl true)]):=upd_same
     generalize upd (upd H5 da (.own a)) a (.ins (clsA K "All") da [(("path" : Str),V.ref u),(("on" : Str),V.bl true)])=H6 at s6 ea ⊢
     have na:a≠w:=fun z=>w5.live (by rw [←z]; exact ha)
     exact q (.leaf (.all p true)) rem' (by rw [pathP,hpo]) a H6 ((b3.trans b4).trans (Bt.same w4.live (s5.trans s6))) (w5.same s6) (.leaf trivial ⟨da,_,by rw [rmv_ne na]; exact ea,u,rfl,by rw [rmv_ne nu]; exact s6 _ _ eu⟩)
   · rintro H3 ⟨s3,hno⟩
     rw [if_neg hno] at q qe
     have w3:=w2.same s3
     have b3:=b2.trans (Bt.same w2.live s3)
     refine ⟨_,rfl,y,rfl,hw.long y (by simp),fun p hpo u H5 s5 eu=>?_,fun hpo H5 s5=>qe (by rw [hpo]) H5 (b3.trans (Bt.same w3.live s5))⟩
     have w5:=w3.same s5
     have nu:u≠w:=fun z=>by
      obtain ⟨dx6,L6,ws6,i6,k1,_⟩:=w5.ex
      rw [z,k1] at eu; cases eu
     refine fun a da ha hda hne=>⟨a,da,_,_,rfl,upd_same,rfl,?_⟩
     rw [upd_upd]
     have s6:=fresh_ins (o:=.own a) (o':=.ins (clsA K "All") da [(("path" : Str),V.ref u),(("on" : Str),V.bl false)]) ha hda
     have ea:(upd (upd H5 da (.own a)) a (.ins (clsA K "All") da [(("path" : Str),V.ref u),(("on" : Str),V.bl false)])) a=some (.ins (clsA K "All") da [(("path" : Str),V.ref u),(("on" : Str),V.bl false)]):=upd_same
     generalize upd (upd H5 da (.own a)) a (.ins (clsA K "All") da [(("path" : Str),V.ref u),(("on" : Str),V.bl false)])=H6 at s6 ea ⊢
     have na:a≠w:=fun z=>w5.live (by rw [←z]; exact ha)
     exact q (.leaf (.all p false)) rs (by rw [hpo]) a H6 (b3.trans (Bt.same w3.live (s5.trans s6))) (w5.same s6) (.leaf trivial ⟨da,_,by rw [rmv_ne na]; exact ea,u,rfl,by rw [rmv_ne nu]; exact s6 _ _ eu⟩)
theorem call_read_all (B:Blt mg) (ER:Ers K mg) (c_Words_taken:CalleeME P w K mg base (clsA K "Words") "taken" 2 ["self"] (sp_Words_taken K)) (c_Words_ahead:CalleeM P w K mg base (clsA K "Words") "ahead" 1 ["self"] (sp_Words_ahead K)) (c_All__init__:CalleeN P w K mg base (clsA K "All") 1 ["self", "path", "on"] [] (sp_All__init__ K)) (c_read_path:CalleeE P w K mg base "read_path" 2 ["word"] (sp_read_path K)) (F:Fun K "read_all" "read_all" s_read_all f fd) (hm:mg "read_all" = some (.ref f)):CalleeE P w K mg base "read_all" 3 ["words"] (sp_read_all K) :=
 ⟨f,fd,ok_read_all B ER c_Words_taken c_Words_ahead c_All__init__ c_read_path F,hm,F.kp,F.binds fun _ _ _ _ _ _ us hl=>(by obtain ⟨x0,rfl⟩:=len_1 hl; rfl)⟩
def sp_One__init__ (K:PySem.W.Frag):Sp:=fun vs H Q _=>∃ (x dx:Addr) (v0 v1 v2:V),vs=[.ref x,v0,v1,v2]∧H x=some (.ins (clsA K "One") dx [])∧Q .non (upd H x (.ins (clsA K "One") dx [(("reach" : Str),v0),(("name" : Str),v1),(("path" : Str),v2)]))
theorem ok_One__init__ (B:Blt mg) (ER:Ers K mg)  (F:Fun K "__init__" "One.__init__" s_One__init__ f fd):FnOk P w K mg base CX0 1 f fd ["self", "reach", "name", "path"] (sp_One__init__ K):=by
 refine F.ok sc_One__init__ (fun vs H Q E h=>?_) (fun cdv A outer s H vs Q E hr h=>?_)
 · obtain ⟨x,dx,v0,v1,v2,rfl,_⟩:=h
   rfl
 · obtain ⟨x,dx,v0,v1,v2,rfl,hx,q⟩:=h
   refine ⟨_,(pss_cons (ps_fld (pv 0) (pv 1) rfl)
    (pss_cons (ps_fld (pv 0) (pv 2) rfl)
    (pss_one (ps_fld (pv 0) (pv 3) rfl)))),?_⟩
   refine ⟨_,rfl,_,rfl,x,_,dx,[],rfl,hx,ER.cl_One,ER.na_One_reach,by show _ < 1000; simp,?_⟩
   rw [show putF "reach" v0 []=[(("reach" : Str),v0)] from rfl]
   refine ⟨_,rfl,_,rfl,x,_,dx,[(("reach" : Str),v0)],rfl,upd_same,ER.cl_One,ER.na_One_name,by show _ < 1000; simp,?_⟩
   rw [show putF "name" v1 [(("reach" : Str),v0)]=[(("reach" : Str),v0),(("name" : Str),v1)] from rfl]
   rw [upd_upd]
   refine ⟨_,rfl,_,rfl,x,_,dx,[(("reach" : Str),v0),(("name" : Str),v1)],rfl,upd_same,ER.cl_One,ER.na_One_path,by show _ < 1000; simp,?_⟩
   rw [show putF "path" v2 [(("reach" : Str),v0),(("name" : Str),v1)]=[(("reach" : Str),v0),(("name" : Str),v1),(("path" : Str),v2)] from rfl]
   rw [upd_upd]
   exact q
theorem call_One__init__ (B:Blt mg) (ER:Ers K mg)  (F:Fun K "__init__" "One.__init__" s_One__init__ f fd) (M:Mk K (clsA K "One") f):CalleeN P w K mg base (clsA K "One") 1 ["self", "reach", "name", "path"] [] (sp_One__init__ K) :=
 ⟨f,fd,ok_One__init__ B ER  F,M,F.binds fun _ _ _ _ _ _ us hl=>(by obtain ⟨x0,x1,x2,x3,rfl⟩:=len_4 hl; rfl)⟩
def sp_Ask__init__ (K:PySem.W.Frag):Sp:=fun vs H Q _=>∃ (x dx:Addr) (v0:V),vs=[.ref x,v0]∧H x=some (.ins (clsA K "Ask") dx [])∧Q .non (upd H x (.ins (clsA K "Ask") dx [(("path" : Str),v0)]))
theorem ok_Ask__init__ (B:Blt mg) (ER:Ers K mg)  (F:Fun K "__init__" "Ask.__init__" s_Ask__init__ f fd):FnOk P w K mg base CX0 1 f fd ["self", "path"] (sp_Ask__init__ K):=by
 refine F.ok sc_Ask__init__ (fun vs H Q E h=>?_) (fun cdv A outer s H vs Q E hr h=>?_)
 · obtain ⟨x,dx,v0,rfl,_⟩:=h
   rfl
 · obtain ⟨x,dx,v0,rfl,hx,q⟩:=h
   refine ⟨_,(pss_one (ps_fld (pv 0) (pv 1) rfl)),?_⟩
   refine ⟨_,rfl,_,rfl,x,_,dx,[],rfl,hx,ER.cl_Ask,ER.na_Ask_path,by show _ < 1000; simp,?_⟩
   rw [show putF "path" v0 []=[(("path" : Str),v0)] from rfl]
   exact q
theorem call_Ask__init__ (B:Blt mg) (ER:Ers K mg)  (F:Fun K "__init__" "Ask.__init__" s_Ask__init__ f fd) (M:Mk K (clsA K "Ask") f):CalleeN P w K mg base (clsA K "Ask") 1 ["self", "path"] [] (sp_Ask__init__ K) :=
 ⟨f,fd,ok_Ask__init__ B ER  F,M,F.binds fun _ _ _ _ _ _ us hl=>(by obtain ⟨x0,x1,rfl⟩:=len_2 hl; rfl)⟩
def spn_read_items (K:PySem.W.Frag) (n:Nat):Sp:=fun vs H Q E=>∃ (w:Addr) (b:Int) (d:Nat) (rem:List Str),vs=[.ref w,.int b]∧b + (d:Int)=31∧d < n∧WdR K H w rem∧(∀ ts rem',itemsP (prsI d) rem=some (ts,rem')→∀ (P:Addr) (as:List Addr) (H':Hp),Bt w H H'→WdR K H' w rem'→rmv H' w P=some (.lst (as.map V.ref))→H P=none→TresF K (fun x=>H x=none∧x≠P) (rmv H' w) as ts→Q (.ref P) H')∧(itemsP (prsI d) rem=none→∀ H',Bt w H H'→E (.ref (clsA K "NoText")) none H')
def partD:Nat→List Str→Option (Tre × List Str)
 | 0=>fun _=>none
 | d + 1=>partP (prsI d)
theorem prsD (d:Nat):prsI d=itemP (partD d):=by cases d <;> rfl
def spn_read_part (K:PySem.W.Frag) (n:Nat):Sp:=fun vs H Q E=>∃ (w:Addr) (b:Int) (d:Nat) (rem:List Str),vs=[.ref w,.int b]∧b + (d:Int)=31∧d≤n∧WdR K H w rem∧(∀ t rem',partD d rem=some (t,rem')→∀ (a:Addr) (H':Hp),Bt w H H'→WdR K H' w rem'→TreF K (fun x=>H x=none) (rmv H' w) a t→Q (.ref a) H')∧(partD d rem=none→∀ H',Bt w H H'→E (.ref (clsA K "NoText")) none H')
theorem partD_none {d:Nat} {ws:List Str} (h:∀ r w1 n w2,reachP ws=some (r,w1)→nameP w1=some (n,w2)→skipP ("(" : Str) w2=none):partD d ws=none:=by
 cases d with
 | zero=>rfl
 | succ d =>
   show partP (prsI d) ws=none
   unfold partP
   cases e1:reachP ws with
   | none=>rfl
   | some x =>
     obtain ⟨r,w1⟩:=x
     show (match nameP w1 with | none=>none | some (n,w2)=>_)=none
     cases e2:nameP w1 with
     | none=>rfl
     | some y =>
       obtain ⟨nm,w2⟩:=y
       show (match skipP ("(" : Str) w2 with | none=>none | some w3=>_)=none
       rw [h r w1 nm w2 e1 e2]
theorem partD_eq {d : Nat} {ws w1 w2 w3 : List Str} {r n : Str} (e1 : reachP ws = some (r, w1)) (e2 : nameP w1 = some (n, w2)) (e3 : skipP ("(" : Str) w2 = some w3) : partD (d + 1) ws = (match innerP (prsI d) w3 with
        | none=>none
        | some (ts,w4)=>match skipP (")" : Str) w4 with
          | none=>none
          | some w5=>some (.node r n ts,w5)):=by
 show partP (prsI d) ws=_
 unfold partP
 rw [e1]
 show (match nameP w1 with | none=>none | some (n,w2)=>_)=_
 rw [e2]
 show (match skipP ("(" : Str) w2 with | none=>none | some w3=>_)=_
 rw [e3]
 all_goals rfl
theorem ok_read_part {f : Addr} {fd : FuncData} {n : Nat} (B : Blt mg) (ER : Ers K mg) (c_taken_reach : CalleeE P w K mg base "taken_reach" 3 ["words"] (sp_taken_reach K)) (c_taken_name : CalleeE P w K mg base "taken_name" 3 ["words"] (sp_taken_name K)) (c_Words_skip : CalleeME P w K mg base (clsA K "Words") "skip" 3 ["self", "due"] (sp_Words_skip K)) (c_Words_ahead : CalleeM P w K mg base (clsA K "Words") "ahead" 1 ["self"] (sp_Words_ahead K)) (c_read_items_n : CalleeE P w K mg base "read_items" (5 + 3 * n) ["words", "brackets"] (spn_read_items K n)) (c_Part__init__ : CalleeN P w K mg base (clsA K "Part") 1 ["self", "reach", "name", "items"] [] (sp_Part__init__ K)) (F : Fun K "read_part" "read_part" s_read_part f fd) : FnOk P w K mg base (CXE P w) (5 + 3 * n + 1) f fd ["words", "brackets"] (spn_read_part K n) := by
 refine F.okE sc_read_part (fun vs H Q E h=>?_) (fun cdv A outer s H vs Q E hr h=>?_)
 · obtain ⟨w,b,d,rem,rfl,_⟩:=h
   rfl
 · obtain ⟨w,b,d,rem,rfl,hb,hd,hw,q,qe⟩:=h
   refine ⟨_,(pss_cons (ps_set (i:=2) sc_read_part.nd (pe_fnE c_taken_reach throws_cx (hr.mono (by omega)) rfl (pa_cons (pv 0) pa_nil)))
    (pss_cons (ps_set (i:=3) sc_read_part.nd (pe_fnE c_taken_name throws_cx (hr.mono (by omega)) rfl (pa_cons (pv 0) pa_nil)))
    (pss_cons (ps_expr (pe_mthE c_Words_skip throws_cx ER.cl_Words (hr.mono (by omega)) (pv 0) (pa_cons pe_str pa_nil)))
    (pss_cons (ps_if (pt_cmpR op_eq (pv 1) (pe_glob (v:=.int 31) rfl (Classical.choose_spec B.c_MOST_BRACKETS) ⟨_,rfl⟩) (nomark _)) (pss_one (ps_raise throws_cx rfl ER.k_NoText rfl (pa_cons pe_str pa_nil))) pss_nil)
    (pss_cons (ps_set (i:=4) sc_read_part.nd (pe_lst pa_nil))
    (pss_cons (ps_if (pt_cmpR op_ne (pe_mth0 c_Words_ahead ER.cl_Words (hr.mono (by omega)) (pv 0)) pe_str (nomark _)) (pss_one (ps_set (i:=4) sc_read_part.nd (pe_fnE c_read_items_n throws_cx (hr.mono (by omega)) rfl (pa_cons (pv 0) (pa_cons (pe_op op_add (pv 1) pe_int) pa_nil))))) pss_nil)
    (pss_cons (ps_expr (pe_mthE c_Words_skip throws_cx ER.cl_Words (hr.mono (by omega)) (pv 0) (pa_cons pe_str pa_nil)))
    (pss_one (ps_ret (pe_mk c_Part__init__ (hr.mono (by omega)) rfl ER.e_Part .nil (pa_cons (pv 2) (pa_cons (pv 3) (pa_cons (pv 4) pa_nil))))))))))))),?_⟩
   refine ⟨_,rfl,w,rem,rfl,hw,fun r v1 p1 H2 b2 w2=>?_,fun p1 H2 b2=>qe (partD_none fun _ _ _ _ z=>by rw [p1] at z; cases z) H2 b2⟩
   refine g_in ?_
   try dsimp only
   refine ⟨_,rfl,w,v1,rfl,w2,fun nm v2 p2 H3 b3 w3=>?_,fun p2 H3 b3=>qe (partD_none fun _ _ _ _ z z2=>by rw [p1] at z; cases z; rw [p2] at z2; cases z2) H3 (b2.trans b3)⟩
   refine g_in ?_
   try dsimp only
   obtain ⟨dx3,_,_,_,f3,_⟩:=w3.ex
   refine ⟨_,rfl,w,dx3,_,rfl,f3,rfl,w,_,v2,rfl,w3,fun v3 p3 H4 b4 w4=>?_,fun p3 H4 b4=>qe (partD_none fun _ _ _ _ z z2=>by rw [p1] at z; cases z; rw [p2] at z2; cases z2; exact p3) H4 ((b2.trans b3).trans b4)⟩
   have b24:=(b2.trans b3).trans b4
   refine ⟨_,rfl,rfl,_,rfl,ite2 (fun e=>?_) (fun e=>?_)⟩
   · have e:=V.int.inj (of_decide_eq_true e)
     have hd0:d=0:=by omega
     subst hd0
     exact ⟨one_le,qe rfl _ b24⟩
   refine nx_of ?_
   try dsimp only
   cases d with
   | zero=>exact absurd (decide_eq_true (congrArg V.int (by omega))) e
   | succ d =>
     rw [partD_eq p1 p2 p3] at q qe
     refine ⟨by decide,fun P0 hP0=>?_⟩
     obtain ⟨H5,qH5,s5,e5⟩:=new_at (o:=.lst []) hP0
     rw [←qH5]
     refine g_in ?_
     try dsimp only
     have w5:=w4.same s5
     have b25:=b24.trans (Bt.same w4.live s5)
     have n0:P0≠w:=fun z=>w4.live (by rw [←z]; exact hP0)
     obtain ⟨dx5,_,_,_,f5,_⟩:=w5.ex
     refine seq_cut (fun σ' H'=>∃ P1 as ts v4,innerP (prsI d) v3=some (ts,v4)∧σ'=[some (.ref w),some (.int b),some (.str r),some (.str nm),some (.ref P1)]∧Bt w H H'∧WdR K H' w v4∧rmv H' w P1=some (.lst (as.map V.ref))∧TresF K (fun x=>H x=none) (rmv H' w) as ts) ?_ (fun NN hNN=>?_)
     case refine_2 =>
      refine ⟨_,rfl,w,dx5,_,rfl,f5,rfl,w,v3,rfl,w5,scal_head _ _,_,rfl,?_⟩
      by_cases hh:v3.head?=some (")" : Str)
      · have p4:innerP (prsI d) v3=some ([],v3):=if_pos hh
        rw [show headV v3=.str (")" : Str) by rw [head_cons hh]; rfl,decide_eq_true rfl]
        refine iteF ?_
        exact hNN _ _ ⟨P0,[],[],v3,p4,rfl,b25,w5,by rw [rmv_ne n0]; exact e5,.nil⟩
      · have p4:innerP (prsI d) v3=itemsP (prsI d) v3:=if_neg hh
        rw [decide_eq_false (headV_ne hh)]
        refine iteT ?_
        refine ⟨_,rfl,_,rfl,_,_,rfl,rfl,w,_,d,v3,rfl,by omega,hd,w5,fun ts v4 p5 P1 as H6 b6 w6 e6 hP1 h6=>?_,fun p5 H6 b6=>qe (by rw [p4,p5]) H6 (b25.trans b6)⟩
        exact hNN _ _ ⟨P1,as,ts,v4,p4.trans p5,rfl,b25.trans b6,w6,e6,h6.keeps (Same.refl _).toKeeps (fun _ _ z=>z) fun x z=>(b25.free w5.live z.1)⟩
     rintro σ' H6 ⟨P1,as,ts,v4,p4,rfl,b6,w6,e6,h6⟩
     rw [p4] at q qe
     have q:∀ t rem',(match skipP (")" : Str) v4 with
             | none=>none
             | some w5=>some (Tre.node r nm ts,w5))=some (t,rem')→_:=q
     have qe : (match skipP (")" : Str) v4 with
             | none=>none
             | some w5=>some (Tre.node r nm ts,w5))=none→_:=qe
     obtain ⟨dx6,_,_,_,f6,_⟩:=w6.ex
     refine ⟨_,rfl,w,dx6,_,rfl,f6,rfl,w,_,v4,rfl,w6,fun rem' p5 H7 b7 w7=>?_,fun p5 H7 b7=>qe (by rw [p5]) H7 (b6.trans b7)⟩
     have e7:=(rmv_get (b7.s _ _ e6)).2
     have b27:=b6.trans b7
     refine ⟨_,rfl,_,rfl,_,rfl,fun x dx hx hdx hne=>⟨x,dx,P1,_,_,as.map V.ref,rfl,upd_same,?_,fun l' H8 fl ex el' k=>⟨rfl,?_⟩⟩⟩
     · rw [upd_ne (ne_of_none e7 hx),upd_ne (ne_of_none e7 hdx)]; exact e7
     have s8:Same H7 H8:=fun b o e=>k b o (ne_of_none e hx) (by rw [upd_ne (ne_of_none e hx),upd_ne (ne_of_none e hdx)]; exact e)
     have fl7:H7 l'=none:=(fresh_ins hx hdx).free fl
     have nx:x≠w:=fun z=>w7.live (by rw [←z]; exact hx)
     have nl:l'≠w:=fun z=>w7.live (by rw [←z]; exact fl7)
     have b8:Bt w H7 H8:=Bt.same w7.live s8
     exact q (.node r nm ts) rem' (by rw [p5]) x H8 (b27.trans b8) (w7.same s8) (.node (by rw [rmv_ne nx]; exact ex) (by rw [rmv_ne nl]; exact el') (b27.free w7.live fl7) ((h6.same b7.s).same b8.s))
theorem call_read_part {f:Addr} {fd:FuncData} {n:Nat} (B:Blt mg) (ER:Ers K mg) (c_taken_reach:CalleeE P w K mg base "taken_reach" 3 ["words"] (sp_taken_reach K)) (c_taken_name:CalleeE P w K mg base "taken_name" 3 ["words"] (sp_taken_name K)) (c_Words_skip:CalleeME P w K mg base (clsA K "Words") "skip" 3 ["self", "due"] (sp_Words_skip K)) (c_Words_ahead:CalleeM P w K mg base (clsA K "Words") "ahead" 1 ["self"] (sp_Words_ahead K)) (c_read_items_n:CalleeE P w K mg base "read_items" (5 + 3 * n) ["words", "brackets"] (spn_read_items K n)) (c_Part__init__:CalleeN P w K mg base (clsA K "Part") 1 ["self", "reach", "name", "items"] [] (sp_Part__init__ K)) (F:Fun K "read_part" "read_part" s_read_part f fd) (hm:mg "read_part" = some (.ref f)):CalleeE P w K mg base "read_part" (5 + 3 * n + 1) ["words", "brackets"] (spn_read_part K n) :=
 ⟨f,fd,ok_read_part B ER c_taken_reach c_taken_name c_Words_skip c_Words_ahead c_read_items_n c_Part__init__ F,hm,F.kp,F.binds fun _ _ _ _ _ _ us hl=>(by obtain ⟨x0,x1,rfl⟩:=len_2 hl; rfl)⟩
def spn_read_item (K:PySem.W.Frag) (n:Nat):Sp:=fun vs H Q E=>∃ (w:Addr) (b:Int) (d:Nat) (rem:List Str),vs=[.ref w,.int b]∧b + (d:Int)=31∧d≤n∧WdR K H w rem∧(∀ t rem',prsI d rem=some (t,rem')→∀ (a:Addr) (H':Hp),Bt w H H'→WdR K H' w rem'→TreF K (fun x=>H x=none) (rmv H' w) a t→Q (.ref a) H')∧(prsI d rem=none→∀ H',Bt w H H'→E (.ref (clsA K "NoText")) none H')
theorem ok_read_item {f:Addr} {fd:FuncData} {n:Nat} (B:Blt mg) (ER:Ers K mg) (c_Words_taken:CalleeME P w K mg base (clsA K "Words") "taken" 2 ["self"] (sp_Words_taken K)) (c_read_part_n:CalleeE P w K mg base "read_part" (5 + 3 * n + 1) ["words", "brackets"] (spn_read_part K n)) (c_taken_reach:CalleeE P w K mg base "taken_reach" 3 ["words"] (sp_taken_reach K)) (c_taken_name:CalleeE P w K mg base "taken_name" 3 ["words"] (sp_taken_name K)) (c_Thing__init__:CalleeN P w K mg base (clsA K "Thing") 1 ["self", "reach", "name", "of"] [] (sp_Thing__init__ K)) (c_taken_sort:CalleeE P w K mg base "taken_sort" 4 ["words"] (sp_taken_sort K)) (c_Let__init__:CalleeN P w K mg base (clsA K "Let") 1 ["self", "name", "of"] [] (sp_Let__init__ K)) (c_Elder__init__:CalleeN P w K mg base (clsA K "Elder") 1 ["self", "path"] [] (sp_Elder__init__ K)) (c_read_path:CalleeE P w K mg base "read_path" 2 ["word"] (sp_read_path K)) (c_read_all:CalleeE P w K mg base "read_all" 3 ["words"] (sp_read_all K)) (c_Words_skip:CalleeME P w K mg base (clsA K "Words") "skip" 3 ["self", "due"] (sp_Words_skip K)) (c_One__init__:CalleeN P w K mg base (clsA K "One") 1 ["self", "reach", "name", "path"] [] (sp_One__init__ K)) (c_Ask__init__:CalleeN P w K mg base (clsA K "Ask") 1 ["self", "path"] [] (sp_Ask__init__ K)) (F:Fun K "read_item" "read_item" s_read_item f fd):FnOk P w K mg base (CXE P w) (5 + 3 * n + 2) f fd ["words", "brackets"] (spn_read_item K n):=by
 refine F.okE sc_read_item (fun vs H Q E h=>?_) (fun cdv A outer s H vs Q E hr h=>?_)
 · obtain ⟨w,b,d,rem,rfl,_⟩:=h
   rfl
 · obtain ⟨w,b,d,rem,rfl,hb,hd,hw,q,qe⟩:=h
   obtain ⟨dx,_,_,_,f1,_⟩:=hw.ex
   refine ⟨_,(pss_cons (ps_set (i:=2) sc_read_item.nd (pe_mth0E c_Words_taken throws_cx ER.cl_Words (hr.mono (by omega)) (pv 0)))
    (pss_cons (ps_if (pt_cmpR op_eq (pv 2) pe_str (nomark _)) (pss_one (ps_ret (pe_fnE c_read_part_n throws_cx (hr.mono (by omega)) rfl (pa_cons (pv 0) (pa_cons (pv 1) pa_nil))))) pss_nil)
    (pss_cons (ps_if (pt_cmpR op_eq (pv 2) pe_str (nomark _)) (pss_cons (ps_set (i:=3) sc_read_item.nd (pe_fnE c_taken_reach throws_cx (hr.mono (by omega)) rfl (pa_cons (pv 0) pa_nil)))
     (pss_cons (ps_set (i:=4) sc_read_item.nd (pe_fnE c_taken_name throws_cx (hr.mono (by omega)) rfl (pa_cons (pv 0) pa_nil)))
     (pss_one (ps_ret (pe_mk c_Thing__init__ (hr.mono (by omega)) rfl ER.e_Thing .nil (pa_cons (pv 3) (pa_cons (pv 4) (pa_cons (pe_fnE c_taken_sort throws_cx (hr.mono (by omega)) rfl (pa_cons (pv 0) pa_nil)) pa_nil)))))))) pss_nil)
    (pss_cons (ps_if (pt_cmpR op_eq (pv 2) pe_str (nomark _)) (pss_cons (ps_set (i:=4) sc_read_item.nd (pe_fnE c_taken_name throws_cx (hr.mono (by omega)) rfl (pa_cons (pv 0) pa_nil)))
     (pss_one (ps_ret (pe_mk c_Let__init__ (hr.mono (by omega)) rfl ER.e_Let .nil (pa_cons (pv 4) (pa_cons (pe_fnE c_taken_sort throws_cx (hr.mono (by omega)) rfl (pa_cons (pv 0) pa_nil)) pa_nil)))))) pss_nil)
    (pss_cons (ps_if (pt_cmpR op_eq (pv 2) pe_str (nomark _)) (pss_one (ps_ret (pe_mk c_Elder__init__ (hr.mono (by omega)) rfl ER.e_Elder .nil (pa_cons (pe_fnE c_read_path throws_cx (hr.mono (by omega)) rfl (pa_cons (pe_mth0E c_Words_taken throws_cx ER.cl_Words (hr.mono (by omega)) (pv 0)) pa_nil)) pa_nil)))) pss_nil)
    (pss_cons (ps_if (pt_cmpR op_eq (pv 2) pe_str (nomark _)) (pss_one (ps_ret (pe_fnE c_read_all throws_cx (hr.mono (by omega)) rfl (pa_cons (pv 0) pa_nil)))) pss_nil)
    (pss_cons (ps_if (pt_cmpR op_eq (pv 2) pe_str (nomark _)) (pss_cons (ps_set (i:=3) sc_read_item.nd (pe_fnE c_taken_reach throws_cx (hr.mono (by omega)) rfl (pa_cons (pv 0) pa_nil)))
     (pss_cons (ps_set (i:=4) sc_read_item.nd (pe_fnE c_taken_name throws_cx (hr.mono (by omega)) rfl (pa_cons (pv 0) pa_nil)))
     (pss_cons (ps_expr (pe_mthE c_Words_skip throws_cx ER.cl_Words (hr.mono (by omega)) (pv 0) (pa_cons pe_str pa_nil)))
     (pss_one (ps_ret (pe_mk c_One__init__ (hr.mono (by omega)) rfl ER.e_One .nil (pa_cons (pv 3) (pa_cons (pv 4) (pa_cons (pe_fnE c_read_path throws_cx (hr.mono (by omega)) rfl (pa_cons (pe_mth0E c_Words_taken throws_cx ER.cl_Words (hr.mono (by omega)) (pv 0)) pa_nil)) pa_nil))))))))) pss_nil)
    (pss_cons (ps_if (pt_cmpR op_eq (pv 2) pe_str (nomark _)) (pss_one (ps_ret (pe_mk c_Ask__init__ (hr.mono (by omega)) rfl ER.e_Ask .nil (pa_cons (pe_fnE c_read_path throws_cx (hr.mono (by omega)) rfl (pa_cons (pe_mth0E c_Words_taken throws_cx ER.cl_Words (hr.mono (by omega)) (pv 0)) pa_nil)) pa_nil)))) pss_nil)
    (pss_one (ps_raise throws_cx rfl ER.k_NoText rfl (pa_cons pe_str pa_nil))))))))))),?_⟩
   rw [prsD] at q qe
   refine ⟨_,rfl,w,dx,_,rfl,f1,rfl,w,rem,rfl,hw,fun y rs er H2 b2 w2=>?_,fun er H2 b2=>qe (by rw [er]; rfl) H2 b2⟩
   subst er
   rw [itemP] at q qe
   refine g_in ?_
   try dsimp only
   obtain ⟨dx2,_,_,_,f2,_⟩:=w2.ex
   refine ⟨_,rfl,rfl,_,rfl,ite2 (fun e=>?_) (fun e=>?_)⟩
   · rw [if_pos (V.str.inj (of_decide_eq_true e))] at q qe
     refine ⟨_,rfl,_,rfl,w,b,d,rs,rfl,hb,hd,w2,fun t rem' hp a H3 b3 w3 ht=>?_,fun hp H3 b3=>qe hp H3 (b2.trans b3)⟩
     exact q t rem' hp a H3 (b2.trans b3) w3 (ht.keeps (Same.refl _).toKeeps (fun _ _ z=>z) fun x z=>b2.free w2.live z)
   rw [if_neg (fun z=>e (decide_eq_true (by rw [z])))] at q qe
   refine ⟨_,rfl,rfl,_,rfl,ite2 (fun e=>?_) (fun e=>?_)⟩
   · rw [if_pos (V.str.inj (of_decide_eq_true e))] at q qe
     unfold thingP at q qe
     refine ⟨_,rfl,w,rs,rfl,w2,fun r v1 p1 H3 b3 w3=>?_,fun p1 H3 b3=>qe (by rw [p1]) H3 (b2.trans b3)⟩
     simp only [p1] at q qe
     refine g_in ?_
     try dsimp only
     refine ⟨_,rfl,w,v1,rfl,w3,fun nm v2 p2 H4 b4 w4=>?_,fun p2 H4 b4=>qe (by rw [p2]) H4 ((b2.trans b3).trans b4)⟩
     simp only [p2] at q qe
     refine g_in ?_
     try dsimp only
     refine ⟨_,rfl,_,rfl,_,rfl,w,v2,rfl,w4,fun o rem' p3 v H5 b5 w5 hv=>?_,fun p3 H5 b5=>qe (by rw [p3]) H5 ((b2.trans b3).trans (b4.trans b5))⟩
     refine fun a da ha hda hne=>⟨a,da,_,_,_,rfl,upd_same,rfl,?_⟩
     rw [upd_upd]
     obtain ⟨b6,e6⟩:=bt_ins (o:=.own a) (o':=.ins (clsA K "Thing") da [(("reach" : Str),V.str r),(("name" : Str),V.str nm),(("of" : Str),v)]) w5.live ha hda
     exact q (.leaf (.thing r nm o)) rem' (by rw [p3]) a _ (((b2.trans b3).trans (b4.trans b5)).trans b6) (w5.same (fresh_ins ha hda)) (.leaf trivial ⟨da,v,e6,hv.same b6.s⟩)
   rw [if_neg (fun z=>e (decide_eq_true (by rw [z])))] at q qe
   refine ⟨_,rfl,rfl,_,rfl,ite2 (fun e=>?_) (fun e=>?_)⟩
   · rw [if_pos (V.str.inj (of_decide_eq_true e))] at q qe
     unfold letP at q qe
     refine ⟨_,rfl,w,rs,rfl,w2,fun nm v2 p2 H4 b4 w4=>?_,fun p2 H4 b4=>qe (by rw [p2]) H4 (b2.trans b4)⟩
     simp only [p2] at q qe
     refine g_in ?_
     try dsimp only
     refine ⟨_,rfl,_,rfl,w,v2,rfl,w4,fun o rem' p3 v H5 b5 w5 hv=>?_,fun p3 H5 b5=>qe (by rw [p3]) H5 (b2.trans (b4.trans b5))⟩
     refine fun a da ha hda hne=>⟨a,da,_,_,rfl,upd_same,rfl,?_⟩
     rw [upd_upd]
     obtain ⟨b6,e6⟩:=bt_ins (o:=.own a) (o':=.ins (clsA K "Let") da [(("name" : Str),V.str nm),(("of" : Str),v)]) w5.live ha hda
     exact q (.leaf (.lett nm o)) rem' (by rw [p3]) a _ ((b2.trans (b4.trans b5)).trans b6) (w5.same (fresh_ins ha hda)) (.leaf trivial ⟨da,v,e6,hv.same b6.s⟩)
   rw [if_neg (fun z=>e (decide_eq_true (by rw [z])))] at q qe
   refine ⟨_,rfl,rfl,_,rfl,ite2 (fun e=>?_) (fun e=>?_)⟩
   · rw [if_pos (V.str.inj (of_decide_eq_true e))] at q qe
     unfold elderP at q qe
     refine ⟨_,rfl,w,dx2,_,rfl,f2,rfl,w,rs,rfl,w2,fun x rem' ex H4 b4 w4=>?_,fun ex H4 b4=>qe (by rw [ex]; rfl) H4 (b2.trans b4)⟩
     subst ex
     refine ⟨x,rfl,w2.long x (by simp),fun p hpo u H5 s5 eu=>?_,fun hpo H5 s5=>qe (by rw [pathP,hpo]) H5 ((b2.trans b4).trans (Bt.same w4.live s5))⟩
     have w5:=w4.same s5
     have nu:u≠w:=fun z=>by
      obtain ⟨_,_,_,_,k1,_⟩:=w5.ex
      rw [z,k1] at eu; cases eu
     refine fun a da ha hda hne=>⟨a,da,_,rfl,upd_same,rfl,?_⟩
     rw [upd_upd]
     obtain ⟨b6,e6⟩:=bt_ins (o:=.own a) (o':=.ins (clsA K "Elder") da [(("path" : Str),V.ref u)]) w5.live ha hda
     exact q (.leaf (.elder p)) rem' (by rw [pathP,hpo]) a _ ((b2.trans b4).trans ((Bt.same w4.live s5).trans b6)) (w5.same (fresh_ins ha hda)) (.leaf trivial ⟨da,_,e6,u,rfl,b6.s _ _ (by rw [rmv_ne nu]; exact eu)⟩)
   rw [if_neg (fun z=>e (decide_eq_true (by rw [z])))] at q qe
   refine ⟨_,rfl,rfl,_,rfl,ite2 (fun e=>?_) (fun e=>?_)⟩
   · rw [if_pos (V.str.inj (of_decide_eq_true e))] at q qe
     refine ⟨_,rfl,w,rs,rfl,w2,fun t rem' hp a H3 b3 w3 ht=>?_,fun hp H3 b3=>qe hp H3 (b2.trans b3)⟩
     exact q t rem' hp a H3 (b2.trans b3) w3 (ht.keeps (Same.refl _).toKeeps (fun _ _ z=>z) fun x z=>b2.free w2.live z)
   rw [if_neg (fun z=>e (decide_eq_true (by rw [z])))] at q qe
   refine ⟨_,rfl,rfl,_,rfl,ite2 (fun e=>?_) (fun e=>?_)⟩
   · rw [if_pos (V.str.inj (of_decide_eq_true e))] at q qe
     unfold oneP at q qe
     refine ⟨_,rfl,w,rs,rfl,w2,fun r v1 p1 H3 b3 w3=>?_,fun p1 H3 b3=>qe (by rw [p1]) H3 (b2.trans b3)⟩
     simp only [p1] at q qe
     refine g_in ?_
     try dsimp only
     refine ⟨_,rfl,w,v1,rfl,w3,fun nm v2 p2 H4 b4 w4=>?_,fun p2 H4 b4=>qe (by rw [p2]) H4 ((b2.trans b3).trans b4)⟩
     simp only [p2] at q qe
     refine g_in ?_
     try dsimp only
     obtain ⟨dx4,_,_,_,f4,_⟩:=w4.ex
     refine ⟨_,rfl,w,dx4,_,rfl,f4,rfl,w,_,v2,rfl,w4,fun v3 p3 H5 b5 w5=>?_,fun p3 H5 b5=>qe (by rw [p3]) H5 ((b2.trans b3).trans (b4.trans b5))⟩
     simp only [p3] at q qe
     obtain ⟨dx5,_,_,_,f5,_⟩:=w5.ex
     refine ⟨_,rfl,_,rfl,_,rfl,w,dx5,_,rfl,f5,rfl,w,v3,rfl,w5,fun x rem' ex H6 b6 w6=>?_,fun ex H6 b6=>qe (by rw [ex]; rfl) H6 (((b2.trans b3).trans (b4.trans b5)).trans b6)⟩
     subst ex
     refine ⟨x,rfl,w5.long x (by simp),fun p hpo u H7 s7 eu=>?_,fun hpo H7 s7=>qe (by rw [pathP,hpo]) H7 (((b2.trans b3).trans (b4.trans b5)).trans (b6.trans (Bt.same w6.live s7)))⟩
     have w7:=w6.same s7
     have nu:u≠w:=fun z=>by
      obtain ⟨_,_,_,_,k1,_⟩:=w7.ex
      rw [z,k1] at eu; cases eu
     refine fun a da ha hda hne=>⟨a,da,_,_,_,rfl,upd_same,rfl,?_⟩
     rw [upd_upd]
     obtain ⟨b8,e8⟩:=bt_ins (o:=.own a) (o':=.ins (clsA K "One") da [(("reach" : Str),V.str r),(("name" : Str),V.str nm),(("path" : Str),V.ref u)]) w7.live ha hda
     exact q (.leaf (.one r nm p)) rem' (by rw [pathP,hpo]) a _ (((b2.trans b3).trans (b4.trans b5)).trans (b6.trans ((Bt.same w6.live s7).trans b8))) (w7.same (fresh_ins ha hda)) (.leaf trivial ⟨da,_,e8,u,rfl,b8.s _ _ (by rw [rmv_ne nu]; exact eu)⟩)
   rw [if_neg (fun z=>e (decide_eq_true (by rw [z])))] at q qe
   refine ⟨_,rfl,rfl,_,rfl,ite2 (fun e=>?_) (fun e=>?_)⟩
   · rw [if_pos (V.str.inj (of_decide_eq_true e))] at q qe
     unfold askP at q qe
     refine ⟨_,rfl,w,dx2,_,rfl,f2,rfl,w,rs,rfl,w2,fun x rem' ex H4 b4 w4=>?_,fun ex H4 b4=>qe (by rw [ex]; rfl) H4 (b2.trans b4)⟩
     subst ex
     refine ⟨x,rfl,w2.long x (by simp),fun p hpo u H5 s5 eu=>?_,fun hpo H5 s5=>qe (by rw [pathP,hpo]) H5 ((b2.trans b4).trans (Bt.same w4.live s5))⟩
     have w5:=w4.same s5
     have nu:u≠w:=fun z=>by
      obtain ⟨_,_,_,_,k1,_⟩:=w5.ex
      rw [z,k1] at eu; cases eu
     refine fun a da ha hda hne=>⟨a,da,_,rfl,upd_same,rfl,?_⟩
     rw [upd_upd]
     obtain ⟨b6,e6⟩:=bt_ins (o:=.own a) (o':=.ins (clsA K "Ask") da [(("path" : Str),V.ref u)]) w5.live ha hda
     exact q (.leaf (.ask p)) rem' (by rw [pathP,hpo]) a _ ((b2.trans b4).trans ((Bt.same w4.live s5).trans b6)) (w5.same (fresh_ins ha hda)) (.leaf trivial ⟨da,_,e6,u,rfl,b6.s _ _ (by rw [rmv_ne nu]; exact eu)⟩)
   rw [if_neg (fun z=>e (decide_eq_true (by rw [z])))] at q qe
   exact ⟨one_le,qe rfl _ b2⟩
theorem call_read_item {f:Addr} {fd:FuncData} {n:Nat} (B:Blt mg) (ER:Ers K mg) (c_Words_taken:CalleeME P w K mg base (clsA K "Words") "taken" 2 ["self"] (sp_Words_taken K)) (c_read_part_n:CalleeE P w K mg base "read_part" (5 + 3 * n + 1) ["words", "brackets"] (spn_read_part K n)) (c_taken_reach:CalleeE P w K mg base "taken_reach" 3 ["words"] (sp_taken_reach K)) (c_taken_name:CalleeE P w K mg base "taken_name" 3 ["words"] (sp_taken_name K)) (c_Thing__init__:CalleeN P w K mg base (clsA K "Thing") 1 ["self", "reach", "name", "of"] [] (sp_Thing__init__ K)) (c_taken_sort:CalleeE P w K mg base "taken_sort" 4 ["words"] (sp_taken_sort K)) (c_Let__init__:CalleeN P w K mg base (clsA K "Let") 1 ["self", "name", "of"] [] (sp_Let__init__ K)) (c_Elder__init__:CalleeN P w K mg base (clsA K "Elder") 1 ["self", "path"] [] (sp_Elder__init__ K)) (c_read_path:CalleeE P w K mg base "read_path" 2 ["word"] (sp_read_path K)) (c_read_all:CalleeE P w K mg base "read_all" 3 ["words"] (sp_read_all K)) (c_Words_skip:CalleeME P w K mg base (clsA K "Words") "skip" 3 ["self", "due"] (sp_Words_skip K)) (c_One__init__:CalleeN P w K mg base (clsA K "One") 1 ["self", "reach", "name", "path"] [] (sp_One__init__ K)) (c_Ask__init__:CalleeN P w K mg base (clsA K "Ask") 1 ["self", "path"] [] (sp_Ask__init__ K)) (F:Fun K "read_item" "read_item" s_read_item f fd) (hm:mg "read_item" = some (.ref f)):CalleeE P w K mg base "read_item" (5 + 3 * n + 2) ["words", "brackets"] (spn_read_item K n) :=
 ⟨f,fd,ok_read_item B ER c_Words_taken c_read_part_n c_taken_reach c_taken_name c_Thing__init__ c_taken_sort c_Let__init__ c_Elder__init__ c_read_path c_read_all c_Words_skip c_One__init__ c_Ask__init__ F,hm,F.kp,F.binds fun _ _ _ _ _ _ us hl=>(by obtain ⟨x0,x1,rfl⟩:=len_2 hl; rfl)⟩
theorem ok_read_items {f:Addr} {fd:FuncData} {n:Nat} (B:Blt mg) (ER:Ers K mg) (c_read_item_n:CalleeE P w K mg base "read_item" (5 + 3 * n + 2) ["words", "brackets"] (spn_read_item K n)) (c_Words_ahead:CalleeM P w K mg base (clsA K "Words") "ahead" 1 ["self"] (sp_Words_ahead K)) (c_Words_skip:CalleeME P w K mg base (clsA K "Words") "skip" 3 ["self", "due"] (sp_Words_skip K)) (F:Fun K "read_items" "read_items" s_read_items f fd):FnOk P w K mg base (CXE P w) (5 + 3 * n + 3) f fd ["words", "brackets"] (spn_read_items K (n + 1)):=by
 refine F.okE sc_read_items (fun vs H Q E h=>?_) (fun cdv A outer s H vs Q E hr h=>?_)
 · obtain ⟨w,b,d,rem,rfl,_⟩:=h
   rfl
 · obtain ⟨w,b,d,rem,rfl,hb,hd,hw,q,qe⟩:=h
   unfold itemsP at q qe
   refine ⟨_,(pss_cons (ps_set (i:=2) sc_read_items.nd (pe_lst (pa_cons (pe_fnE c_read_item_n throws_cx (hr.mono (by omega)) rfl (pa_cons (pv 0) (pa_cons (pv 1) pa_nil))) pa_nil)))
    (pss_cons (ps_while PassesOwn.«leaving» (pt_cmpR op_eq (pe_mth0 c_Words_ahead ER.cl_Words (hr.mono (by omega)) (pv 0)) pe_str (nomark _)) (pss_cons (ps_expr (pe_mthE c_Words_skip throws_cx ER.cl_Words (hr.mono (by omega)) (pv 0) (pa_cons pe_str pa_nil)))
     (pss_one (ps_expr (pe_bm PySem.F.plainAttrs_list PySem.F.slot_list_append PySem.F.type_list_append mr_append (pv 2) (pa_cons (pe_fnE c_read_item_n throws_cx (hr.mono (by omega)) rfl (pa_cons (pv 0) (pa_cons (pv 1) pa_nil))) pa_nil))))))
    (pss_one (ps_ret (pv 2))))),?_⟩
   refine ⟨_,rfl,_,rfl,w,b,d,rem,rfl,hb,by omega,hw,fun t v1 p1 a H2 b2 w2 ht=>?_,fun p1 H2 b2=>qe (by rw [p1]) H2 b2⟩
   simp only [p1] at q qe
   have hv1:v1.length≤1000:=by
    obtain ⟨_,_,ws,i,_,_,e3,_,h5,_⟩:=hw.ex
    have:=prsI_le _ _ _ _ p1
    have:=congrArg List.length e3
    rw [List.length_drop] at this
    omega
   refine ⟨one_le,fun P hP=>?_⟩
   obtain ⟨H3,qH3,s3,e3⟩:=new_at (o:=.lst [.ref a]) hP
   rw [←qH3]
   refine g_in ?_
   try dsimp only
   have w3:=w2.same s3
   have b3:=b2.trans (Bt.same w2.live s3)
   have nP:P≠w:=fun z=>w2.live (by rw [←z]; exact hP)
   have fP:H P=none:=b2.free w2.live hP
   have ht3:TreF K (fun x=>H x=none∧x≠P) (rmv H3 w) a t:=ht.live.keeps (Bt.same w2.live s3).s.toKeeps (fun _ _ z=>z) fun x z=>⟨z.1,fun y=>z.2 (by rw [y,rmv_ne nP]; exact hP)⟩
   refine ⟨fun m σ H'=>∃ (n:Nat) (v:List Str) (as:List Addr) (ds:List Tre),σ=[some (.ref w),some (.int b),some (.ref P)]∧m=n∧v.length≤n∧ds.length + v.length≤v1.length + 1∧(∀ us rem',moreP (prsI d) n v=some (us,rem')→(match moreP (prsI d) v1.length v1 with
         | none=>none
         | some (ts,w2)=>some (t :: ts,w2))=some (ds++us,rem'))∧(moreP (prsI d) n v=none→(match moreP (prsI d) v1.length v1 with
         | none=>none
         | some (ts,w2)=>some (t :: ts,w2))=none)∧Bt w H H'∧WdR K H' w v∧rmv H' w P=some (.lst (as.map V.ref))∧TresF K (fun x=>H x=none∧x≠P) (rmv H' w) as ds,⟨_,_,v1,[a],[t],rfl,rfl,Nat.le_refl _,by simp [Nat.add_comm],fun us rem' p2=>by rw [p2]; rfl,fun p2=>by rw [p2],b3,w3,by rw [rmv_ne nP]; exact e3,.cons ht3 .nil⟩,?_⟩
   rintro m σ H4 ⟨n,v,as,ds,rfl,rfl,hn,hds,py,pn,b4,w4,e4,h4⟩
   obtain ⟨dx4,_,_,_,f4,_⟩:=w4.ex
   refine ⟨_,rfl,w,dx4,_,rfl,f4,rfl,w,v,rfl,w4,scal_head _ _,_,rfl,?_⟩
   by_cases hh:v.head?=some (";" : Str)
   rotate_left
   · rw [decide_eq_false (headV_ne hh)]
     refine iteF ?_
     have pm:moreP (prsI d) m v=some ([],v):=by
      cases m with
      | zero=>rw [moreP]
      | succ n=>rw [moreP,if_neg hh]
     have py:=py _ _ pm
     rw [List.append_nil] at py
     exact ⟨_,rfl,q ds v py P as H4 b4 w4 e4 fP h4⟩
   have er:=head_cons hh
   rw [show headV v=.str (";" : Str) by rw [er]; rfl,decide_eq_true rfl]
   refine iteT ?_
   cases m with
   | zero =>
     rw [er] at hn
     exact absurd hn (Nat.not_succ_le_zero _)
   | succ n =>
     rw [moreP,if_pos hh] at py pn
     refine ⟨fun σ' H'=>∃ as' t2 v2,prsI d v.tail=some (t2,v2)∧σ'=[some (.ref w),some (.int b),some (.ref P)]∧Bt w H H'∧WdR K H' w v2∧rmv H' w P=some (.lst (as'.map V.ref))∧TresF K (fun x=>H x=none∧x≠P) (rmv H' w) as' (ds++[t2]),?_,?_⟩
     · rintro σ' H' ⟨as',t2,v2,p3,rfl,b',w',e',h'⟩
       have l2:=prsI_le _ _ _ _ p3
       rw [List.length_tail] at l2
       simp only [p3] at py pn
       have hvp:0 < v.length:=by rw [er]; exact Nat.succ_pos _
       exact ⟨n,Nat.lt_succ_self _,n,v2,as',ds++[t2],rfl,rfl,by omega,by rw [List.length_append]; show ds.length + 1 + _≤_; omega,fun us rem' p4=>by rw [List.append_assoc]; exact py (t2 :: us) rem' (by rw [p4]),fun p4=>pn (by rw [p4]),b',w',e',h'⟩
     have hsk:skipP (";" : Str) v=some v.tail:=by rw [er]; exact skipP_ok _ _
     refine ⟨_,rfl,w,dx4,_,rfl,f4,rfl,w,_,v,rfl,w4,fun r2 er2 H5 b5 w5=>?_,fun er2=>by rw [hsk] at er2; cases er2⟩
     rw [hsk] at er2
     have er2:=Option.some.inj er2
     subst er2
     have e5:=b5.s _ _ e4
     refine ⟨_,rfl,Or.inl ⟨rfl,_,SqL.of (rmv_get e5).2⟩,_,rfl,_,rfl,w,b,d,v.tail,rfl,hb,by omega,w5,fun t2 v2 p3 a2 H6 b6 w6 ht2=>?_,fun p3 H6 b6=>qe (pn (by rw [p3])) H6 ((b4.trans b5).trans b6)⟩
     have e6:=b6.s _ _ e5
     have hlen:as.length≤1001:=by
      have q1:=h4.len
      omega
     refine ⟨P,_,_,rfl,rfl,(rmv_get e6).2,by rw [List.length_map]; exact Nat.lt_of_le_of_lt hlen (by decide),?_⟩
     have k7:Keeps (·=P) (rmv H6 w) (rmv (upd H6 P (.lst (as.map V.ref++[.ref a2]))) w):=⟨fun x o h hn=>by
      obtain ⟨z,h⟩:=rmv_get h
      rw [rmv_ne z,upd_ne hn]; exact h,fun x o hm h=>by
      rw [hm,e6] at h; exact ⟨_,(Option.some.inj h).symm⟩⟩
     have b46:=b5.trans b6
     have F6:TresF K (fun x=>H x=none∧x≠P) (rmv H6 w) as ds:=h4.same b46.s
     have T6:TreF K (fun x=>H x=none∧x≠P) (rmv H6 w) a2 t2:=ht2.keeps (Same.refl _).toKeeps (fun _ _ z=>z) fun x z=>⟨(b4.trans b5).free w5.live z,fun y=>by rw [y,(rmv_get e5).2] at z; cases z⟩
     have nPL:P≠wlOf H6 w:=fun z=>by
      obtain ⟨ys,ey⟩:=hw.wl
      rw [(b4.trans b46).l] at z
      rw [←z,fP] at ey; cases ey
     obtain ⟨w7,l7⟩:=w6.keep (o:=.lst (as.map V.ref++[.ref a2])) nP nPL
     refine ⟨as++[a2],t2,v2,p3,rfl,⟨?_,l7.trans (b4.trans b46).l⟩,w7,by rw [rmv_ne nP,upd_same,List.map_append]; rfl,TresF.snoc (T6.keeps k7 (fun x z m=>z.2 m) fun x z=>z) (F6.keeps k7 (fun x z m=>z.2 m) fun x z=>z)⟩
     intro x o h
     exact k7.at_ x o ((b4.trans b46).s x o h) fun m=>by
      obtain ⟨z,h⟩:=rmv_get h
      rw [m,fP] at h; cases h
theorem call_read_items {f:Addr} {fd:FuncData} {n:Nat} (B:Blt mg) (ER:Ers K mg) (c_read_item_n:CalleeE P w K mg base "read_item" (5 + 3 * n + 2) ["words", "brackets"] (spn_read_item K n)) (c_Words_ahead:CalleeM P w K mg base (clsA K "Words") "ahead" 1 ["self"] (sp_Words_ahead K)) (c_Words_skip:CalleeME P w K mg base (clsA K "Words") "skip" 3 ["self", "due"] (sp_Words_skip K)) (F:Fun K "read_items" "read_items" s_read_items f fd) (hm:mg "read_items" = some (.ref f)):CalleeE P w K mg base "read_items" (5 + 3 * n + 3) ["words", "brackets"] (spn_read_items K (n + 1)) :=
 ⟨f,fd,ok_read_items B ER c_read_item_n c_Words_ahead c_Words_skip F,hm,F.kp,F.binds fun _ _ _ _ _ _ us hl=>(by obtain ⟨x0,x1,rfl⟩:=len_2 hl; rfl)⟩
abbrev sp_read_items (K:PySem.W.Frag):Sp:=spn_read_items K 32
theorem calln_read_items (B:Blt mg) (ER:Ers K mg) (c_taken_reach:CalleeE P w K mg base "taken_reach" 3 ["words"] (sp_taken_reach K)) (c_taken_name:CalleeE P w K mg base "taken_name" 3 ["words"] (sp_taken_name K)) (c_Words_skip:CalleeME P w K mg base (clsA K "Words") "skip" 3 ["self", "due"] (sp_Words_skip K)) (c_Words_ahead:CalleeM P w K mg base (clsA K "Words") "ahead" 1 ["self"] (sp_Words_ahead K)) (c_Part__init__:CalleeN P w K mg base (clsA K "Part") 1 ["self", "reach", "name", "items"] [] (sp_Part__init__ K)) (c_Words_taken:CalleeME P w K mg base (clsA K "Words") "taken" 2 ["self"] (sp_Words_taken K)) (c_Thing__init__:CalleeN P w K mg base (clsA K "Thing") 1 ["self", "reach", "name", "of"] [] (sp_Thing__init__ K)) (c_taken_sort:CalleeE P w K mg base "taken_sort" 4 ["words"] (sp_taken_sort K)) (c_Let__init__:CalleeN P w K mg base (clsA K "Let") 1 ["self", "name", "of"] [] (sp_Let__init__ K)) (c_Elder__init__:CalleeN P w K mg base (clsA K "Elder") 1 ["self", "path"] [] (sp_Elder__init__ K)) (c_read_path:CalleeE P w K mg base "read_path" 2 ["word"] (sp_read_path K)) (c_read_all:CalleeE P w K mg base "read_all" 3 ["words"] (sp_read_all K)) (c_One__init__:CalleeN P w K mg base (clsA K "One") 1 ["self", "reach", "name", "path"] [] (sp_One__init__ K)) (c_Ask__init__:CalleeN P w K mg base (clsA K "Ask") 1 ["self", "path"] [] (sp_Ask__init__ K)) {f0:Addr} {d0:FuncData} (F0:Fun K "read_part" "read_part" s_read_part f0 d0) (m0:mg "read_part" = some (.ref f0)) {f1:Addr} {d1:FuncData} (F1:Fun K "read_item" "read_item" s_read_item f1 d1) (m1:mg "read_item" = some (.ref f1)) {f2:Addr} {d2:FuncData} (F2:Fun K "read_items" "read_items" s_read_items f2 d2) (m2:mg "read_items" = some (.ref f2)) (n:Nat):CalleeE P w K mg base "read_items" (5 + 3 * n) ["words", "brackets"] (spn_read_items K n):=by
 induction n with
 | zero=>exact ⟨f2,d2,⟨fun vs H Q E h=>(by obtain ⟨_,_,_,_,_,_,hd,_⟩:=h; exact absurd hd (Nat.not_lt_zero _)),fun A outer s H args us vs Q E _ _ _ _ h=>(by obtain ⟨_,_,_,_,_,_,hd,_⟩:=h; exact absurd hd (Nat.not_lt_zero _))⟩,m2,F2.kp,F2.binds fun _ _ _ _ _ _ us hl=>(by obtain ⟨x0,x1,rfl⟩:=len_2 hl; rfl)⟩
 | succ n ih=>exact (call_read_items B ER (call_read_item B ER c_Words_taken (call_read_part B ER c_taken_reach c_taken_name c_Words_skip c_Words_ahead ih c_Part__init__ F0 m0) c_taken_reach c_taken_name c_Thing__init__ c_taken_sort c_Let__init__ c_Elder__init__ c_read_path c_read_all c_Words_skip c_One__init__ c_Ask__init__ F1 m1) c_Words_ahead c_Words_skip F2 m2)
def readO (x:Str):Option (List Tre):=if x=("" : Str) then some [] else match itemsP (prsI 31) (Txt.split x (" " : Str)) with
 | some (ts,[])=>some ts
 | _=>none
theorem isi_str {T:Ty} (h:T≠.str):isiB T .str=false:=by cases T <;> first | rfl | exact absurd rfl h
def sp_read (K:PySem.W.Frag):Sp:=fun vs H Q E=>(∃ v T,vs=[v]∧TyN K H v T∧T≠.str∧E (.ref (clsA K "NoText")) none H)∨(∃ (x:Str),vs=[.str x]∧x.length≤100000∧(x≠("" : Str)→(Txt.split x (" " : Str)).length≤1000∧∀ y∈Txt.split x (" " : Str),y.length≤1000)∧(∀ ts,readO x=some ts→∀ (P:Addr) (as:List Addr) (H':Hp),Same H H'→H P=none→H' P=some (.lst (as.map V.ref))→TresF K (fun x=>H x=none∧x≠P) H' as ts→Q (.ref P) H')∧(readO x=none→∀ H',Same H H'→E (.ref (clsA K "NoText")) none H'))
theorem ok_read (B:Blt mg) (ER:Ers K mg) (c_Words__init__:CalleeN P w K mg base (clsA K "Words") 1 ["self", "words"] [] (sp_Words__init__ K)) (c_read_items:CalleeE P w K mg base "read_items" 101 ["words", "brackets"] (sp_read_items K)) (c_Words_ahead:CalleeM P w K mg base (clsA K "Words") "ahead" 1 ["self"] (sp_Words_ahead K)) (F:Fun K "read" "read" s_read f fd):FnOk P w K mg base (CXE P w) 102 f fd ["text"] (sp_read K):=by
 refine F.okE sc_read (fun vs H Q E h=>?_) (fun cdv A outer s H vs Q E hr h=>?_)
 · rcases h with ⟨v,T,rfl,_⟩ | ⟨x,rfl,_⟩ <;> rfl
 · skip
   refine ⟨_,(pss_cons (ps_if (pt_not (pt_val (pe_callB call_isi B.b_isinstance (pa_cons (pv 0) (pa_cons (pe_ty "str" rfl B.b_str (by decide +kernel)) pa_nil))))) (pss_one (ps_raise throws_cx rfl ER.k_NoText rfl (pa_cons pe_str pa_nil))) pss_nil)
    (pss_cons (ps_if (pt_cmpR op_eq (pv 0) pe_str (nomark _)) (pss_one (ps_ret (pe_lst pa_nil))) pss_nil)
    (pss_cons (ps_set (i:=1) sc_read.nd (pe_mk c_Words__init__ (hr.mono (by decide)) rfl ER.e_Words .nil (pa_cons (pe_bm PySem.F.plainAttrs_str PySem.F.slot_str_split PySem.F.type_str_split mt_split (pv 0) (pa_cons pe_str pa_nil)) pa_nil)))
    (pss_cons (ps_set (i:=2) sc_read.nd (pe_fnE c_read_items throws_cx (hr.mono (by decide)) rfl (pa_cons (pv 1) (pa_cons pe_int pa_nil))))
    (pss_cons (ps_if (pt_cmp (pc_notN (pe_mth0 c_Words_ahead ER.cl_Words (hr.mono (by decide)) (pv 1)))) (pss_one (ps_raise throws_cx rfl ER.k_NoText rfl (pa_cons pe_str pa_nil))) pss_nil)
    (pss_one (ps_ret (pv 2)))))))),?_⟩
   rcases h with ⟨v,T,rfl,ty,hT,qe⟩ | ⟨x,rfl,hx,hc,q,qe⟩
   · refine ⟨_,rfl,_,.str,T,rfl,ty,_,rfl,?_⟩
     rw [isi_str hT]
     exact iteT ⟨one_le,qe⟩
   unfold readO at q qe
   refine ⟨_,rfl,_,.str,.str,rfl,.str x,_,rfl,iteF ?_⟩
   refine ⟨_,rfl,rfl,_,rfl,?_⟩
   by_cases hne:x=("" : Str)
   · rw [if_pos hne] at q
     subst hne
     rw [decide_eq_true rfl]
     refine iteT ?_
     exact ⟨by decide,fun P hP=>q [] rfl P [] _ (same_new hP) hP upd_same .nil⟩
   rw [if_neg hne] at q qe
   rw [decide_eq_false (fun z=>hne (V.str.inj z))]
   refine iteF ?_
   refine nx_of ?_
   try dsimp only
   obtain ⟨h1000,hl⟩:=hc hne
   refine ⟨_,rfl,rfl,x,(" " : Str),rfl,rfl,by decide +kernel,hx,fun L hL=>?_⟩
   generalize Txt.split x (" " : Str)=ws at h1000 hl q qe ⊢
   obtain ⟨H1,qH1,s1,eL⟩:=new_at (o:=.lst (ws.map V.str)) hL
   rw [←qH1]
   refine fun w dw hw hdw hne=>⟨w,dw,_,rfl,upd_same,rfl,?_⟩
   rw [upd_upd]
   have s2:=fresh_ins (o:=.own w) (o':=.ins (clsA K "Words") dw [(("words" : Str),V.ref L),(("place" : Str),V.int 0)]) hw hdw
   have ew:(upd (upd H1 dw (.own w)) w (.ins (clsA K "Words") dw [(("words" : Str),V.ref L),(("place" : Str),V.int 0)])) w=some (.ins (clsA K "Words") dw [(("words" : Str),V.ref L),(("place" : Str),V.int 0)]):=upd_same
   generalize upd (upd H1 dw (.own w)) w (.ins (clsA K "Words") dw [(("words" : Str),V.ref L),(("place" : Str),V.int 0)])=H2 at s2 ew ⊢
   refine g_in ?_
   try dsimp only
   have w2:WdR K H2 w ws:=⟨dw,L,ws,0,ew,s2 _ _ eL,rfl,Nat.zero_le _,h1000,hl⟩
   have s12:=s1.trans s2
   have fw:H w=none:=s1.free hw
   have sB:∀ {H3:Hp},Bt w H2 H3→Same H H3:=fun b3 b o e=>b3.get (ne_of_none e fw) (s12 _ _ e)
   refine ⟨_,rfl,w,0,31,ws,rfl,rfl,by decide,w2,fun ts rem' hp P as H3 b3 w3 e3 fP h3=>?_,fun hp H3 b3=>qe (by rw [hp]) H3 (sB b3)⟩
   rw [hp] at q qe
   refine g_in ?_
   try dsimp only
   obtain ⟨dx3,_,_,_,f3,_⟩:=w3.ex
   refine ⟨_,rfl,w,dx3,_,rfl,f3,rfl,w,rem',rfl,w3,_,rfl,?_⟩
   cases rem' with
   | cons y r =>
     rw [show (!decide (headV (y :: r)=V.non))=true from rfl]
     exact iteT ⟨one_le,qe rfl H3 (sB b3)⟩
   | nil =>
     rw [show (!decide (headV []=V.non))=false from rfl]
     refine iteF ?_
     refine nx_of ?_
     try dsimp only
     exact ⟨_,rfl,q ts rfl P as H3 (sB b3) (s12.free fP) (rmv_get e3).2 ((h3.keeps rmv_sub.toKeeps (fun _ _ z=>z) fun x z=>⟨s12.free z.1,z.2⟩))⟩
theorem call_read (B:Blt mg) (ER:Ers K mg) (c_Words__init__:CalleeN P w K mg base (clsA K "Words") 1 ["self", "words"] [] (sp_Words__init__ K)) (c_read_items:CalleeE P w K mg base "read_items" 101 ["words", "brackets"] (sp_read_items K)) (c_Words_ahead:CalleeM P w K mg base (clsA K "Words") "ahead" 1 ["self"] (sp_Words_ahead K)) (F:Fun K "read" "read" s_read f fd) (hm:mg "read" = some (.ref f)):CalleeE P w K mg base "read" 102 ["text"] (sp_read K) :=
 ⟨f,fd,ok_read B ER c_Words__init__ c_read_items c_Words_ahead F,hm,F.kp,F.binds fun _ _ _ _ _ _ us hl=>(by obtain ⟨x0,rfl⟩:=len_1 hl; rfl)⟩
def AskE (K:PySem.W.Frag) (C c:Addr) (b:Bool):Prop:=AskC K C (.ref c) b∧((Value.ref C == Value.ref c)=true→b=true)
theorem AskE.no {K:PySem.W.Frag} {C c:Addr} (a:AskC K C (.ref c) false) (h:(Value.ref C == Value.ref c)=false):AskE K C c false:=⟨a,fun z=>by rw [h] at z; cases z⟩
theorem AskE.yes {K:PySem.W.Frag} {C c:Addr} (a:AskC K C (.ref c) true):AskE K C c true:=⟨a,fun _=>rfl⟩
structure ErrF (K:PySem.W.Frag) (C:Addr):Prop where
 xf:XForm K C
 sp:L2.subIn K C (clsA K "PathError")=true
 d:ExcCl K C
 v:AskC K C (.type "ValueError") true
 a0:AskE K C (clsA K "NoText") true
 a1:AskE K C (clsA K "TooGreat") false
 a2:AskE K C (clsA K "NoName") false
 a3:AskE K C (clsA K "NoPlace") false
 a4:AskE K C (clsA K "Twice") false
 a5:AskE K C (clsA K "Tangled") false
 a6:AskE K C (clsA K "NoRow") false
 a7:AskE K C (clsA K "Ring") false
 a8:AskE K C (clsA K "Caught") false
def sp__law_refused (K:PySem.W.Frag):Sp:=fun vs H Q _=>∃ v,vs=[v]∧((∃ T,TyN K H v T∧T≠.str)∨∃ x:Str,v=.str x∧x.length≤100000∧(x≠("" : Str)→(Txt.split x (" " : Str)).length≤1000∧∀ y∈Txt.split x (" " : Str),y.length≤1000)∧readO x=none)∧∀ H',Same H H'→Q (.bl true) H'
theorem ok__law_refused (B:Blt mg) (ER:Ers K mg) (c_read:CalleeE P w K mg base "read" 102 ["text"] (sp_read K)) (F:Fun K "_law_refused" "_law_refused" s__law_refused f fd):FnOk P w K mg base CX0 103 f fd ["_law_thing"] (sp__law_refused K):=by
 refine F.ok sc__law_refused (fun vs H Q E h=>?_) (fun cdv A outer s H vs Q E hr h=>?_)
 · obtain ⟨v,rfl,_⟩:=h
   rfl
 · obtain ⟨v,rfl,hv,q⟩:=h
   refine ⟨_,(pss_cons (ps_set (i:=1) sc__law_refused.nd pe_non)
    (pss_cons (ps_try_fnX (i:=2) c_read (hr.mono (by decide)) rfl (pa_cons (pv 0) pa_nil) rfl rfl (cform_exc ER.k_PathError.ok) rfl ER.e_PathError sc__law_refused.nd rfl rfl (fun _=>(pss_one (ps_set (i:=1) sc__law_refused.nd (pv 2)))))
    (pss_cons (ps_if (PW.pt (pw_or (pt_not (pt_val (pe_callB call_isiX B.b_isinstance (pa_cons (pv 1) (pa_cons (pe_glob (v:=.ref (clsA K "NoText")) rfl ER.e_NoText rfl) pa_nil))))) (pw_or1 (pt_not (pt_val (pe_callB call_isiX B.b_isinstance (pa_cons (pv 1) (pa_cons (pe_ty "ValueError" rfl B.b_ValueError (by decide +kernel)) pa_nil)))))))) (pss_one (ps_ret pe_bl)) pss_nil)
    (pss_cons (ps_set (i:=3) sc__law_refused.nd (pe_lst (pa_cons (pe_callB call_isiX B.b_isinstance (pa_cons (pv 1) (pa_cons (pe_glob (v:=.ref (clsA K "TooGreat")) rfl ER.e_TooGreat rfl) pa_nil))) (pa_cons (pe_callB call_isiX B.b_isinstance (pa_cons (pv 1) (pa_cons (pe_glob (v:=.ref (clsA K "NoName")) rfl ER.e_NoName rfl) pa_nil))) (pa_cons (pe_callB call_isiX B.b_isinstance (pa_cons (pv 1) (pa_cons (pe_glob (v:=.ref (clsA K "NoPlace")) rfl ER.e_NoPlace rfl) pa_nil))) pa_nil)))))
    (pss_cons (ps_set (i:=3) sc__law_refused.nd (pe_op op_cat (pv 3) (pe_lst (pa_cons (pe_callB call_isiX B.b_isinstance (pa_cons (pv 1) (pa_cons (pe_glob (v:=.ref (clsA K "Twice")) rfl ER.e_Twice rfl) pa_nil))) (pa_cons (pe_callB call_isiX B.b_isinstance (pa_cons (pv 1) (pa_cons (pe_glob (v:=.ref (clsA K "Tangled")) rfl ER.e_Tangled rfl) pa_nil))) (pa_cons (pe_callB call_isiX B.b_isinstance (pa_cons (pv 1) (pa_cons (pe_glob (v:=.ref (clsA K "NoRow")) rfl ER.e_NoRow rfl) pa_nil))) pa_nil))))))
    (pss_one (ps_ret (pe_and (pe_cmpR op_notIn_seq pe_bl (pv 3) (by with_unfolding_all rfl)) (pe_and (pe_not (pe_callB call_isiX B.b_isinstance (pa_cons (pv 1) (pa_cons (pe_glob (v:=.ref (clsA K "Ring")) rfl ER.e_Ring rfl) pa_nil)))) (pe_one (pe_not (pe_callB call_isiX B.b_isinstance (pa_cons (pv 1) (pa_cons (pe_glob (v:=.ref (clsA K "Caught")) rfl ER.e_Caught rfl) pa_nil)))))))))))))),?_⟩
   have F:ErrF K (clsA K "NoText"):=⟨xform_exc ER.k_NoText.ok,ER.s_NoText_PathError,ER.d_NoText,ER.v_NoText,.yes ER.a_NoText_NoText,.no ER.a_NoText_TooGreat ER.n_NoText_TooGreat,.no ER.a_NoText_NoName ER.n_NoText_NoName,.no ER.a_NoText_NoPlace ER.n_NoText_NoPlace,.no ER.a_NoText_Twice ER.n_NoText_Twice,.no ER.a_NoText_Tangled ER.n_NoText_Tangled,.no ER.a_NoText_NoRow ER.n_NoText_NoRow,.no ER.a_NoText_Ring ER.n_NoText_Ring,.no ER.a_NoText_Caught ER.n_NoText_Caught⟩
   refine g_in ?_
   try dsimp only
   rcases hv with ⟨T,ty,hT⟩ | ⟨x,rfl,hx,hc,hn⟩
   case' inl =>
    refine ⟨_,rfl,Or.inl ⟨v,T,rfl,ty,hT,?_⟩⟩
    have s0:Same H H:=Same.refl _
    obtain ⟨H0,rfl⟩:∃ H0,H0=H:=⟨_,rfl⟩
    clear ty hT
   case' inr =>
    refine ⟨_,rfl,Or.inr ⟨x,rfl,hx,hc,(fun ts z=>by rw [hn] at z; cases z),fun _ H0 s0=>?_⟩⟩
    clear hx hc hn
   all_goals
    obtain ⟨C,eC⟩:∃ C,C=clsA K "NoText" := ⟨_,rfl⟩
    rw [←eC] at F
    refine ⟨C,congrArg Value.ref eC.symm,F.xf,F.sp,fun ea hea=>?_⟩
    clear eC
    have s1:=s0.trans (same_new (o:=ExcO ea C none) hea)
    have tX:(upd H0 ea (ExcO ea C none)) ea=some (ExcO ea C none):=upd_same
    generalize upd H0 ea (ExcO ea C none)=H1 at s1 tX ⊢
    have hd:∀ (H1:Hp) (d':Addr),none=some d'→∃ o,H1 d'=some o:=fun _ d' e=>by cases e
    refine ⟨_,rfl,?_⟩
    refine ⟨_,rfl,ea,C,none,_,_,true,rfl,(fun _ h=>h),tX,hd _,F.d,F.a0.1,F.a0.2,_,rfl,iteF ?_⟩
    refine ⟨_,rfl,ea,C,none,_,_,true,rfl,(fun _ h=>h),tX,hd _,F.d,F.v,fun _=>rfl,_,rfl,iteF ?_⟩
    refine ⟨_,rfl,ea,C,none,_,_,false,rfl,(fun _ h=>h),tX,hd _,F.d,F.a1.1,F.a1.2,_,rfl,ea,C,none,_,_,false,rfl,(fun _ h=>h),tX,hd _,F.d,F.a2.1,F.a2.2,_,rfl,ea,C,none,_,_,false,rfl,(fun _ h=>h),tX,hd _,F.d,F.a3.1,F.a3.2,show 3≤sizeLine by decide,fun l1 hl1=>?_⟩
    obtain ⟨H2,qH2,tl1,el1⟩:=new_at (o:=.lst [.bl false,.bl false,.bl false]) hl1
    rw [←qH2]
    have tX:=tl1 _ _ tX
    refine g_in ?_
    try dsimp only
    refine ⟨_,rfl,_,rfl,ea,C,none,_,_,false,rfl,(fun _ h=>h),tX,hd _,F.d,F.a4.1,F.a4.2,_,rfl,ea,C,none,_,_,false,rfl,(fun _ h=>h),tX,hd _,F.d,F.a5.1,F.a5.2,_,rfl,ea,C,none,_,_,false,rfl,(fun _ h=>h),tX,hd _,F.d,F.a6.1,F.a6.2,show 3≤sizeLine by decide,fun l2 hl2=>?_⟩
    obtain ⟨H3,qH3,tl2,el2⟩:=new_at (o:=.lst [.bl false,.bl false,.bl false]) hl2
    rw [←qH3]
    have tX:=tl2 _ _ tX
    refine ⟨l1,l2,_,_,rfl,rfl,tl2 _ _ el1,el2,show 6≤sizeLine by decide,fun l3 hl3=>?_⟩
    obtain ⟨H4,qH4,tl3,el3⟩:=new_at (o:=.lst ([.bl false,.bl false,.bl false]++[.bl false,.bl false,.bl false])) hl3
    rw [←qH4]
    have tX:=tl3 _ _ tX
    have sA:=((s1.trans tl1).trans tl2).trans tl3
    refine g_in ?_
    try dsimp only
    refine ⟨_,rfl,l3,_,rfl,Or.inl (SqL.of el3),rfl,rfl,_,rfl,iteT ?_⟩
    refine ⟨_,rfl,ea,C,none,_,_,false,rfl,(fun _ h=>h),tX,hd _,F.d,F.a7.1,F.a7.2,_,rfl,_,rfl,iteT ?_⟩
    refine ⟨_,rfl,ea,C,none,_,_,false,rfl,(fun _ h=>h),tX,hd _,F.d,F.a8.1,F.a8.2,_,rfl,?_⟩
    exact q H4 sA
variable (P w K mg base) in
abbrev C__law_refused:Prop:=Callee P w K mg base "_law_refused" 103 ["_law_thing"] (sp__law_refused K)
theorem call__law_refused (B:Blt mg) (ER:Ers K mg) (c_read:CalleeE P w K mg base "read" 102 ["text"] (sp_read K)) (F:Fun K "_law_refused" "_law_refused" s__law_refused f fd) (hm:mg "_law_refused" = some (.ref f)):C__law_refused P w K mg base :=
 ⟨f,fd,ok__law_refused B ER c_read F,hm,F.kp,F.binds fun _ _ _ _ _ _ us hl=>(by obtain ⟨x0,rfl⟩:=len_1 hl; rfl)⟩
def sp__law_name (K:PySem.W.Frag):Sp:=fun vs H Q _=>∃ x,vs=[.str x]∧x.length≤1000∧∀ H',Same H H'→Q (.bl (nameB x)) H'
theorem ok__law_name (B:Blt mg) (ER:Ers K mg)  (F:Fun K "_law_name" "_law_name" s__law_name f fd):FnOk P w K mg base CX0 1 f fd ["_law_word"] (sp__law_name K):=by
 refine F.ok sc__law_name (fun vs H Q E h=>?_) (fun cdv A outer s H vs Q E hr h=>?_)
 · obtain ⟨x,rfl,_⟩:=h
   rfl
 · obtain ⟨x,rfl,hx,q⟩:=h
   refine ⟨_,(pss_cons (ps_if (PW.pt (pw_or (pt_cmpR op_lt (pe_callB call_len B.b_len (pa_cons (pv 0) pa_nil)) pe_int (nomark _)) (pw_or1 (pt_cmpR op_gt (pe_callB call_len B.b_len (pa_cons (pv 0) pa_nil)) pe_int (nomark _))))) (pss_one (ps_ret pe_bl)) pss_nil)
    (pss_one (ps_ret (pe_cmpR (op_eqD hr.units) (pe_comp rfl _law_name_cs1 (pi_str (pv 0)) (fun _ _ _ _ _=>(pg_name (i:=0) _law_name_cs1.nd)) (fun _ _ _ _ _=>(pf_one (pt_cmpR op_notIn_str (pv 0) pe_str (by with_unfolding_all rfl)))) (fun _ _ _ _ _=>(pv 0))) (pe_lst pa_nil) (nomark _))))),?_⟩
   have hz:x.length≤sizeLine:=Nat.le_of_lt (small1000 hx)
   refine ⟨_,rfl,_,_,rfl,⟨hz,rfl⟩,_,_,rfl,rfl,_,rfl,ite2 (fun h1=>?_) (fun h1=>?_)⟩
   · have h1:¬ 1≤x.length:=by have:=of_decide_eq_true h1; omega
     have e:nameB x=false:=by unfold nameB; rw [decide_eq_false h1]; rfl
     have:=q H (Same.refl _)
     rw [e] at this
     exact iteT this
   have h1:1≤x.length:=Nat.le_of_not_lt fun z=>h1 (decide_eq_true (by omega))
   refine ⟨_,rfl,_,_,rfl,⟨hz,rfl⟩,_,_,rfl,rfl,_,rfl,ite2 (fun h2=>?_) (fun h2=>?_)⟩
   · have h2:¬ x.length≤8:=by have:=of_decide_eq_true h2; omega
     have e:nameB x=false:=by unfold nameB; rw [decide_eq_false h2,Bool.false_and,Bool.and_false]
     have:=q H (Same.refl _)
     rw [e] at this
     exact this
   have h2:x.length≤8:=Nat.le_of_not_lt fun z=>h2 (decide_eq_true (by omega))
   have e:nameB x=x.cps.toList.all signB:=by
    unfold nameB; rw [decide_eq_true h1,decide_eq_true h2]; rfl
   refine nx_of ?_
   try dsimp only
   refine ⟨_,rfl,_,rfl,comp_strF (p:=fun c=>!signB c) (f:=fun c=>V.str ⟨#[c]⟩) hz (fun i c H2 R R0 hc s2 k k0=>?_) (fun H2 D s2 hD e2=>?_)⟩
   · refine ⟨_,rfl,_,_,rfl,rfl,_,rfl,?_⟩
     rw [sign_in c]
     by_cases hc:signB c=true
     · rw [hc]
       exact iteF (k0 (by rw [hc]; rfl) H2 (Same.refl _))
     · rw [Bool.eq_false_iff.mpr hc]
       exact iteT ⟨_,rfl,k (by rw [Bool.eq_false_iff.mpr hc]; rfl) H2 (Same.refl _)⟩
   refine ⟨by decide,fun Z hZ=>?_⟩
   obtain ⟨H3,qH3,s3,eZ⟩:=new_at (o:=.lst []) hZ
   rw [←qH3]
   have e2:H2 D=some (.lst (((x.cps.toList.filter fun c=>!signB c).map fun c=>(⟨#[c]⟩:Str)).map V.str)):=by rw [e2,List.map_map]; rfl
   refine ⟨2,_,_,.lst (Cmps.nil' _),by decide,.lst (SqL.of (s3 _ _ e2)) (IsDts.strs _),.lst (SqL.of eZ) .nil,?_⟩
   rw [lst_nil,map_nil_iff,all_filter,←e]
   exact q H3 (s2.trans s3)
variable (P w K mg base) in
abbrev C__law_name:Prop:=Callee P w K mg base "_law_name" 1 ["_law_word"] (sp__law_name K)
theorem call__law_name (B:Blt mg) (ER:Ers K mg)  (F:Fun K "_law_name" "_law_name" s__law_name f fd) (hm:mg "_law_name" = some (.ref f)):C__law_name P w K mg base :=
 ⟨f,fd,ok__law_name B ER  F,hm,F.kp,F.binds fun _ _ _ _ _ _ us hl=>(by obtain ⟨x0,rfl⟩:=len_1 hl; rfl)⟩
def sp__law_head (K:PySem.W.Frag):Sp:=fun vs H Q _=>∃ (R:Addr) (ws:List Str),vs=[.ref R]∧H R=some (.lst (ws.map V.str))∧(∀ x∈ws,x.length≤1000)∧∀ H',Same H H'→Q (.bl (headB ws)) H'
theorem ok__law_head (B:Blt mg) (ER:Ers K mg) (c__law_name:C__law_name P w K mg base) (F:Fun K "_law_head" "_law_head" s__law_head f fd):FnOk P w K mg base CX0 2 f fd ["_law_row_here"] (sp__law_head K):=by
 refine F.ok sc__law_head (fun vs H Q E h=>?_) (fun cdv A outer s H vs Q E hr h=>?_)
 · obtain ⟨R,ws,rfl,_⟩:=h
   rfl
 · obtain ⟨R,ws,rfl,eR,hw,q⟩:=h
   refine ⟨_,(pss_one (ps_ret (pe_and (pe_cmpR op_eq (pe_callB call_len B.b_len (pa_cons (pv 0) pa_nil)) pe_int (nomark _)) (pe_and (pe_cmpR op_eq (pe_ix ix_seq (pv 0) pe_int) pe_str (nomark _)) (pe_and (pe_cmpR op_in_seq (pe_ix ix_seq (pv 0) pe_int) (pe_tup (pa_cons pe_str (pa_cons pe_str pa_nil))) (by with_unfolding_all rfl)) (pe_one (pe_fn c__law_name (pa_cons (pe_ix ix_seq (pv 0) pe_int) pa_nil)))))))),?_⟩
   rw [head_is] at q
   refine ⟨_,rfl,_,_,rfl,Or.inl ⟨_,SqL.of eR,rfl⟩,rfl,_,rfl,?_⟩
   rw [List.length_map,int_dec]
   by_cases h3:(ws.length:Int)=3
   rotate_left
   · rw [decide_eq_false (by omega)] at q
     rw [decide_eq_false h3]
     exact iteF (q H (Same.refl _))
   rw [decide_eq_true (by omega),Bool.true_and] at q
   rw [decide_eq_true h3]
   refine iteT ⟨_,rfl,Or.inl ⟨R,_,_,_,rfl,rfl,SqL.of eR,at_W (j:=0) (by omega),rfl,_,rfl,?_⟩⟩
   rw [str_dec]
   by_cases h0:gW ws 0=("part" : Str)
   rotate_left
   · rw [decide_eq_false h0] at q ⊢
     exact iteF (q H (Same.refl _))
   rw [decide_eq_true h0,Bool.true_and] at q
   rw [decide_eq_true h0]
   refine iteT ⟨_,rfl,Or.inl ⟨R,_,_,_,rfl,rfl,SqL.of eR,at_W (j:=1) (by omega),two_le,fun u hu=>⟨u,_,rfl,Or.inr (SqT.of upd_same),rfl,rfl,_,rfl,?_⟩⟩⟩
   have s1:=same_new (o:=.tup [.str ("open" : Str),.str ("own" : Str)]) hu
   generalize upd H u (.tup [.str ("open" : Str),.str ("own" : Str)])=H1 at s1 ⊢
   rw [show (if false=true then !inV (.str (gW ws 1)) [.str ("open" : Str),.str ("own" : Str)] else inV (.str (gW ws 1)) [.str ("open" : Str),.str ("own" : Str)])=reachB (gW ws 1) from in2 _ _ _]
   cases hx:reachB (gW ws 1) with
   | false =>
     rw [hx] at q
     exact iteF (q _ s1)
   | true =>
     rw [hx] at q
     refine iteT ⟨_,rfl,Or.inl ⟨R,_,_,_,rfl,rfl,SqL.of (s1 _ _ eR),at_W (j:=2) (by omega),_,rfl,hw _ (gW_mem (by omega)),fun H2 s2=>q _ (s1.trans s2)⟩⟩
variable (P w K mg base) in
abbrev C__law_head:Prop:=Callee P w K mg base "_law_head" 2 ["_law_row_here"] (sp__law_head K)
theorem call__law_head (B:Blt mg) (ER:Ers K mg) (c__law_name:C__law_name P w K mg base) (F:Fun K "_law_head" "_law_head" s__law_head f fd) (hm:mg "_law_head" = some (.ref f)):C__law_head P w K mg base :=
 ⟨f,fd,ok__law_head B ER c__law_name F,hm,F.kp,F.binds fun _ _ _ _ _ _ us hl=>(by obtain ⟨x0,rfl⟩:=len_1 hl; rfl)⟩
def sp__law_route (K:PySem.W.Frag):Sp:=fun vs H Q _=>∃ x,vs=[.str x]∧x.length≤1000∧∀ H',Same H H'→Q (.bl (routeB x)) H'
theorem ok__law_route (B:Blt mg) (ER:Ers K mg) (c__law_name:C__law_name P w K mg base) (F:Fun K "_law_route" "_law_route" s__law_route f fd):FnOk P w K mg base CX0 2 f fd ["_law_word"] (sp__law_route K):=by
 refine F.ok sc__law_route (fun vs H Q E h=>?_) (fun cdv A outer s H vs Q E hr h=>?_)
 · obtain ⟨x,rfl,_⟩:=h
   rfl
 · obtain ⟨x,rfl,hx,q⟩:=h
   refine ⟨_,(pss_cons (ps_set (i:=1) sc__law_route.nd (pe_bm PySem.F.plainAttrs_str PySem.F.slot_str_split PySem.F.type_str_split mt_split (pv 0) (pa_cons pe_str pa_nil)))
    (pss_one (ps_ret (pe_and (pe_cmpR op_lt (pe_callB call_len B.b_len (pa_cons (pv 1) pa_nil)) pe_int (nomark _)) (pe_one (pe_cmpR (op_eqD hr.units) (pe_comp rfl _law_route_cs1 (pi_list (pv 1)) (fun _ _ _ _ _=>(pg_name (i:=0) _law_route_cs1.nd)) (fun _ _ _ _ _=>(pf_one (pt_not (pt_val (pe_fn c__law_name (pa_cons (pv 0) pa_nil)))))) (fun _ _ _ _ _=>(pv 0))) (pe_lst pa_nil) (nomark _))))))),?_⟩
   refine ⟨_,rfl,rfl,x,("." : Str),rfl,rfl,by decide +kernel,by omega,fun D hD=>?_⟩
   have hpl:∀ y∈Txt.split x ("." : Str),y.length≤1000:=fun y hy=>Nat.le_trans (split_le hy) hx
   unfold routeB pathO at q
   generalize Txt.split x ("." : Str)=p at q hpl ⊢
   obtain ⟨H1,qH1,s1,eD⟩:=new_at (o:=.lst (p.map V.str)) hD
   rw [←qH1]
   refine g_in ?_
   try dsimp only
   refine ⟨_,rfl,_,_,rfl,Or.inl ⟨_,SqL.of eD,rfl⟩,_,_,rfl,rfl,_,rfl,ite2 (fun e=>?_) (fun e=>?_)⟩
   rotate_left
   · have h6:¬ p.length≤6:=fun z=>e (decide_eq_true (by rw [List.length_map]; omega))
     rw [if_neg fun z=>h6 z.1] at q
     have:=q H1 s1
     exact this
   have e:=of_decide_eq_true e
   rw [List.length_map] at e
   have h6:p.length≤6:=by omega
   refine ⟨_,rfl,D,rfl,⟨_,SqL.of eD⟩,comp_listF (p:=fun v=>match v with
    | .str y=>!nameB y
    | _=>false) (f:=fun v=>v) (by rw [List.length_map]; exact Nat.le_of_lt (small1000 (by omega))) (SqL.of eD) (fun i v H2 R R0 hv s2 k k0=>?_) (fun H2 D2 s2 hD2 e2=>?_)⟩
   · obtain ⟨y,hy,rfl⟩:=getm hv
     refine ⟨_,rfl,y,rfl,hpl y (List.mem_of_getElem? hy),fun H3 s3=>⟨_,rfl,?_⟩⟩
     by_cases hn:nameB y=true
     · rw [hn]
       exact iteF (k0 (by show (!nameB y)=false; rw [hn]; rfl) H3 s3)
     · rw [Bool.eq_false_iff.mpr hn]
       exact iteT ⟨_,rfl,k (by show (!nameB y)=true; rw [Bool.eq_false_iff.mpr hn]; rfl) H3 s3⟩
   refine ⟨by decide,fun Z hZ=>?_⟩
   obtain ⟨H3,qH3,s3,eZ⟩:=new_at (o:=.lst []) hZ
   rw [←qH3]
   have e2:H2 D2=some (.lst ((p.filter fun y=>!nameB y).map V.str)):=by rw [e2,List.filter_map,List.map_map]; rfl
   refine ⟨2,_,_,.lst (Cmps.nil' _),by decide,.lst (SqL.of (s3 _ _ e2)) (IsDts.strs _),.lst (SqL.of eZ) .nil,?_⟩
   rw [lst_nil,all_filter]
   have:=q H3 ((s1.trans s2).trans s3)
   cases hall:p.all nameB with
   | true=>rw [hall,if_pos ⟨h6,rfl⟩] at this; exact this
   | false=>rw [hall,if_neg fun z=>by cases z.2] at this; exact this
variable (P w K mg base) in
abbrev C__law_route:Prop:=Callee P w K mg base "_law_route" 2 ["_law_word"] (sp__law_route K)
theorem call__law_route (B:Blt mg) (ER:Ers K mg) (c__law_name:C__law_name P w K mg base) (F:Fun K "_law_route" "_law_route" s__law_route f fd) (hm:mg "_law_route" = some (.ref f)):C__law_route P w K mg base :=
 ⟨f,fd,ok__law_route B ER c__law_name F,hm,F.kp,F.binds fun _ _ _ _ _ _ us hl=>(by obtain ⟨x0,rfl⟩:=len_1 hl; rfl)⟩
def sp__law_row (K:PySem.W.Frag):Sp:=fun vs H Q _=>∃ (R:Addr) (ws:List Str),vs=[.ref R]∧H R=some (.lst (ws.map V.str))∧(∀ x∈ws,x.length≤1000)∧∀ H',Same H H'→Q (.bl (rowB ws)) H'
theorem ok__law_row (B : Blt mg) (ER : Ers K mg) (c__law_route : C__law_route P w K mg base) (c__law_name : C__law_name P w K mg base) (F : Fun K "_law_row" "_law_row" s__law_row f fd) : FnOk P w K mg base CX0 3 f fd ["_law_row_here"] (sp__law_row K) := by
 refine F.ok sc__law_row (fun vs H Q E h=>?_) (fun cdv A outer s H vs Q E hr h=>?_)
 · obtain ⟨R,ws,rfl,_⟩:=h
   rfl
 · obtain ⟨R,ws,rfl,eR,hw,q⟩:=h
   refine ⟨_,(pss_cons (ps_if (PW.pt (pw_and (pt_cmpR op_eq (pe_callB call_len B.b_len (pa_cons (pv 0) pa_nil)) pe_int (nomark _)) (pw_and1 (pt_cmpR op_in_seq (pe_ix ix_seq (pv 0) pe_int) (pe_tup (pa_cons pe_str (pa_cons pe_str (pa_cons pe_str pa_nil)))) (by with_unfolding_all rfl))))) (pss_one (ps_ret (pe_fn c__law_route (pa_cons (pe_ix ix_seq (pv 0) pe_int) pa_nil)))) pss_nil)
    (pss_cons (ps_if (PW.pt (pw_and (pt_cmpR op_eq (pe_callB call_len B.b_len (pa_cons (pv 0) pa_nil)) pe_int (nomark _)) (pw_and (pt_cmpR op_eq (pe_ix ix_seq (pv 0) pe_int) pe_str (nomark _)) (pw_and1 (pt_cmpR op_eq (pe_ix ix_seq (pv 0) pe_int) pe_str (nomark _)))))) (pss_one (ps_ret (pe_fn c__law_route (pa_cons (pe_ix ix_seq (pv 0) pe_int) pa_nil)))) pss_nil)
    (pss_cons (ps_if (PW.pt (pw_and (pt_cmpR op_gt (pe_callB call_len B.b_len (pa_cons (pv 0) pa_nil)) pe_int (nomark _)) (pw_and1 (pt_cmpR op_in_seq (pe_ix ix_seq (pv 0) pe_int) (pe_tup (pa_cons pe_str (pa_cons pe_str pa_nil))) (by with_unfolding_all rfl))))) (pss_one (ps_if (PW.pt (pw_or (pt_cmpR op_notIn_seq (pe_ix ix_seq (pv 0) pe_int) (pe_tup (pa_cons pe_str (pa_cons pe_str pa_nil))) (by with_unfolding_all rfl)) (pw_or1 (pt_not (pt_val (pe_fn c__law_name (pa_cons (pe_ix ix_seq (pv 0) pe_int) pa_nil))))))) (pss_one (ps_ret pe_bl)) pss_nil)) pss_nil)
    (pss_cons (ps_if (PW.pt (pw_and (pt_cmpR op_eq (pe_callB call_len B.b_len (pa_cons (pv 0) pa_nil)) pe_int (nomark _)) (pw_and1 (pt_cmpR op_eq (pe_ix ix_seq (pv 0) pe_int) pe_str (nomark _))))) (pss_one (ps_ret pe_bl)) pss_nil)
    (pss_cons (ps_if (PW.pt (pw_and (pt_cmpR op_eq (pe_callB call_len B.b_len (pa_cons (pv 0) pa_nil)) pe_int (nomark _)) (pw_and1 (pt_cmpR op_eq (pe_ix ix_seq (pv 0) pe_int) pe_str (nomark _))))) (pss_one (ps_ret (pe_and (pe_cmpR op_eq (pe_ix ix_seq (pv 0) pe_int) pe_str (nomark _)) (pe_one (pe_fn c__law_route (pa_cons (pe_ix ix_seq (pv 0) pe_int) pa_nil)))))) pss_nil)
    (pss_cons (ps_if (PW.pt (pw_and (pt_cmpR op_eq (pe_callB call_len B.b_len (pa_cons (pv 0) pa_nil)) pe_int (nomark _)) (pw_and1 (pt_cmpR op_eq (pe_ix ix_seq (pv 0) pe_int) pe_str (nomark _))))) (pss_one (ps_ret (pe_and (pe_cmpR op_eq (pe_ix ix_seq (pv 0) pe_int) pe_str (nomark _)) (pe_one (pe_fn c__law_route (pa_cons (pe_ix ix_seq (pv 0) pe_int) pa_nil)))))) pss_nil)
    (pss_cons (ps_if (PW.pt (pw_and (pt_cmpR op_eq (pe_callB call_len B.b_len (pa_cons (pv 0) pa_nil)) pe_int (nomark _)) (pw_and1 (pt_cmpR op_eq (pe_ix ix_seq (pv 0) pe_int) pe_str (nomark _))))) (pss_one (ps_ret (pe_fn c__law_name (pa_cons (pe_ix ix_seq (pv 0) pe_int) pa_nil)))) pss_nil)
    (pss_cons (ps_if (PW.pt (pw_and (pt_cmpR op_eq (pe_callB call_len B.b_len (pa_cons (pv 0) pa_nil)) pe_int (nomark _)) (pw_and1 (pt_cmpR op_eq (pe_ix ix_seq (pv 0) pe_int) pe_str (nomark _))))) (pss_one (ps_ret (pe_and (pe_fn c__law_name (pa_cons (pe_ix ix_seq (pv 0) pe_int) pa_nil)) (pe_and (pe_cmpR op_eq (pe_ix ix_seq (pv 0) pe_int) pe_str (nomark _)) (pe_one (pe_fn c__law_route (pa_cons (pe_ix ix_seq (pv 0) pe_int) pa_nil))))))) pss_nil)
    (pss_one (ps_ret pe_bl)))))))))),?_⟩
   have s0:Same H H:=Same.refl _
   refine seq_cut (fun σ' H'=>σ'=[some (.ref R)]∧Same H H'∧¬ Row1 ws) ?_ (fun NN hNN=>?_)
   case refine_2 =>
    refine if_cut (fun H'=>Same H H'∧Row1 ws) (fun H'=>Same H H'∧¬ Row1 ws) ?_ (fun H' hz=>hNN _ _ ⟨rfl,hz.1,hz.2⟩) (fun N1 N2 m1 m2=>?_)
    rotate_left
    · refine ⟨_,rfl,_,_,rfl,Or.inl ⟨_,SqL.of (s0 _ _ eR),rfl⟩,rfl,_,rfl,?_⟩
      rw [List.length_map,int_dec]
      by_cases hl:(ws.length:Int)=2
      rotate_left
      · rw [decide_eq_false hl]
        exact iteF (m2 _ ⟨s0,fun z=>by have:=z.1; omega⟩)
      rw [decide_eq_true hl]
      refine iteT ⟨_,rfl,Or.inl ⟨R,_,_,_,rfl,rfl,SqL.of (s0 _ _ eR),at_W (j:=0) (by omega),three_le,fun u hu=>⟨u,_,rfl,Or.inr (SqT.of upd_same),rfl,rfl,_,rfl,?_⟩⟩⟩
      have s1:=s0.trans (same_new (o:=.tup [.str ("elder" : Str),.str ("all" : Str),.str ("ask" : Str)]) hu)
      rw [show (if false=true then !inV (.str (gW ws 0)) [.str ("elder" : Str),.str ("all" : Str),.str ("ask" : Str)] else inV (.str (gW ws 0)) [.str ("elder" : Str),.str ("all" : Str),.str ("ask" : Str)])=_ from in3 _ _ _ _]
      by_cases hc:Row1 ws
      · rw [show (decide (gW ws 0=("elder" : Str)) || (decide (gW ws 0=("all" : Str)) || decide (gW ws 0=("ask" : Str))))=true by simpa using hc.2]
        exact m1 _ ⟨s1,hc⟩
      · rw [show (decide (gW ws 0=("elder" : Str)) || (decide (gW ws 0=("all" : Str)) || decide (gW ws 0=("ask" : Str))))=false from Bool.eq_false_iff.mpr fun z=>hc ⟨by omega,by simpa using z⟩]
        exact m2 _ ⟨s1,hc⟩
    rintro H1 ⟨s1,hp⟩
    refine ⟨_,rfl,Or.inl ⟨R,_,_,_,rfl,rfl,SqL.of (s1 _ _ eR),at_W (j:=1) (by have:=hp.1; omega),_,rfl,hw _ (gW_mem (by have:=hp.1; omega)),fun H2 s2=>?_⟩⟩
    have:=q H2 (s1.trans s2)
    rw [row1 hp] at this
    exact this
   rintro σ' H0 ⟨rfl,s0,n1⟩
   refine seq_cut (fun σ' H'=>σ'=[some (.ref R)]∧Same H H'∧¬ Row2 ws) ?_ (fun NN hNN=>?_)
   case refine_2 =>
    refine if_cut (fun H'=>Same H H'∧Row2 ws) (fun H'=>Same H H'∧¬ Row2 ws) ?_ (fun H' hz=>hNN _ _ ⟨rfl,hz.1,hz.2⟩) (fun N1 N2 m1 m2=>?_)
    rotate_left
    · refine ⟨_,rfl,_,_,rfl,Or.inl ⟨_,SqL.of (s0 _ _ eR),rfl⟩,rfl,_,rfl,?_⟩
      rw [List.length_map,int_dec]
      by_cases hl:(ws.length:Int)=3
      rotate_left
      · rw [decide_eq_false hl]
        exact iteF (m2 _ ⟨s0,fun z=>by have:=z.1; omega⟩)
      rw [decide_eq_true hl]
      refine iteT ⟨_,rfl,Or.inl ⟨R,_,_,_,rfl,rfl,SqL.of (s0 _ _ eR),at_W (j:=0) (by omega),rfl,_,rfl,?_⟩⟩
      rw [str_dec]
      by_cases h0:gW ws 0=("all" : Str)
      rotate_left
      · rw [decide_eq_false h0]
        exact iteF (m2 _ ⟨s0,fun z=>h0 z.2.1⟩)
      rw [decide_eq_true h0]
      refine iteT ⟨_,rfl,Or.inl ⟨R,_,_,_,rfl,rfl,SqL.of (s0 _ _ eR),at_W (j:=1) (by omega),rfl,_,rfl,?_⟩⟩
      rw [str_dec]
      by_cases h1:gW ws 1=("on" : Str)
      rotate_left
      · rw [decide_eq_false h1]
        exact m2 _ ⟨s0,fun z=>h1 z.2.2⟩
      rw [decide_eq_true h1]
      exact m1 _ ⟨s0,by omega,h0,h1⟩
    rintro H1 ⟨s1,hp⟩
    refine ⟨_,rfl,Or.inl ⟨R,_,_,_,rfl,rfl,SqL.of (s1 _ _ eR),at_W (j:=2) (by have:=hp.1; omega),_,rfl,hw _ (gW_mem (by have:=hp.1; omega)),fun H2 s2=>?_⟩⟩
    have:=q H2 (s1.trans s2)
    rw [row2 hp] at this
    exact this
   rintro σ' H0 ⟨rfl,s0,n2⟩
   refine seq_cut (fun σ' H'=>σ'=[some (.ref R)]∧Same H H'∧(Row3 ws→(reachB (gW ws 1) && nameB (gW ws 2))=true)) ?_ (fun NN hNN=>?_)
   case refine_2 =>
    refine if_cut (fun H'=>Same H H'∧Row3 ws) (fun H'=>Same H H'∧¬ Row3 ws) ?_ (fun H' hz=>hNN _ _ ⟨rfl,hz.1,fun z=>absurd z hz.2⟩) (fun N1 N2 m1 m2=>?_)
    rotate_left
    · refine ⟨_,rfl,_,_,rfl,Or.inl ⟨_,SqL.of (s0 _ _ eR),rfl⟩,_,_,rfl,rfl,_,rfl,ite2 (fun e=>?_) (fun e=>iteF (m2 _ ⟨s0,fun z=>e (decide_eq_true (by rw [List.length_map]; have:=z.1; omega))⟩))⟩
      have e:=of_decide_eq_true e
      rw [List.length_map] at e
      refine ⟨_,rfl,Or.inl ⟨R,_,_,_,rfl,rfl,SqL.of (s0 _ _ eR),at_W (j:=0) (by omega),two_le,fun u hu=>⟨u,_,rfl,Or.inr (SqT.of upd_same),rfl,rfl,_,rfl,?_⟩⟩⟩
      have s1:=s0.trans (same_new (o:=.tup [.str ("thing" : Str),.str ("one" : Str)]) hu)
      rw [show (if false=true then !inV (.str (gW ws 0)) [.str ("thing" : Str),.str ("one" : Str)] else inV (.str (gW ws 0)) [.str ("thing" : Str),.str ("one" : Str)])=_ from in2 _ _ _]
      by_cases hc:Row3 ws
      · rw [show (decide (gW ws 0=("thing" : Str)) || decide (gW ws 0=("one" : Str)))=true by simpa using hc.2]
        exact m1 _ ⟨s1,hc⟩
      · rw [show (decide (gW ws 0=("thing" : Str)) || decide (gW ws 0=("one" : Str)))=false from Bool.eq_false_iff.mpr fun z=>hc ⟨by omega,by simpa using z⟩]
        exact m2 _ ⟨s1,hc⟩
    rintro H1 ⟨s1,hp⟩
    have hp1:=hp.1
    refine if_cut (fun H'=>Same H H'∧(reachB (gW ws 1) && nameB (gW ws 2))=false) (fun H'=>Same H H'∧(reachB (gW ws 1) && nameB (gW ws 2))=true) (fun H' hz=>?_) (fun H' hz=>hNN _ _ ⟨rfl,hz.1,fun _=>hz.2⟩) (fun N1 N2 m1 m2=>?_)
    · have:=q H' hz.1
      rw [row3 hp hz.2] at this
      exact this
    refine ⟨_,rfl,Or.inl ⟨R,_,_,_,rfl,rfl,SqL.of (s1 _ _ eR),at_W (j:=1) (by omega),two_le,fun u hu=>⟨u,_,rfl,Or.inr (SqT.of upd_same),rfl,rfl,_,rfl,?_⟩⟩⟩
    have s2:=s1.trans (same_new (o:=.tup [.str ("open" : Str),.str ("own" : Str)]) hu)
    generalize upd H1 u (.tup [.str ("open" : Str),.str ("own" : Str)])=H2 at s2 ⊢
    rw [show (if true=true then !inV (.str (gW ws 1)) [.str ("open" : Str),.str ("own" : Str)] else inV (.str (gW ws 1)) [.str ("open" : Str),.str ("own" : Str)])=!reachB (gW ws 1) from congrArg (! ·) (in2 _ _ _)]
    cases hx:reachB (gW ws 1) with
    | false=>exact iteT (m1 _ ⟨s2,by rw [hx]; rfl⟩)
    | true =>
      refine iteF ⟨_,rfl,Or.inl ⟨R,_,_,_,rfl,rfl,SqL.of (s2 _ _ eR),at_W (j:=2) (by omega),_,rfl,hw _ (gW_mem (by omega)),fun H3 s3=>⟨_,rfl,?_⟩⟩⟩
      cases hy:nameB (gW ws 2) with
      | false=>exact m1 _ ⟨s2.trans s3,by rw [hx,hy]; rfl⟩
      | true=>exact m2 _ ⟨s2.trans s3,by rw [hx,hy]; rfl⟩
   rintro σ' H0 ⟨rfl,s0,n3⟩
   refine seq_cut (fun σ' H'=>σ'=[some (.ref R)]∧Same H H'∧¬ RowN ws 3 ("thing" : Str)) ?_ (fun NN hNN=>?_)
   case refine_2 =>
    refine if_cut (fun H'=>Same H H'∧RowN ws 3 ("thing" : Str)) (fun H'=>Same H H'∧¬ RowN ws 3 ("thing" : Str)) ?_ (fun H' hz=>hNN _ _ ⟨rfl,hz.1,hz.2⟩) (fun N1 N2 m1 m2=>?_)
    rotate_left
    · refine ⟨_,rfl,_,_,rfl,Or.inl ⟨_,SqL.of (s0 _ _ eR),rfl⟩,rfl,_,rfl,?_⟩
      rw [List.length_map,int_dec]
      by_cases hl:(ws.length:Int)=3
      rotate_left
      · rw [decide_eq_false hl]
        exact iteF (m2 _ ⟨s0,fun z=>by have:=z.1; omega⟩)
      rw [decide_eq_true hl]
      refine iteT ⟨_,rfl,Or.inl ⟨R,_,_,_,rfl,rfl,SqL.of (s0 _ _ eR),at_W (j:=0) (by omega),rfl,_,rfl,?_⟩⟩
      rw [str_dec]
      by_cases h0:gW ws 0=("thing" : Str)
      rotate_left
      · rw [decide_eq_false h0]
        exact m2 _ ⟨s0,fun z=>h0 z.2⟩
      rw [decide_eq_true h0]
      exact m1 _ ⟨s0,by omega,h0⟩
    rintro H1 ⟨s1,hp⟩
    have:=q H1 s1
    rw [row4 hp (n3 ⟨by have:=hp.1; omega,.inl hp.2⟩)] at this
    exact this
   rintro σ' H0 ⟨rfl,s0,n4⟩
   refine seq_cut (fun σ' H'=>σ'=[some (.ref R)]∧Same H H'∧¬ RowN ws 5 ("thing" : Str)) ?_ (fun NN hNN=>?_)
   case refine_2 =>
    refine if_cut (fun H'=>Same H H'∧RowN ws 5 ("thing" : Str)) (fun H'=>Same H H'∧¬ RowN ws 5 ("thing" : Str)) ?_ (fun H' hz=>hNN _ _ ⟨rfl,hz.1,hz.2⟩) (fun N1 N2 m1 m2=>?_)
    rotate_left
    · refine ⟨_,rfl,_,_,rfl,Or.inl ⟨_,SqL.of (s0 _ _ eR),rfl⟩,rfl,_,rfl,?_⟩
      rw [List.length_map,int_dec]
      by_cases hl:(ws.length:Int)=5
      rotate_left
      · rw [decide_eq_false hl]
        exact iteF (m2 _ ⟨s0,fun z=>by have:=z.1; omega⟩)
      rw [decide_eq_true hl]
      refine iteT ⟨_,rfl,Or.inl ⟨R,_,_,_,rfl,rfl,SqL.of (s0 _ _ eR),at_W (j:=0) (by omega),rfl,_,rfl,?_⟩⟩
      rw [str_dec]
      by_cases h0:gW ws 0=("thing" : Str)
      rotate_left
      · rw [decide_eq_false h0]
        exact m2 _ ⟨s0,fun z=>h0 z.2⟩
      rw [decide_eq_true h0]
      exact m1 _ ⟨s0,by omega,h0⟩
    rintro H1 ⟨s1,hp⟩
    refine ⟨_,rfl,Or.inl ⟨R,_,_,_,rfl,rfl,SqL.of (s1 _ _ eR),at_W (j:=3) (by have:=hp.1; omega),rfl,_,rfl,?_⟩⟩
    rw [str_dec]
    rw [row5 hp (n3 ⟨by have:=hp.1; omega,.inl hp.2⟩)] at q
    by_cases h3:gW ws 3=("of" : Str)
    rotate_left
    · rw [decide_eq_false h3] at q ⊢
      exact iteF (q _ s1)
    rw [decide_eq_true h3] at q ⊢
    exact iteT ⟨_,rfl,Or.inl ⟨R,_,_,_,rfl,rfl,SqL.of (s1 _ _ eR),at_W (j:=4) (by have:=hp.1; omega),_,rfl,hw _ (gW_mem (by have:=hp.1; omega)),fun H2 s2=>q _ (s1.trans s2)⟩⟩
   rintro σ' H0 ⟨rfl,s0,n5⟩
   refine seq_cut (fun σ' H'=>σ'=[some (.ref R)]∧Same H H'∧¬ RowN ws 5 ("one" : Str)) ?_ (fun NN hNN=>?_)
   case refine_2 =>
    refine if_cut (fun H'=>Same H H'∧RowN ws 5 ("one" : Str)) (fun H'=>Same H H'∧¬ RowN ws 5 ("one" : Str)) ?_ (fun H' hz=>hNN _ _ ⟨rfl,hz.1,hz.2⟩) (fun N1 N2 m1 m2=>?_)
    rotate_left
    · refine ⟨_,rfl,_,_,rfl,Or.inl ⟨_,SqL.of (s0 _ _ eR),rfl⟩,rfl,_,rfl,?_⟩
      rw [List.length_map,int_dec]
      by_cases hl:(ws.length:Int)=5
      rotate_left
      · rw [decide_eq_false hl]
        exact iteF (m2 _ ⟨s0,fun z=>by have:=z.1; omega⟩)
      rw [decide_eq_true hl]
      refine iteT ⟨_,rfl,Or.inl ⟨R,_,_,_,rfl,rfl,SqL.of (s0 _ _ eR),at_W (j:=0) (by omega),rfl,_,rfl,?_⟩⟩
      rw [str_dec]
      by_cases h0:gW ws 0=("one" : Str)
      rotate_left
      · rw [decide_eq_false h0]
        exact m2 _ ⟨s0,fun z=>h0 z.2⟩
      rw [decide_eq_true h0]
      exact m1 _ ⟨s0,by omega,h0⟩
    rintro H1 ⟨s1,hp⟩
    refine ⟨_,rfl,Or.inl ⟨R,_,_,_,rfl,rfl,SqL.of (s1 _ _ eR),at_W (j:=3) (by have:=hp.1; omega),rfl,_,rfl,?_⟩⟩
    rw [str_dec]
    rw [row6 hp (n3 ⟨by have:=hp.1; omega,.inr hp.2⟩)] at q
    by_cases h3:gW ws 3=("from" : Str)
    rotate_left
    · rw [decide_eq_false h3] at q ⊢
      exact iteF (q _ s1)
    rw [decide_eq_true h3] at q ⊢
    exact iteT ⟨_,rfl,Or.inl ⟨R,_,_,_,rfl,rfl,SqL.of (s1 _ _ eR),at_W (j:=4) (by have:=hp.1; omega),_,rfl,hw _ (gW_mem (by have:=hp.1; omega)),fun H2 s2=>q _ (s1.trans s2)⟩⟩
   rintro σ' H0 ⟨rfl,s0,n6⟩
   refine seq_cut (fun σ' H'=>σ'=[some (.ref R)]∧Same H H'∧¬ RowN ws 2 ("let" : Str)) ?_ (fun NN hNN=>?_)
   case refine_2 =>
    refine if_cut (fun H'=>Same H H'∧RowN ws 2 ("let" : Str)) (fun H'=>Same H H'∧¬ RowN ws 2 ("let" : Str)) ?_ (fun H' hz=>hNN _ _ ⟨rfl,hz.1,hz.2⟩) (fun N1 N2 m1 m2=>?_)
    rotate_left
    · refine ⟨_,rfl,_,_,rfl,Or.inl ⟨_,SqL.of (s0 _ _ eR),rfl⟩,rfl,_,rfl,?_⟩
      rw [List.length_map,int_dec]
      by_cases hl:(ws.length:Int)=2
      rotate_left
      · rw [decide_eq_false hl]
        exact iteF (m2 _ ⟨s0,fun z=>by have:=z.1; omega⟩)
      rw [decide_eq_true hl]
      refine iteT ⟨_,rfl,Or.inl ⟨R,_,_,_,rfl,rfl,SqL.of (s0 _ _ eR),at_W (j:=0) (by omega),rfl,_,rfl,?_⟩⟩
      rw [str_dec]
      by_cases h0:gW ws 0=("let" : Str)
      rotate_left
      · rw [decide_eq_false h0]
        exact m2 _ ⟨s0,fun z=>h0 z.2⟩
      rw [decide_eq_true h0]
      exact m1 _ ⟨s0,by omega,h0⟩
    rintro H1 ⟨s1,hp⟩
    refine ⟨_,rfl,Or.inl ⟨R,_,_,_,rfl,rfl,SqL.of (s1 _ _ eR),at_W (j:=1) (by have:=hp.1; omega),_,rfl,hw _ (gW_mem (by have:=hp.1; omega)),fun H2 s2=>?_⟩⟩
    have:=q H2 (s1.trans s2)
    rw [row7 hp] at this
    exact this
   rintro σ' H0 ⟨rfl,s0,n7⟩
   refine seq_cut (fun σ' H'=>σ'=[some (.ref R)]∧Same H H'∧¬ RowN ws 4 ("let" : Str)) ?_ (fun NN hNN=>?_)
   case refine_2 =>
    refine if_cut (fun H'=>Same H H'∧RowN ws 4 ("let" : Str)) (fun H'=>Same H H'∧¬ RowN ws 4 ("let" : Str)) ?_ (fun H' hz=>hNN _ _ ⟨rfl,hz.1,hz.2⟩) (fun N1 N2 m1 m2=>?_)
    rotate_left
    · refine ⟨_,rfl,_,_,rfl,Or.inl ⟨_,SqL.of (s0 _ _ eR),rfl⟩,rfl,_,rfl,?_⟩
      rw [List.length_map,int_dec]
      by_cases hl:(ws.length:Int)=4
      rotate_left
      · rw [decide_eq_false hl]
        exact iteF (m2 _ ⟨s0,fun z=>by have:=z.1; omega⟩)
      rw [decide_eq_true hl]
      refine iteT ⟨_,rfl,Or.inl ⟨R,_,_,_,rfl,rfl,SqL.of (s0 _ _ eR),at_W (j:=0) (by omega),rfl,_,rfl,?_⟩⟩
      rw [str_dec]
      by_cases h0:gW ws 0=("let" : Str)
      rotate_left
      · rw [decide_eq_false h0]
        exact m2 _ ⟨s0,fun z=>h0 z.2⟩
      rw [decide_eq_true h0]
      exact m1 _ ⟨s0,by omega,h0⟩
    rintro H1 ⟨s1,hp⟩
    rw [row8 hp] at q
    refine ⟨_,rfl,Or.inl ⟨R,_,_,_,rfl,rfl,SqL.of (s1 _ _ eR),at_W (j:=1) (by have:=hp.1; omega),_,rfl,hw _ (gW_mem (by have:=hp.1; omega)),fun H2 s2=>⟨_,rfl,?_⟩⟩⟩
    cases hx:nameB (gW ws 1) with
    | false =>
      rw [hx] at q
      exact iteF (q _ (s1.trans s2))
    | true =>
      rw [hx] at q
      refine iteT ⟨_,rfl,Or.inl ⟨R,_,_,_,rfl,rfl,SqL.of ((s1.trans s2) _ _ eR),at_W (j:=2) (by have:=hp.1; omega),rfl,_,rfl,?_⟩⟩
      rw [str_dec]
      by_cases h3:gW ws 2=("of" : Str)
      rotate_left
      · rw [decide_eq_false h3] at q ⊢
        exact iteF (q _ (s1.trans s2))
      rw [decide_eq_true h3] at q ⊢
      exact iteT ⟨_,rfl,Or.inl ⟨R,_,_,_,rfl,rfl,SqL.of ((s1.trans s2) _ _ eR),at_W (j:=3) (by have:=hp.1; omega),_,rfl,hw _ (gW_mem (by have:=hp.1; omega)),fun H3 s3=>q _ ((s1.trans s2).trans s3)⟩⟩
   rintro σ' H0 ⟨rfl,s0,n8⟩
   have:=q H0 s0
   rw [row9 n1 n2 n4 n5 n6 n7 n8] at this
   exact this
variable (P w K mg base) in
abbrev C__law_row:Prop:=Callee P w K mg base "_law_row" 3 ["_law_row_here"] (sp__law_row K)
theorem call__law_row (B:Blt mg) (ER:Ers K mg) (c__law_route:C__law_route P w K mg base) (c__law_name:C__law_name P w K mg base) (F:Fun K "_law_row" "_law_row" s__law_row f fd) (hm:mg "_law_row" = some (.ref f)):C__law_row P w K mg base :=
 ⟨f,fd,ok__law_row B ER c__law_route c__law_name F,hm,F.kp,F.binds fun _ _ _ _ _ _ us hl=>(by obtain ⟨x0,rfl⟩:=len_1 hl; rfl)⟩
theorem small_lt {n:Nat} (h:n≤2000):n < sizeLine:=Nat.lt_of_le_of_lt h (by decide)
theorem end_bad {r:List Str} {e f:Bool}:endB r e f=!(!(decide (r=[]) && (e || f)) && (e || !rowB r)):=by
 unfold endB
 by_cases h:r=[]
 · rw [decide_eq_true h]
   cases e with
   | true=>rw [if_pos ⟨h,rfl⟩]; rfl
   | false =>
     cases f with
     | true=>rw [if_pos ⟨h,rfl⟩]; rfl
     | false=>rw [if_neg fun z=>by cases z.2]; cases rowB r <;> rfl
 · rw [decide_eq_false h,if_neg fun z=>h z.1]
   cases e <;> cases rowB r <;> rfl
def GoodAt (ws:List Str) (i:Nat) (d:Nat) (r:List Str) (e f:Bool):Prop:=(i≤ws.length∧goodA 0 [] false false ws=goodA d r e f (ws.drop i))∨(i=ws.length + 1∧goodA 0 [] false false ws=decide (d=0))
theorem good_open {ws:List Str} {i d:Nat} {r:List Str} {e f:Bool} (h:GoodAt ws i d r e f) {x:V} (hx:(ws.map V.str++[.non])[i]?=some x) (ex:x=.str pO):i < ws.length∧goodA 0 [] false false ws=((!e && headB r && decide (d≠31)) && goodA (d + 1) [] false true (ws.drop (i + 1))):=by
 have hi:i < ws.length:=by
  refine Nat.lt_of_not_le fun z=>?_
  rw [List.getElem?_append_right (by rw [List.length_map]; exact z),List.length_map] at hx
  rcases Nat.eq_zero_or_pos (i - ws.length) with y | y
  · rw [y] at hx; cases hx; cases ex
  · rw [List.getElem?_eq_none (by simp; omega)] at hx; cases hx
 rw [List.getElem?_append_left (by rw [List.length_map]; exact hi),List.getElem?_map,List.getElem?_eq_getElem hi] at hx
 have hw:ws[i]=pO:=V.str.inj ((Option.some.inj hx).trans ex)
 rcases h with ⟨_,h⟩ | ⟨z,_⟩
 · rw [List.drop_eq_getElem_cons hi,hw,goodA_O] at h
   exact ⟨hi,h⟩
 · omega
theorem good_end {ws:List Str} {i d:Nat} {r:List Str} {e f:Bool} (h:GoodAt ws i d r e f) {x:V} (hx:(ws.map V.str++[.non])[i]?=some x) (ex:x=.non∨x=.str pS∨x=.str pC) :
 ((endB r e (f && decide (x=.str pC))=false∨(x=.str pC∧d=0))→goodA 0 [] false false ws=false)∧(endB r e (f && decide (x=.str pC))=true→¬ (x=.str pC∧d=0)→GoodAt ws (i + 1) (d - (decide (x=.str pC)).toNat) [] (decide (x=.str pC)) false):=by
 by_cases hi:i < ws.length
 · rw [List.getElem?_append_left (by rw [List.length_map]; exact hi),List.getElem?_map,List.getElem?_eq_getElem hi] at hx
   have hx:=Option.some.inj hx
   subst hx
   rcases h with ⟨_,h⟩ | ⟨z,_⟩
   rotate_left
   · omega
   rw [List.drop_eq_getElem_cons hi] at h
   rcases ex with ex | ex | ex
   · cases ex
   · have hw:ws[i]=pS:=V.str.inj ex
     rw [hw,goodA_S] at h
     have hd:decide (V.str ws[i]=V.str pC)=false:=decide_eq_false fun z=>by rw [hw] at z; exact absurd (V.str.inj z) (by decide +kernel)
     rw [hd,Bool.and_false]
     refine ⟨fun z=>?_,fun z _=>.inl ⟨hi,?_⟩⟩
     · rcases z with z | z
       · rw [h,z]; rfl
       · rw [decide_eq_false_iff_not] at hd; exact absurd z.1 hd
     · rw [h,z]; rfl
   · have hw:ws[i]=pC:=V.str.inj ex
     rw [hw,goodA_C] at h
     have hd:decide (V.str ws[i]=V.str pC)=true:=decide_eq_true ex
     rw [hd,Bool.and_true]
     refine ⟨fun z=>?_,fun z y=>.inl ⟨hi,?_⟩⟩
     · rcases z with z | z
       · rw [h,z]; rfl
       · rw [h,decide_eq_false (show ¬ (d≠0) from fun y=>y z.2),Bool.and_false]; rfl
     · rw [h,z,decide_eq_true (show d≠0 from fun y'=>y ⟨ex,y'⟩)]; rfl
 · have hi2:i=ws.length:=by
    rcases h with ⟨h,_⟩ | ⟨h,_⟩
    · omega
    · rw [List.getElem?_eq_none (by simp [h])] at hx; cases hx
   rw [List.getElem?_append_right (by rw [List.length_map,hi2]; exact Nat.le_refl _),List.length_map,hi2,Nat.sub_self] at hx
   cases hx
   rcases h with ⟨_,h⟩ | ⟨z,_⟩
   rotate_left
   · omega
   rw [hi2,List.drop_length,goodA_nil] at h
   have hd:decide (V.non=V.str pC)=false:=decide_eq_false fun z=>by cases z
   rw [hd,Bool.and_false]
   refine ⟨fun z=>?_,fun z _=>.inr ⟨by rw [hi2],?_⟩⟩
   · rcases z with z | z
     · rw [h,z]; rfl
     · cases z.1
   · rw [h,z]; rfl
theorem good_more {ws:List Str} {i d:Nat} {r:List Str} {e f:Bool} (h:GoodAt ws i d r e f) {x:V} (hx:(ws.map V.str++[.non])[i]?=some x) (n1:x≠.str pO) (n2:¬ (x=.non∨x=.str pS∨x=.str pC)):∃ w,x=.str w∧w∈ws∧i < ws.length∧GoodAt ws (i + 1) d (r++[w]) e f:=by
 by_cases hi:i < ws.length
 · rw [List.getElem?_append_left (by rw [List.length_map]; exact hi),List.getElem?_map,List.getElem?_eq_getElem hi] at hx
   have hx:=Option.some.inj hx
   subst hx
   rcases h with ⟨_,h⟩ | ⟨z,_⟩
   rotate_left
   · omega
   refine ⟨_,rfl,List.getElem_mem hi,hi,.inl ⟨hi,?_⟩⟩
   rw [List.drop_eq_getElem_cons hi,goodA,if_neg (fun z=>n1 (congrArg V.str z)),if_neg (fun z=>n2 (.inr (.inl (congrArg V.str z)))),if_neg (fun z=>n2 (.inr (.inr (congrArg V.str z))))] at h
   exact h
 · exfalso
   have hi2:i=ws.length:=by
    rcases h with ⟨h,_⟩ | ⟨h,_⟩
    · omega
    · rw [List.getElem?_eq_none (by simp [h])] at hx; cases hx
   rw [List.getElem?_append_right (by rw [List.length_map,hi2]; exact Nat.le_refl _),List.length_map,hi2,Nat.sub_self] at hx
   cases hx
   exact n2 (.inl rfl)
theorem val_of {ws:List Str} {i:Nat} {x:V} (hx:(ws.map V.str++[.non])[i]?=some x):x=.non∨∃ w,x=.str w:=by
 have:=List.mem_of_getElem? hx
 rcases List.mem_append.mp this with h | h
 · obtain ⟨w,_,rfl⟩:=List.mem_map.mp h
   exact .inr ⟨w,rfl⟩
 · exact .inl (List.mem_singleton.mp h)
def sp__law_good (K:PySem.W.Frag):Sp:=fun vs H Q _=>∃ (L:Addr) (ws:List Str),vs=[.ref L]∧H L=some (.lst (ws.map V.str))∧ws.length≤1000∧(∀ x∈ws,x.length≤1000)∧∀ H',Same H H'→Q (.bl (goodA 0 [] false false ws)) H'
theorem ok__law_good (B:Blt mg) (ER:Ers K mg) (c__law_head:C__law_head P w K mg base) (c__law_row:C__law_row P w K mg base) (F:Fun K "_law_good" "_law_good" s__law_good f fd):FnOk P w K mg base CX0 4 f fd ["_law_words_here"] (sp__law_good K):=by
 refine F.ok sc__law_good (fun vs H Q E h=>?_) (fun cdv A outer s H vs Q E hr h=>?_)
 · obtain ⟨L,ws,rfl,_⟩:=h
   rfl
 · obtain ⟨L,ws,rfl,eL,h1000,hw,q⟩:=h
   refine ⟨_,(pss_cons (ps_set (i:=1) sc__law_good.nd pe_int)
    (pss_cons (ps_set (i:=2) sc__law_good.nd (pe_lst pa_nil))
    (pss_cons (ps_set (i:=3) sc__law_good.nd pe_bl)
    (pss_cons (ps_set (i:=4) sc__law_good.nd pe_bl)
    (pss_cons (ps_for PassesOwn.never rfl (pi_list (pe_op op_cat (pv 0) (pe_lst (pa_cons pe_non pa_nil)))) (pg_name (i:=5) sc__law_good.nd) (pss_one (ps_if (pt_cmpR op_eq (pv 5) pe_str (nomark _)) (pss_cons (ps_if (PW.pt (pw_or (pt_val (pv 3)) (pw_or (pt_not (pt_val (pe_fn c__law_head (pa_cons (pv 2) pa_nil)))) (pw_or1 (pt_cmpR op_eq (pv 1) pe_int (nomark _)))))) (pss_one (ps_ret pe_bl)) pss_nil)
     (pss_cons (ps_set (i:=1) sc__law_good.nd (pe_op op_add (pv 1) pe_int))
     (pss_cons (ps_set (i:=2) sc__law_good.nd (pe_lst pa_nil))
     (pss_one (ps_set (i:=4) sc__law_good.nd pe_bl))))) (pss_one (ps_if (PW.pt (pw_or (pt_cmp (pc_isN (pv 5))) (pw_or1 (pt_cmpR op_in_seq (pv 5) (pe_tup (pa_cons pe_str (pa_cons pe_str pa_nil))) (by with_unfolding_all rfl))))) (pss_cons (ps_set (i:=6) sc__law_good.nd (pe_and (pe_cmpR (op_eqD hr.units) (pv 2) (pe_lst pa_nil) (nomark _)) (pe_one (pe_or (pv 3) (pe_one (pe_and (pv 4) (pe_one (pe_cmpR op_eq (pv 5) pe_str (nomark _)))))))))
      (pss_cons (ps_if (PW.pt (pw_or (PW.pt (pw_and (pt_not (pt_val (pv 6))) (pw_and1 (PW.pt (pw_or (pt_val (pv 3)) (pw_or1 (pt_not (pt_val (pe_fn c__law_row (pa_cons (pv 2) pa_nil)))))))))) (pw_or1 (PW.pt (pw_and (pt_cmpR op_eq (pv 5) pe_str (nomark _)) (pw_and1 (pt_cmpR op_eq (pv 1) pe_int (nomark _)))))))) (pss_one (ps_ret pe_bl)) pss_nil)
      (pss_cons (ps_set (i:=1) sc__law_good.nd (pe_op op_sub (pv 1) (pe_callTy call_int1 B.b_int (pa_cons (pe_cmpR op_eq (pv 5) pe_str (nomark _)) pa_nil))))
      (pss_cons (ps_set (i:=3) sc__law_good.nd (pe_cmpR op_eq (pv 5) pe_str (nomark _)))
      (pss_cons (ps_set (i:=4) sc__law_good.nd pe_bl)
      (pss_one (ps_set (i:=2) sc__law_good.nd (pe_lst pa_nil)))))))) (pss_one (ps_expr (pe_bm PySem.F.plainAttrs_list PySem.F.slot_list_append PySem.F.type_list_append mr_append (pv 2) (pa_cons (pv 5) pa_nil)))))))))
    (pss_one (ps_ret (pe_cmpR op_eq (pv 1) pe_int (nomark _))))))))),?_⟩
   refine g_in ?_
   try dsimp only
   refine ⟨by decide,fun R hR=>?_⟩
   obtain ⟨H1,qH1,s1,eR⟩:=new_at (o:=.lst []) hR
   rw [←qH1]
   refine g_in ?_
   try dsimp only
   refine g_in ?_
   try dsimp only
   refine g_in ?_
   try dsimp only
   refine ⟨_,rfl,one_le,fun Z hZ=>?_⟩
   obtain ⟨H2,qH2,s2,eZ⟩:=new_at (o:=.lst [.non]) hZ
   rw [←qH2]
   refine ⟨L,Z,_,_,rfl,rfl,(s1.trans s2) _ _ eL,eZ,by rw [List.length_map]; exact Nat.le_of_lt (small_lt (by show ws.length + 1≤2000; omega)),fun p hp=>?_⟩
   have s3:=same_new (o:=.lst (ws.map V.str++[.non])) hp
   have ep:(upd H2 p (.lst (ws.map V.str++[.non]))) p=some (.lst (ws.map V.str++[.non])):=upd_same
   have nRp:R≠p:=fun z=>by rw [←z,s2 _ _ eR] at hp; cases hp
   have eR:=(s2.trans s3) _ _ eR
   have s13:=(s1.trans s2).trans s3
   generalize upd H2 p (.lst (ws.map V.str++[.non]))=H3 at s3 ep eR s13 ⊢
   refine ⟨p,rfl,⟨_,SqL.of ep⟩,for_list (xs:=ws.map V.str++[.non]) (fun i σ H'=>∃ (d:Nat) (R:Addr) (r:List Str) (e f:Bool) (w5 w6:Option V),σ=[some (.ref L),some (.int (d:Int)),some (.ref R),some (.bl e),some (.bl f),w5,w6]∧Same H H'∧H' p=some (.lst (ws.map V.str++[.non]))∧H R=none∧R≠p∧H' R=some (.lst (r.map V.str))∧r.length≤i∧(∀ x∈r,x.length≤1000)∧GoodAt ws i d r e f) ⟨0,R,[],false,false,none,none,rfl,s13,ep,hR,nRp,eR,Nat.le_refl _,(fun x hx=>by cases hx),.inl ⟨Nat.zero_le _,rfl⟩⟩ (fun i σ H' _ ⟨_,_,_,_,_,_,_,_,_,e,_⟩=>SqL.of e) ?_ ?_⟩
   rotate_left
   · rintro σ H4 ⟨d,R,r,e,f,w5,w6,rfl,s4,_,_,_,_,_,_,g⟩
     refine ⟨_,rfl,rfl,?_⟩
     rcases g with ⟨z,_⟩ | ⟨_,g⟩
     · rw [List.length_append,List.length_map] at z
       exact absurd z (by simp)
     · rw [int_dec,show decide ((d:Int)=0)=decide (d=0) by rw [Bool.eq_iff_iff,decide_eq_true_eq,decide_eq_true_eq]; omega,←g]
       exact q H4 s4
   rintro i x σ H4 hx ⟨d,R,r,e,f,w5,w6,rfl,s4,ep,hR,nRp,eR,hri,hrl,g⟩
   refine g_in ?_
   try dsimp only
   have hv:=val_of hx
   have hsc:∀ y:Str,scal x (.str y)=true:=fun y=>by rcases hv with rfl | ⟨w,rfl⟩ <;> rfl
   have hil:i≤1000:=by
    have:=(List.getElem?_eq_some_iff.mp hx).1
    rw [List.length_append,List.length_map] at this
    have:i < ws.length + 1:=this
    omega
   refine if_cut (fun H'=>H'=H4∧x=.str pO) (fun H'=>H'=H4∧x≠.str pO) ?_ ?_ (fun N1 N2 m1 m2=>⟨_,rfl,hsc _,_,rfl,ite2 (fun z=>m1 _ ⟨rfl,of_decide_eq_true z⟩) (fun z=>m2 _ ⟨rfl,fun y=>z (decide_eq_true y)⟩)⟩)
   · rintro H4 ⟨rfl, ex⟩
     obtain ⟨hi,hg⟩:=good_open g hx ex
     refine seq_cut (fun σ' H'=>σ'=[some (.ref L),some (.int (d:Int)),some (.ref R),some (.bl e),some (.bl f),some x,w6]∧Same H4 H'∧e=false∧goodA 0 [] false false ws=goodA (d + 1) [] false true (ws.drop (i + 1))) ?_ (fun NN hNN=>?_)
     case refine_2 =>
      refine if_cut (fun H'=>Same H4 H'∧goodA 0 [] false false ws=false) (fun H'=>Same H4 H'∧e=false∧goodA 0 [] false false ws=goodA (d + 1) [] false true (ws.drop (i + 1))) (fun H' hz=>?_) (fun H' hz=>hNN _ _ ⟨rfl,hz⟩) (fun N1 N2 m1 m2=>?_)
      · have:=q H' (s4.trans hz.1)
        rw [hz.2] at this
        exact this
      refine ⟨_,rfl,_,rfl,?_⟩
      cases e with
      | true=>exact iteT (m1 _ ⟨Same.refl _,hg⟩)
      | false =>
        refine iteF ⟨_,rfl,R,r,rfl,eR,hrl,fun H5 s5=>⟨_,rfl,?_⟩⟩
        cases hb:headB r with
        | false=>rw [hb] at hg; exact iteT (m1 _ ⟨s5,hg⟩)
        | true =>
          rw [hb] at hg
          refine iteF ⟨_,rfl,rfl,_,rfl,?_⟩
          rw [int_dec]
          by_cases h31:d=31
          · rw [decide_eq_true (by rw [h31]; rfl)]
            rw [decide_eq_false (fun z=>z h31)] at hg
            exact m1 _ ⟨s5,hg⟩
          · rw [decide_eq_false (by omega)]
            rw [decide_eq_true h31] at hg
            exact m2 _ ⟨s5,rfl,hg⟩
     rintro σ' H5 ⟨rfl,s5,rfl,hg2⟩
     refine ⟨_,rfl,_,_,rfl,rfl,?_⟩
     refine g_in ?_
     try dsimp only
     refine ⟨by decide,fun R2 hR2=>?_⟩
     obtain ⟨H6,qH6,s6,e6⟩:=new_at (o:=.lst []) hR2
     rw [←qH6]
     refine g_in ?_
     try dsimp only
     have s45:=s4.trans s5
     have ep5:=s5 _ _ ep
     exact ⟨d + 1,R2,[],false,true,_,_,rfl,s45.trans s6,s6 _ _ ep5,s45.free hR2,(fun z=>by rw [z,ep5] at hR2; cases hR2),e6,Nat.zero_le _,(fun x hx=>by cases hx),.inl ⟨hi,hg2⟩⟩
   rintro H4 ⟨rfl,nO⟩
   refine if_cut (fun H'=>Same H4 H'∧(x=.non∨x=.str pS∨x=.str pC)) (fun H'=>Same H4 H'∧¬ (x=.non∨x=.str pS∨x=.str pC)) ?_ ?_ (fun N1 N2 m1 m2=>?_)
   rotate_left 2
   · refine ⟨_,rfl,_,rfl,?_⟩
     by_cases hn:x=.non
     · rw [decide_eq_true hn]
       exact iteT (m1 _ ⟨Same.refl _,.inl hn⟩)
     rw [decide_eq_false hn]
     obtain ⟨w,rfl⟩:=hv.resolve_left hn
     refine iteF ⟨_,rfl,two_le,fun u hu=>⟨u,_,rfl,Or.inr (SqT.of upd_same),rfl,rfl,_,rfl,?_⟩⟩
     have s5:=same_new (o:=.tup [.str (";" : Str),.str (")" : Str)]) hu
     rw [show (if false=true then !inV (.str w) [.str (";" : Str),.str (")" : Str)] else inV (.str w) [.str (";" : Str),.str (")" : Str)])=_ from in2 _ _ _]
     by_cases hc:w=pS∨w=pC
     · rw [show (decide (w=(";" : Str)) || decide (w=(")" : Str)))=true by simpa using hc]
       exact m1 _ ⟨s5,hc.elim (fun z=>.inr (.inl (by rw [z]))) (fun z=>.inr (.inr (by rw [z])))⟩
     · rw [show (decide (w=(";" : Str)) || decide (w=(")" : Str)))=false from Bool.eq_false_iff.mpr fun z=>hc (by simpa using z)]
       exact m2 _ ⟨s5,fun z=>z.elim (fun y=>by cases y) fun y=>hc (y.imp V.str.inj V.str.inj)⟩
   · rintro H5 ⟨s5, hend⟩
     obtain ⟨gb,gg⟩:=good_end g hx hend
     have eR5:=s5 _ _ eR
     have s45:=s4.trans s5
     obtain ⟨c,hc⟩:∃ c,decide (x=V.str pC)=c:=⟨_,rfl⟩
     have hcx:x=.str pC↔c=true:=by rw [←hc,decide_eq_true_eq]
     rw [hc,hcx] at gb gg
     refine seq_cut (fun σ' H'=>σ'=[some (.ref L),some (.int (d:Int)),some (.ref R),some (.bl e),some (.bl f),some x,some (.bl (decide (r=[]) && (e || (f && c))))]∧Same H5 H') ?_ (fun NN hNN=>?_)
     case refine_2 =>
      refine ⟨_,rfl,by decide,fun Y hY=>?_⟩
      obtain ⟨H6,qH6,s6,eY⟩:=new_at (o:=.lst []) hY
      rw [←qH6]
      refine ⟨2,_,_,.lst (Cmps.nil' _),by decide,.lst (SqL.of (s6 _ _ eR5)) (IsDts.strs _),.lst (SqL.of eY) .nil,_,rfl,?_⟩
      rw [lst_nil]
      cases hr0:decide (r=[]) with
      | false=>exact iteF (hNN _ _ ⟨by rw [hr0]; rfl,s6⟩)
      | true =>
        refine iteT ⟨_,rfl,_,rfl,?_⟩
        cases he:e with
        | true=>exact iteT (hNN _ _ ⟨by rw [hr0,he]; rfl,s6⟩)
        | false =>
          refine iteF ⟨_,rfl,_,rfl,?_⟩
          cases hf:f with
          | false=>exact iteF (hNN _ _ ⟨by rw [hr0,he,hf]; rfl,s6⟩)
          | true =>
            refine iteT ⟨_,rfl,hsc _,?_⟩
            rw [hc]
            exact hNN _ _ ⟨by rw [hr0,he,hf]; rfl,s6⟩
     rintro σ' H6 ⟨rfl,s6⟩
     have eR6:=s6 _ _ eR5
     have hEB:=@end_bad r e (f && c)
     generalize hem:(decide (r=[]) && (e || (f && c)))=em at hEB ⊢
     refine seq_cut (fun σ' H'=>σ'=[some (.ref L),some (.int (d:Int)),some (.ref R),some (.bl e),some (.bl f),some x,some (.bl em)]∧Same H6 H'∧endB r e (f && c)=true∧¬ (c=true∧d=0)) ?_ (fun NN hNN=>?_)
     case refine_2 =>
      refine if_cut (fun H'=>Same H6 H'∧(endB r e (f && c)=false∨(c=true∧d=0))) (fun H'=>Same H6 H'∧endB r e (f && c)=true∧¬ (c=true∧d=0)) (fun H' hz=>?_) (fun H' hz=>hNN _ _ ⟨rfl,hz⟩) (fun N1 N2 m1 m2=>?_)
      · have:=q H' ((s45.trans s6).trans hz.1)
        rw [gb hz.2] at this
        exact this
      have tail : ∀ H7, Same H6 H7 → endB r e (f && c) = true → ∃ v, [some (V.ref L), some (V.int (d : Int)), some (V.ref R), some (V.bl e), some (V.bl f), some x, some (V.bl em)][5]? = some (some v) ∧ (scal v (.str (")" : Str)) = true ∧ ∃ k, V.bl (decide (v = .str (")" : Str))) = .bl k ∧ if k = true then ∃ v, [some (V.ref L), some (V.int (d : Int)), some (V.ref R), some (V.bl e), some (V.bl f), some x, some (V.bl em)][1]? = some (some v) ∧ scal v (.int 0) = true ∧ ∃ k, V.bl (decide (v = .int 0)) = .bl k ∧ (if k = true then N1 H7 else N2 H7) else (if false = true then N1 H7 else N2 H7)) := by
       intro H7 s7 hE
       refine ⟨_,rfl,hsc _,_,rfl,?_⟩
       rw [hc]
       cases hcc:c with
       | false=>exact iteF (m2 _ ⟨s7,hE,fun z=>by rw [hcc] at z; cases z.1⟩)
       | true =>
         refine iteT ⟨_,rfl,rfl,_,rfl,?_⟩
         rw [int_dec]
         by_cases h0:d=0
         · rw [decide_eq_true (by rw [h0]; rfl)]
           exact m1 _ ⟨s7,.inr ⟨hcc,h0⟩⟩
         · rw [decide_eq_false (by omega)]
           exact m2 _ ⟨s7,hE,fun z=>h0 z.2⟩
      refine ⟨_,rfl,_,rfl,?_⟩
      cases hm:em with
      | true =>
        rw [hm] at hEB
        exact iteF (iteF (tail _ (Same.refl _) (by rw [hEB]; rfl)))
      | false =>
        rw [hm] at hEB
        refine iteT ⟨_,rfl,_,rfl,?_⟩
        cases he:e with
        | true =>
          rw [he] at hEB
          exact iteT (iteT (m1 _ ⟨Same.refl _,.inl (by rw [he,hEB]; rfl)⟩))
        | false =>
          rw [he] at hEB
          refine iteF ⟨_,rfl,R,r,rfl,eR6,hrl,fun H7 s7=>⟨_,rfl,?_⟩⟩
          cases hb:rowB r with
          | false =>
            rw [hb] at hEB
            exact iteT (m1 _ ⟨s7,.inl (by rw [he,hEB]; rfl)⟩)
          | true =>
            rw [hb] at hEB
            exact iteF (tail _ s7 (by rw [he,hEB]; rfl))
     rintro σ' H7 ⟨rfl,s7,hE,hcd⟩
     have gN:=gg hE hcd
     refine ⟨_,rfl,_,rfl,hsc _,Or.inr ⟨_,rfl,_,_,rfl,rfl,?_⟩⟩
     have hdc:(d:Int) - (if c=true then 1 else 0)=((d - c.toNat:Nat):Int):=by
      cases hcc:c with
      | false=>rw [if_neg (by decide)]; show (d:Int) - 0=((d - 0:Nat):Int); omega
      | true =>
        rw [if_pos rfl]
        have:d≠0:=fun z=>hcd ⟨hcc,z⟩
        show (d:Int) - 1=((d - 1:Nat):Int)
        omega
     refine g_in ?_
     try dsimp only
     rw [hc,hdc]
     refine ⟨_,rfl,hsc _,?_⟩
     rw [hc]
     refine g_in ?_
     try dsimp only
     refine g_in ?_
     try dsimp only
     refine ⟨by decide,fun R2 hR2=>?_⟩
     obtain ⟨H8,qH8,s8,e8⟩:=new_at (o:=.lst []) hR2
     rw [←qH8]
     have s47:=(s45.trans s6).trans s7
     have ep7:=s7 _ _ (s6 _ _ (s5 _ _ ep))
     exact ⟨d - c.toNat,R2,[],c,false,_,_,rfl,s47.trans s8,s8 _ _ ep7,s47.free hR2,(fun z=>by rw [z,ep7] at hR2; cases hR2),e8,Nat.zero_le _,(fun x hx=>by cases hx),gN⟩
   rintro H5 ⟨s5,hno⟩
   obtain ⟨w,rfl,hwm,hi,gN⟩:=good_more g hx nO hno
   have eR5:=s5 _ _ eR
   refine ⟨_,rfl,Or.inl ⟨rfl,_,SqL.of eR5⟩,_,rfl,R,_,_,rfl,rfl,eR5,by rw [List.length_map]; exact small_lt (by omega),?_⟩
   refine ⟨d,R,r++[w],e,f,_,_,rfl,?_,(upd_ne (Ne.symm nRp)).trans (s5 _ _ ep),hR,nRp,by rw [upd_same,List.map_append]; rfl,by rw [List.length_append]; show r.length + 1≤_; omega,fun y hy=>?_,gN⟩
   · intro b o eb
     rw [upd_ne (ne_of_none eb hR)]
     exact (s4.trans s5) b o eb
   · rcases List.mem_append.mp hy with z | z
     · exact hrl y z
     · rw [List.mem_singleton.mp z]; exact hw w hwm
variable (P w K mg base) in
abbrev C__law_good:Prop:=Callee P w K mg base "_law_good" 4 ["_law_words_here"] (sp__law_good K)
theorem call__law_good (B:Blt mg) (ER:Ers K mg) (c__law_head:C__law_head P w K mg base) (c__law_row:C__law_row P w K mg base) (F:Fun K "_law_good" "_law_good" s__law_good f fd) (hm:mg "_law_good" = some (.ref f)):C__law_good P w K mg base :=
 ⟨f,fd,ok__law_good B ER c__law_head c__law_row F,hm,F.kp,F.binds fun _ _ _ _ _ _ us hl=>(by obtain ⟨x0,rfl⟩:=len_1 hl; rfl)⟩
def sp_written_path (_:PySem.W.Frag):Sp:=fun vs H Q _=>∃ (u:Addr) (p:List Str),vs=[.ref u]∧H u=some (.tup (p.map V.str))∧PthOk p∧Q (.str (dotW p)) H
theorem ok_written_path (B:Blt mg) (ER:Ers K mg)  (F:Fun K "written_path" "written_path" s_written_path f fd):FnOk P w K mg base CX0 1 f fd ["path"] (sp_written_path K):=by
 refine F.ok sc_written_path (fun vs H Q E h=>?_) (fun cdv A outer s H vs Q E hr h=>?_)
 · obtain ⟨u,p,rfl,_⟩:=h
   rfl
 · obtain ⟨u,p,rfl,eu,hp,q⟩:=h
   refine ⟨_,(pss_one (ps_ret (pe_bm PySem.F.plainAttrs_str PySem.F.slot_str_join PySem.F.type_str_join mt_joinT pe_str (pa_cons (pv 0) pa_nil)))),?_⟩
   exact ⟨rfl,_,rfl,("." : Str),u,p,rfl,rfl,SqT.of eu,dot_ok hp,q⟩
variable (P w K mg base) in
abbrev C_written_path:Prop:=Callee P w K mg base "written_path" 1 ["path"] (sp_written_path K)
theorem call_written_path (B:Blt mg) (ER:Ers K mg)  (F:Fun K "written_path" "written_path" s_written_path f fd) (hm:mg "written_path" = some (.ref f)):C_written_path P w K mg base :=
 ⟨f,fd,ok_written_path B ER  F,hm,F.kp,F.binds fun _ _ _ _ _ _ us hl=>(by obtain ⟨x0,rfl⟩:=len_1 hl; rfl)⟩
def sp_words_of_sort (_:PySem.W.Frag):Sp:=fun vs H Q _=>∃ (v:V) (o:Option (List Str)),vs=[v]∧OfH H v o∧(∀ p,o=some p→PthOk p)∧∀ (D:Addr) (H':Hp),Same H H'→H D=none→H' D=some (.lst ((ofW o).map V.str))→Q (.ref D) H'
theorem ok_words_of_sort (B:Blt mg) (ER:Ers K mg) (c_written_path:C_written_path P w K mg base) (F:Fun K "words_of_sort" "words_of_sort" s_words_of_sort f fd):FnOk P w K mg base CX0 2 f fd ["path"] (sp_words_of_sort K):=by
 refine F.ok sc_words_of_sort (fun vs H Q E h=>?_) (fun cdv A outer s H vs Q E hr h=>?_)
 · obtain ⟨v,o,rfl,_⟩:=h
   rfl
 · obtain ⟨v,o,rfl,ho,hp,q⟩:=h
   refine ⟨_,(pss_cons (ps_if (pt_cmp (pc_isN (pv 0))) (pss_one (ps_ret (pe_lst pa_nil))) pss_nil)
    (pss_one (ps_ret (pe_lst (pa_cons pe_str (pa_cons (pe_fn c_written_path (pa_cons (pv 0) pa_nil)) pa_nil)))))),?_⟩
   cases o with
   | none =>
     obtain rfl:v=.non:=ho
     refine ⟨_,rfl,_,rfl,?_⟩
     rw [decide_eq_true rfl]
     refine iteT ?_
     exact ⟨by decide,fun D hD=>q D _ (same_new hD) hD upd_same⟩
   | some p =>
     obtain ⟨u,rfl,eu⟩:=ho
     refine ⟨_,rfl,_,rfl,?_⟩
     rw [decide_eq_false (by intro z; cases z)]
     refine iteF ?_
     exact ⟨_,rfl,u,p,rfl,eu,hp p rfl,two_le,fun D hD=>q D _ (same_new hD) hD upd_same⟩
variable (P w K mg base) in
abbrev C_words_of_sort:Prop:=Callee P w K mg base "words_of_sort" 2 ["path"] (sp_words_of_sort K)
theorem call_words_of_sort (B:Blt mg) (ER:Ers K mg) (c_written_path:C_written_path P w K mg base) (F:Fun K "words_of_sort" "words_of_sort" s_words_of_sort f fd) (hm:mg "words_of_sort" = some (.ref f)):C_words_of_sort P w K mg base :=
 ⟨f,fd,ok_words_of_sort B ER c_written_path F,hm,F.kp,F.binds fun _ _ _ _ _ _ us hl=>(by obtain ⟨x0,rfl⟩:=len_1 hl; rfl)⟩
def sp_with_between (_:PySem.W.Frag):Sp:=fun vs H Q _=>∃ (l:Addr) (us:List Addr) (ws:List (List Str)) (sg:Str),vs=[.ref l,.str sg]∧H l=some (.lst (us.map V.ref))∧Wds H us ws∧ws.length≤1000∧(∀ g∈ws,g.length≤7000)∧∀ (D:Addr) (H':Hp),H D=none→Same H H'→H' D=some (.lst ((btw sg ws).map V.str))→Q (.ref D) H'
theorem ok_with_between (B : Blt mg) (ER : Ers K mg)  (F : Fun K "with_between" "with_between" s_with_between f fd) : FnOk P w K mg base CX0 1 f fd ["groups", "sign"] (sp_with_between K) := by
 refine F.ok sc_with_between (fun vs H Q E h=>?_) (fun cdv A outer s H vs Q E hr h=>?_)
 · obtain ⟨l,us,ws,sg,rfl,_⟩:=h
   rfl
 · obtain ⟨l,us,ws,sg,rfl,eL,W,hw,hg,q⟩:=h
   have lus:=W.len
   have tkl:∀ i,(btw sg (ws.take i)).length≤7010000:=fun i=>by
    have:=btw_len (sg:=sg) (m:=7000) (gs:=ws.take i) fun g hm=>hg g (List.mem_of_mem_take hm)
    rw [List.length_take] at this
    have h2:min i ws.length * (7000 + 1)≤1000 * 7001:=Nat.mul_le_mul (by omega) (Nat.le_refl _)
    omega
   refine ⟨_,(pss_cons (ps_set (i:=2) sc_with_between.nd (pe_lst pa_nil))
    (pss_cons (ps_for PassesOwn.never rfl (pi_enum rfl B.b_enumerate (pa_cons (pv 0) pa_nil)) (pg_tup (n:=2) rfl (pgs_cons (pg_name (i:=3) sc_with_between.nd) (pgs_cons (pg_name (i:=4) sc_with_between.nd) pgs_nil))) (pss_cons (ps_if (pt_cmpR op_gt (pv 3) pe_int (nomark _)) (pss_one (ps_expr (pe_bm PySem.F.plainAttrs_list PySem.F.slot_list_append PySem.F.type_list_append mr_append (pv 2) (pa_cons (pv 1) pa_nil)))) pss_nil)
     (pss_one (ps_expr (pe_bm PySem.F.plainAttrs_list PySem.F.slot_list_extend PySem.F.type_list_extend mr_extend (pv 2) (pa_cons (pv 4) pa_nil))))))
    (pss_one (ps_ret (pv 2))))),?_⟩
   refine ⟨by decide,fun D hD=>?_⟩
   refine ⟨_,rfl,l,rfl,⟨_,(same_new hD) _ _ eL⟩,for_enum (xs:=us.map V.ref) (fun i σ H'=>∃ u3 u4,σ=[some (.ref l),some (.str sg),some (.ref D),u3,u4]∧Same H H'∧H' D=some (.lst ((btw sg (ws.take i)).map V.str))) ⟨none,none,rfl,same_new hD,upd_same⟩ (fun i σ H' ⟨_,_,_,e,_⟩=>SqL.of (e _ _ eL)) ?_ ?_⟩
   · rintro i x T σ H2 hx hT ⟨u3,u4,rfl,s2,eD⟩
     obtain ⟨u,hu,rfl⟩:=getm hx
     have hil:i < ws.length:=by rw [←lus]; exact (List.getElem?_eq_some_iff.mp hu).1
     have hgi:=List.getElem?_eq_getElem hil
     have eu:=W.at_ i u _ hu hgi
     have gl:=hg _ (List.mem_of_getElem? hgi)
     have hb:=btw_take (sg:=sg) hgi
     have tki:=tkl i
     refine ⟨T,_,rfl,SqT.of upd_same,rfl,_,_,rfl,_,_,rfl,rfl,?_⟩
     have s3:=s2.trans (same_new (o:=.tup [.int i,.ref u]) hT)
     have eD3:=same_new (o:=.tup [.int i,.ref u]) hT _ _ eD
     generalize upd H2 T (.tup [.int i,.ref u])=H3 at s3 eD3 ⊢
     refine seq_cut (fun σ' H'=>σ'=[some (.ref l),some (.str sg),some (.ref D),some (.int i),some (.ref u)]∧Same H H'∧H' D=some (.lst ((if i=0 then [] else btw sg (ws.take i)++[sg]).map V.str))) ?_ (fun N hN=>?_)
     case refine_2 =>
      refine ⟨_,rfl,_,_,rfl,rfl,_,rfl,?_⟩
      refine ite2 (fun h1=>?_) (fun h1=>?_)
      · have h1:i≠0:=by have:((i:Nat):Int) > 0:=of_decide_eq_true h1; omega
        refine ⟨_,rfl,Or.inl ⟨rfl,_,SqL.of eD3⟩,_,rfl,D,_,_,rfl,rfl,eD3,?_,?_⟩
        · rw [List.length_map]; exact Nat.lt_of_le_of_lt tki (by decide)
        refine hN _ _ ⟨rfl,fun b o e=>?_,?_⟩
        · rw [upd_ne (ne_of_none e hD)]; exact s3 b o e
        · rw [upd_same,if_neg h1,List.map_append]; rfl
      · have h1:i=0:=by
         refine Nat.eq_zero_of_not_pos fun z=>h1 (decide_eq_true ?_)
         show ((i:Nat):Int) > 0
         omega
        refine hN _ _ ⟨rfl,s3,?_⟩
        rw [if_pos h1,eD3,h1]; rfl
     rintro σ' H4 ⟨rfl,s4,eD4⟩
     have eu4:=s4 _ _ eu
     refine ⟨_,rfl,Or.inl ⟨rfl,_,SqL.of eD4⟩,_,rfl,D,u,_,_,rfl,rfl,eD4,eu4,?_,?_⟩
     · rw [List.length_map,List.length_map]
       have:(if i=0 then [] else btw sg (ws.take i)++[sg]).length≤7010001:=by
        split
        · exact Nat.zero_le _
        · rw [List.length_append,List.length_singleton]; omega
       exact Nat.le_trans (show _≤7100000 by omega) (by decide)
     refine ⟨_,_,rfl,fun b o e=>?_,?_⟩
     · rw [upd_ne (ne_of_none e hD)]; exact s4 b o e
     · rw [upd_same,hb,List.map_append]
   · rintro σ H2 ⟨u3,u4,rfl,s2,eD⟩
     rw [List.length_map,lus,List.take_length] at eD
     exact ⟨_,rfl,q D H2 hD s2 eD⟩
variable (P w K mg base) in
abbrev C_with_between:Prop:=Callee P w K mg base "with_between" 1 ["groups", "sign"] (sp_with_between K)
theorem call_with_between (B:Blt mg) (ER:Ers K mg)  (F:Fun K "with_between" "with_between" s_with_between f fd) (hm:mg "with_between" = some (.ref f)):C_with_between P w K mg base :=
 ⟨f,fd,ok_with_between B ER  F,hm,F.kp,F.binds fun _ _ _ _ _ _ us hl=>(by obtain ⟨x0,x1,rfl⟩:=len_2 hl; rfl)⟩
def spn_words_of (K:PySem.W.Frag) (n:Nat):Sp:=fun vs H Q _=>∃ (P:Addr) (as:List Addr) (ts:List Tre),vs=[.ref P]∧depL ts < n∧H P=some (.lst (as.map V.ref))∧TresH K H as ts∧OkL ts∧szL ts≤1000∧∀ (D:Addr) (H':Hp),Same H H'→H D=none→H' D=some (.lst ((wrdL ts).map V.str))→Q (.ref D) H'
def spn_words_of_item (K:PySem.W.Frag) (n:Nat):Sp:=fun vs H Q _=>∃ (a:Addr) (t:Tre),vs=[.ref a]∧dep t≤n∧TreH K H a t∧OkT t∧szT t≤1000∧∀ (D:Addr) (H':Hp),Same H H'→H D=none→H' D=some (.lst ((wrdT t).map V.str))→Q (.ref D) H'
theorem ok_words_of_item {f:Addr} {fd:FuncData} {n:Nat} (B:Blt mg) (ER:Ers K mg) (c_words_of_n:Callee P w K mg base "words_of" (3 + 2 * n) ["program"] (spn_words_of K n)) (c_words_of_sort:C_words_of_sort P w K mg base) (c_written_path:C_written_path P w K mg base) (F:Fun K "words_of_item" "words_of_item" s_words_of_item f fd):FnOk P w K mg base CX0 (3 + 2 * n + 1) f fd ["item"] (spn_words_of_item K n):=by
 refine F.ok sc_words_of_item (fun vs H Q E h=>?_) (fun cdv A outer s H vs Q E hr h=>?_)
 · obtain ⟨a,t,rfl,_⟩:=h
   rfl
 · obtain ⟨a,t,rfl,hd,ht,ok,h90,q⟩:=h
   refine ⟨_,(pss_cons (ps_if (pt_val (pe_callB (id := "isinstance") (r:=rIsiI K) call_isiI B.b_isinstance (pa_cons (pv 0) (pa_cons (pe_glob (v:=.ref (clsA K "Part")) rfl ER.e_Part rfl) pa_nil)))) (pss_one (ps_ret (pe_op op_cat (pe_op op_cat (pe_lst (pa_cons pe_str (pa_cons (pe_fld (pv 0) rfl) (pa_cons (pe_fld (pv 0) rfl) (pa_cons pe_str pa_nil))))) (pe_fn c_words_of_n (pa_cons (pe_fld (pv 0) rfl) pa_nil) (hr.mono (by omega)))) (pe_lst (pa_cons pe_str pa_nil))))) pss_nil)
    (pss_cons (ps_if (pt_val (pe_callB (id := "isinstance") (r:=rIsiI K) call_isiI B.b_isinstance (pa_cons (pv 0) (pa_cons (pe_glob (v:=.ref (clsA K "Thing")) rfl ER.e_Thing rfl) pa_nil)))) (pss_one (ps_ret (pe_op op_cat (pe_lst (pa_cons pe_str (pa_cons (pe_fld (pv 0) rfl) (pa_cons (pe_fld (pv 0) rfl) pa_nil)))) (pe_fn c_words_of_sort (pa_cons (pe_fld (pv 0) rfl) pa_nil) (hr.mono (by omega)))))) pss_nil)
    (pss_cons (ps_if (pt_val (pe_callB (id := "isinstance") (r:=rIsiI K) call_isiI B.b_isinstance (pa_cons (pv 0) (pa_cons (pe_glob (v:=.ref (clsA K "Let")) rfl ER.e_Let rfl) pa_nil)))) (pss_one (ps_ret (pe_op op_cat (pe_lst (pa_cons pe_str (pa_cons (pe_fld (pv 0) rfl) pa_nil))) (pe_fn c_words_of_sort (pa_cons (pe_fld (pv 0) rfl) pa_nil) (hr.mono (by omega)))))) pss_nil)
    (pss_cons (ps_if (pt_val (pe_callB (id := "isinstance") (r:=rIsiI K) call_isiI B.b_isinstance (pa_cons (pv 0) (pa_cons (pe_glob (v:=.ref (clsA K "Elder")) rfl ER.e_Elder rfl) pa_nil)))) (pss_one (ps_ret (pe_lst (pa_cons pe_str (pa_cons (pe_fn c_written_path (pa_cons (pe_fld (pv 0) rfl) pa_nil) (hr.mono (by omega))) pa_nil))))) pss_nil)
    (pss_cons (ps_if (pt_val (pe_callB (id := "isinstance") (r:=rIsiI K) call_isiI B.b_isinstance (pa_cons (pv 0) (pa_cons (pe_glob (v:=.ref (clsA K "All")) rfl ER.e_All rfl) pa_nil)))) (pss_one (ps_ret (pe_op op_cat (pe_ifExp (pt_val (pe_fld (pv 0) rfl)) (pe_lst (pa_cons pe_str (pa_cons pe_str pa_nil))) (pe_lst (pa_cons pe_str pa_nil))) (pe_lst (pa_cons (pe_fn c_written_path (pa_cons (pe_fld (pv 0) rfl) pa_nil) (hr.mono (by omega))) pa_nil))))) pss_nil)
    (pss_cons (ps_if (pt_val (pe_callB (id := "isinstance") (r:=rIsiI K) call_isiI B.b_isinstance (pa_cons (pv 0) (pa_cons (pe_glob (v:=.ref (clsA K "One")) rfl ER.e_One rfl) pa_nil)))) (pss_one (ps_ret (pe_lst (pa_cons pe_str (pa_cons (pe_fld (pv 0) rfl) (pa_cons (pe_fld (pv 0) rfl) (pa_cons pe_str (pa_cons (pe_fn c_written_path (pa_cons (pe_fld (pv 0) rfl) pa_nil) (hr.mono (by omega))) pa_nil)))))))) pss_nil)
    (pss_one (ps_ret (pe_lst (pa_cons pe_str (pa_cons (pe_fn c_written_path (pa_cons (pe_fld (pv 0) rfl) pa_nil) (hr.mono (by omega))) pa_nil))))))))))),?_⟩
   cases ht with
   | @node _ dp l as r nm ts ei el hts =>
     refine ⟨_,rfl,a,_,dp,_,_,true,rfl,ei,ER.ci_Part,ER.ai_Part_Part,_,rfl,iteT ?_⟩
     rw [dep] at hd
     rw [szT] at h90
     have wl:=wrdL_len ts
     refine ⟨_,rfl,a,_,dp,_,.str r,rfl,ei,ER.cl_Part,ER.na_Part_reach,rfl,_,rfl,a,_,dp,_,.str nm,rfl,ei,ER.cl_Part,ER.na_Part_name,rfl,four_le,fun D1 h1=>?_⟩
     obtain ⟨H1,qH1,s1,e1⟩:=new_at (o:=.lst [.str ("part" : Str),.str r,.str nm,.str ("(" : Str)]) h1
     rw [←qH1]
     refine ⟨_,rfl,a,_,dp,_,.ref l,rfl,s1 _ _ ei,ER.cl_Part,ER.na_Part_inner,rfl,l,as,ts,rfl,by omega,s1 _ _ el,hts.same s1,ok.2.2,by omega,fun D2 H2 s2 h2 e2=>?_⟩
     refine ⟨D1,D2,_,_,rfl,rfl,s2 _ _ e1,e2,by rw [List.length_map]; exact Nat.le_of_lt (small9 (by show 4 + _≤9000; omega)),fun D3 h3=>?_⟩
     obtain ⟨H3,qH3,s3,e3⟩:=new_at (o:=.lst ([.str ("part" : Str),.str r,.str nm,.str ("(" : Str)]++(wrdL ts).map V.str)) h3
     rw [←qH3]
     refine ⟨one_le,fun D4 h4=>?_⟩
     obtain ⟨H4,qH4,s4,e4⟩:=new_at (o:=.lst [.str (")" : Str)]) h4
     rw [←qH4]
     refine ⟨D3,D4,_,_,rfl,rfl,s4 _ _ e3,e4,by rw [List.length_append,List.length_map]; exact Nat.le_of_lt (small9 (by show 4 + _ + 1≤9000; omega)),fun D5 h5=>?_⟩
     have sA:=s1.trans (s2.trans (s3.trans s4))
     refine q D5 _ (sA.trans (same_new h5)) (sA.free h5) ?_
     rw [upd_same,wrdT,List.map_append,List.map_append]; rfl
   | @leaf _ it np' hi =>
     have ok:ItmOk it:=ok
     rw [wrdT] at q
     cases it with
     | part r n=>exact np'.elim
     | thing r n o =>
       obtain ⟨dp,v,ei,ev⟩:=hi
       refine ⟨_,rfl,a,_,dp,_,_,false,rfl,ei,ER.ci_Thing,ER.ai_Thing_Part,_,rfl,iteF ?_⟩
       refine ⟨_,rfl,a,_,dp,_,_,true,rfl,ei,ER.ci_Thing,ER.ai_Thing_Thing,_,rfl,iteT ?_⟩
       refine ⟨_,rfl,a,_,dp,_,.str r,rfl,ei,ER.cl_Thing,ER.na_Thing_reach,rfl,_,rfl,a,_,dp,_,.str n,rfl,ei,ER.cl_Thing,ER.na_Thing_name,rfl,three_le,fun D1 h1=>?_⟩
       obtain ⟨H1,qH1,s1,e1⟩:=new_at (o:=.lst [.str ("thing" : Str),.str r,.str n]) h1
       rw [←qH1]
       refine ⟨_,rfl,a,_,dp,_,v,rfl,s1 _ _ ei,ER.cl_Thing,ER.na_Thing_of,rfl,v,o,rfl,ev.same s1,ok.2.2,fun D2 H2 s2 h2 e2=>?_⟩
       refine ⟨D1,D2,_,_,rfl,rfl,s2 _ _ e1,e2,by rw [List.length_map]; exact Nat.le_of_lt (small1000 (by cases o <;> exact Nat.le_of_ble_eq_true rfl)),fun D3 h3=>?_⟩
       have sA:=s1.trans s2
       refine q D3 _ (sA.trans (same_new h3)) (sA.free h3) ?_
       rw [upd_same,wrdI,List.map_append]; rfl
     | lett n o =>
       obtain ⟨dp,v,ei,ev⟩:=hi
       refine ⟨_,rfl,a,_,dp,_,_,false,rfl,ei,ER.ci_Let,ER.ai_Let_Part,_,rfl,iteF ?_⟩
       refine ⟨_,rfl,a,_,dp,_,_,false,rfl,ei,ER.ci_Let,ER.ai_Let_Thing,_,rfl,iteF ?_⟩
       refine ⟨_,rfl,a,_,dp,_,_,true,rfl,ei,ER.ci_Let,ER.ai_Let_Let,_,rfl,iteT ?_⟩
       refine ⟨_,rfl,a,_,dp,_,.str n,rfl,ei,ER.cl_Let,ER.na_Let_name,rfl,two_le,fun D1 h1=>?_⟩
       obtain ⟨H1,qH1,s1,e1⟩:=new_at (o:=.lst [.str ("let" : Str),.str n]) h1
       rw [←qH1]
       refine ⟨_,rfl,a,_,dp,_,v,rfl,s1 _ _ ei,ER.cl_Let,ER.na_Let_of,rfl,v,o,rfl,ev.same s1,ok.2,fun D2 H2 s2 h2 e2=>?_⟩
       refine ⟨D1,D2,_,_,rfl,rfl,s2 _ _ e1,e2,by rw [List.length_map]; exact Nat.le_of_lt (small1000 (by cases o <;> exact Nat.le_of_ble_eq_true rfl)),fun D3 h3=>?_⟩
       have sA:=s1.trans s2
       refine q D3 _ (sA.trans (same_new h3)) (sA.free h3) ?_
       rw [upd_same,wrdI,List.map_append]; rfl
     | elder p =>
       obtain ⟨dp,v,ei,u,rfl,eu⟩:=hi
       refine ⟨_,rfl,a,_,dp,_,_,false,rfl,ei,ER.ci_Elder,ER.ai_Elder_Part,_,rfl,iteF ?_⟩
       refine ⟨_,rfl,a,_,dp,_,_,false,rfl,ei,ER.ci_Elder,ER.ai_Elder_Thing,_,rfl,iteF ?_⟩
       refine ⟨_,rfl,a,_,dp,_,_,false,rfl,ei,ER.ci_Elder,ER.ai_Elder_Let,_,rfl,iteF ?_⟩
       refine ⟨_,rfl,a,_,dp,_,_,true,rfl,ei,ER.ci_Elder,ER.ai_Elder_Elder,_,rfl,iteT ?_⟩
       exact ⟨_,rfl,a,_,dp,_,.ref u,rfl,ei,ER.cl_Elder,ER.na_Elder_path,rfl,u,p,rfl,eu,ok,two_le,fun D1 h1=>q D1 _ (same_new h1) h1 upd_same⟩
     | all p on =>
       obtain ⟨dp,v,ei,u,rfl,eu⟩:=hi
       refine ⟨_,rfl,a,_,dp,_,_,false,rfl,ei,ER.ci_All,ER.ai_All_Part,_,rfl,iteF ?_⟩
       refine ⟨_,rfl,a,_,dp,_,_,false,rfl,ei,ER.ci_All,ER.ai_All_Thing,_,rfl,iteF ?_⟩
       refine ⟨_,rfl,a,_,dp,_,_,false,rfl,ei,ER.ci_All,ER.ai_All_Let,_,rfl,iteF ?_⟩
       refine ⟨_,rfl,a,_,dp,_,_,false,rfl,ei,ER.ci_All,ER.ai_All_Elder,_,rfl,iteF ?_⟩
       refine ⟨_,rfl,a,_,dp,_,_,true,rfl,ei,ER.ci_All,ER.ai_All_All,_,rfl,iteT ?_⟩
       refine ⟨_,rfl,a,_,dp,_,.bl on,rfl,ei,ER.cl_All,ER.na_All_on,rfl,_,rfl,?_⟩
       cases on
       · refine iteF ⟨one_le,fun D1 h1=>?_⟩
         obtain ⟨H1,qH1,s1,e1⟩:=new_at (o:=.lst [.str ("all" : Str)]) h1
         rw [←qH1]
         refine ⟨_,rfl,a,_,dp,_,.ref u,rfl,s1 _ _ ei,ER.cl_All,ER.na_All_path,rfl,u,p,rfl,s1 _ _ eu,ok,one_le,fun D2 h2=>?_⟩
         have s2:=same_new (o:=.lst [.str (dotW p)]) h2
         refine ⟨D1,D2,_,_,rfl,rfl,s2 _ _ e1,upd_same,Nat.le_of_lt (small1000 (Nat.le_of_ble_eq_true rfl)),fun D3 h3=>?_⟩
         have sA:=s1.trans s2
         refine q D3 _ (sA.trans (same_new h3)) (sA.free h3) ?_
         rw [upd_same]; rfl
       · refine iteT ⟨two_le,fun D1 h1=>?_⟩
         obtain ⟨H1,qH1,s1,e1⟩:=new_at (o:=.lst [.str ("all" : Str),.str ("on" : Str)]) h1
         rw [←qH1]
         refine ⟨_,rfl,a,_,dp,_,.ref u,rfl,s1 _ _ ei,ER.cl_All,ER.na_All_path,rfl,u,p,rfl,s1 _ _ eu,ok,one_le,fun D2 h2=>?_⟩
         have s2:=same_new (o:=.lst [.str (dotW p)]) h2
         refine ⟨D1,D2,_,_,rfl,rfl,s2 _ _ e1,upd_same,Nat.le_of_lt (small1000 (Nat.le_of_ble_eq_true rfl)),fun D3 h3=>?_⟩
         have sA:=s1.trans s2
         refine q D3 _ (sA.trans (same_new h3)) (sA.free h3) ?_
         rw [upd_same]; rfl
     | one r n p =>
       obtain ⟨dp,v,ei,u,rfl,eu⟩:=hi
       refine ⟨_,rfl,a,_,dp,_,_,false,rfl,ei,ER.ci_One,ER.ai_One_Part,_,rfl,iteF ?_⟩
       refine ⟨_,rfl,a,_,dp,_,_,false,rfl,ei,ER.ci_One,ER.ai_One_Thing,_,rfl,iteF ?_⟩
       refine ⟨_,rfl,a,_,dp,_,_,false,rfl,ei,ER.ci_One,ER.ai_One_Let,_,rfl,iteF ?_⟩
       refine ⟨_,rfl,a,_,dp,_,_,false,rfl,ei,ER.ci_One,ER.ai_One_Elder,_,rfl,iteF ?_⟩
       refine ⟨_,rfl,a,_,dp,_,_,false,rfl,ei,ER.ci_One,ER.ai_One_All,_,rfl,iteF ?_⟩
       refine ⟨_,rfl,a,_,dp,_,_,true,rfl,ei,ER.ci_One,ER.ai_One_One,_,rfl,iteT ?_⟩
       exact ⟨_,rfl,a,_,dp,_,.str r,rfl,ei,ER.cl_One,ER.na_One_reach,rfl,_,rfl,a,_,dp,_,.str n,rfl,ei,ER.cl_One,ER.na_One_name,rfl,_,rfl,a,_,dp,_,.ref u,rfl,ei,ER.cl_One,ER.na_One_path,rfl,u,p,rfl,eu,ok.2.2,by show 5≤sizeLine; decide,fun D1 h1=>q D1 _ (same_new h1) h1 upd_same⟩
     | ask p =>
       obtain ⟨dp,v,ei,u,rfl,eu⟩:=hi
       refine ⟨_,rfl,a,_,dp,_,_,false,rfl,ei,ER.ci_Ask,ER.ai_Ask_Part,_,rfl,iteF ?_⟩
       refine ⟨_,rfl,a,_,dp,_,_,false,rfl,ei,ER.ci_Ask,ER.ai_Ask_Thing,_,rfl,iteF ?_⟩
       refine ⟨_,rfl,a,_,dp,_,_,false,rfl,ei,ER.ci_Ask,ER.ai_Ask_Let,_,rfl,iteF ?_⟩
       refine ⟨_,rfl,a,_,dp,_,_,false,rfl,ei,ER.ci_Ask,ER.ai_Ask_Elder,_,rfl,iteF ?_⟩
       refine ⟨_,rfl,a,_,dp,_,_,false,rfl,ei,ER.ci_Ask,ER.ai_Ask_All,_,rfl,iteF ?_⟩
       refine ⟨_,rfl,a,_,dp,_,_,false,rfl,ei,ER.ci_Ask,ER.ai_Ask_One,_,rfl,iteF ?_⟩
       exact ⟨_,rfl,a,_,dp,_,.ref u,rfl,ei,ER.cl_Ask,ER.na_Ask_path,rfl,u,p,rfl,eu,ok,two_le,fun D1 h1=>q D1 _ (same_new h1) h1 upd_same⟩
theorem call_words_of_item {f:Addr} {fd:FuncData} {n:Nat} (B:Blt mg) (ER:Ers K mg) (c_words_of_n:Callee P w K mg base "words_of" (3 + 2 * n) ["program"] (spn_words_of K n)) (c_words_of_sort:C_words_of_sort P w K mg base) (c_written_path:C_written_path P w K mg base) (F:Fun K "words_of_item" "words_of_item" s_words_of_item f fd) (hm:mg "words_of_item" = some (.ref f)):Callee P w K mg base "words_of_item" (3 + 2 * n + 1) ["item"] (spn_words_of_item K n) :=
 ⟨f,fd,ok_words_of_item B ER c_words_of_n c_words_of_sort c_written_path F,hm,F.kp,F.binds fun _ _ _ _ _ _ us hl=>(by obtain ⟨x0,rfl⟩:=len_1 hl; rfl)⟩
theorem ok_words_of {f : Addr} {fd : FuncData} {n : Nat} (B : Blt mg) (ER : Ers K mg) (c_with_between : C_with_between P w K mg base) (c_words_of_item_n : Callee P w K mg base "words_of_item" (3 + 2 * n + 1) ["item"] (spn_words_of_item K n)) (F : Fun K "words_of" "words_of" s_words_of f fd) : FnOk P w K mg base CX0 (3 + 2 * n + 2) f fd ["program"] (spn_words_of K (n + 1)) := by
 refine F.ok sc_words_of (fun vs H Q E h=>?_) (fun cdv A outer s H vs Q E hr h=>?_)
 · obtain ⟨P,as,ts,rfl,_⟩:=h
   rfl
 · obtain ⟨P,as,ts,rfl,hd,eP,hT,ok,h90,q⟩:=h
   refine ⟨_,(pss_one (ps_ret (pe_fn c_with_between (pa_cons (pe_comp rfl words_of_cs1 (pi_list (pv 0)) (fun _ _ _ _ _=>(pg_name (i:=0) words_of_cs1.nd)) (fun _ _ _ _ _=>pf_nil) (fun _ _ _ _ _=>(pe_fn c_words_of_item_n (pa_cons (pv 0) pa_nil) (hr.mono (by omega))))) (pa_cons pe_str pa_nil)) (hr.mono (by omega))))),?_⟩
   have hlen:=hT.len
   have hl2:=len_szL ts
   refine ⟨_,rfl,P,rfl,⟨_,SqL.of eP⟩,comp_listI (xs:=as.map V.ref) (fun D i ys H'=>∃ us,ys=us.map V.ref∧Same H H'∧H' D=some (.lst ys)∧Wds H' us ((ts.take i).map wrdT)∧∀ u∈us,u≠D) (fun D hD=>⟨[],rfl,same_new hD,upd_same,Wds.nil,fun u hu=>by cases hu⟩) (fun D i ys H' ⟨_,_,s,_⟩=>SqL.of (s _ _ eP)) (fun D i x ys H2 R hD hx hv k=>?_) (fun D ys H2 hD hv=>?_)⟩
   · obtain ⟨us,rfl,s2,eD,W,nu⟩:=hv
     obtain ⟨a,ha,rfl⟩:=getm hx
     obtain ⟨t,hit,ht⟩:=hT.get ha
     have sz:=szL_at hit
     have dm:=dep_mem (List.mem_of_getElem? hit)
     have okt:OkT t:=okL_mem ok (List.mem_of_getElem? hit)
     have lus:=W.len
     rw [List.length_map,List.length_take] at lus
     refine ⟨_,rfl,a,t,rfl,by omega,ht.same s2,okt,by omega,fun D2 H3 s3 h3 e3=>?_⟩
     have e3D:=s3 _ _ eD
     have n23:D2≠D:=fun z=>by rw [z,eD] at h3; cases h3
     refine k _ _ e3D (by rw [List.length_map]; exact small9 (by omega)) ⟨us++[D2],by rw [List.map_append]; rfl,same_own (s2.trans s3) hD,upd_same,?_,?_⟩
     · rw [take_snoc hit,List.map_append]
       exact ((W.same s3).snoc e3).upd fun u hu=>by
        rcases List.mem_append.mp hu with hu | hu
        · exact nu u hu
        · rw [List.mem_singleton.mp hu]; exact n23
     · intro u hu
       rcases List.mem_append.mp hu with hu | hu
       · exact nu u hu
       · rw [List.mem_singleton.mp hu]; exact n23
   obtain ⟨us,rfl,s2,eD,W,nu⟩:=hv
   rw [List.length_map,hlen,List.take_length] at W
   refine ⟨D,us,ts.map wrdT,_,rfl,eD,W,by rw [List.length_map]; omega,fun g hg=>?_,fun D2 H3 h3 s3 e3=>?_⟩
   · obtain ⟨t,ht,rfl⟩:=List.mem_map.mp hg
     have:=wrdT_len t
     have:=szL_mem ht
     omega
   rw [←wrdL_btw] at e3
   exact q D2 H3 (s2.trans s3) (s2.free h3) e3
theorem call_words_of {f:Addr} {fd:FuncData} {n:Nat} (B:Blt mg) (ER:Ers K mg) (c_with_between:C_with_between P w K mg base) (c_words_of_item_n:Callee P w K mg base "words_of_item" (3 + 2 * n + 1) ["item"] (spn_words_of_item K n)) (F:Fun K "words_of" "words_of" s_words_of f fd) (hm:mg "words_of" = some (.ref f)):Callee P w K mg base "words_of" (3 + 2 * n + 2) ["program"] (spn_words_of K (n + 1)) :=
 ⟨f,fd,ok_words_of B ER c_with_between c_words_of_item_n F,hm,F.kp,F.binds fun _ _ _ _ _ _ us hl=>(by obtain ⟨x0,rfl⟩:=len_1 hl; rfl)⟩
abbrev sp_words_of (K:PySem.W.Frag):Sp:=spn_words_of K 32
variable (P w K mg base) in
abbrev C_words_of:Prop:=Callee P w K mg base "words_of" 67 ["program"] (sp_words_of K)
theorem calln_words_of (B:Blt mg) (ER:Ers K mg) (c_words_of_sort:C_words_of_sort P w K mg base) (c_written_path:C_written_path P w K mg base) (c_with_between:C_with_between P w K mg base) {f0:Addr} {d0:FuncData} (F0:Fun K "words_of_item" "words_of_item" s_words_of_item f0 d0) (m0:mg "words_of_item" = some (.ref f0)) {f1:Addr} {d1:FuncData} (F1:Fun K "words_of" "words_of" s_words_of f1 d1) (m1:mg "words_of" = some (.ref f1)) (n:Nat):Callee P w K mg base "words_of" (3 + 2 * n) ["program"] (spn_words_of K n):=by
 induction n with
 | zero=>exact ⟨f1,d1,⟨fun vs H Q E h=>(by obtain ⟨_,_,_,_,hd,_⟩:=h; exact absurd hd (Nat.not_lt_zero _)),fun A outer s H args us vs Q E _ _ _ _ h=>(by obtain ⟨_,_,_,_,hd,_⟩:=h; exact absurd hd (Nat.not_lt_zero _))⟩,m1,F1.kp,F1.binds fun _ _ _ _ _ _ us hl=>(by obtain ⟨x0,rfl⟩:=len_1 hl; rfl)⟩
 | succ n ih=>exact (call_words_of B ER c_with_between (call_words_of_item B ER ih c_words_of_sort c_written_path F0 m0) F1 m1)
def sp_written (K:PySem.W.Frag):Sp:=fun vs H Q _=>∃ (P:Addr) (as:List Addr) (ts:List Tre),vs=[.ref P]∧depL ts≤31∧H P=some (.lst (as.map V.ref))∧TresH K H as ts∧OkL ts∧szL ts≤1000∧(∀ x∈wrdL ts,WdQ x)∧(wrdL ts).length≤1000∧∀ H',Same H H'→Q (.str (Txt.join (" " : Str) (wrdL ts))) H'
theorem ok_written (B:Blt mg) (ER:Ers K mg) (c_words_of:C_words_of P w K mg base) (F:Fun K "written" "written" s_written f fd):FnOk P w K mg base CX0 68 f fd ["program"] (sp_written K):=by
 refine F.ok sc_written (fun vs H Q E h=>?_) (fun cdv A outer s H vs Q E hr h=>?_)
 · obtain ⟨P,as,ts,rfl,_⟩:=h
   rfl
 · obtain ⟨P,as,ts,rfl,hd,eP,hT,ok,h90,wq,wl,q⟩:=h
   refine ⟨_,(pss_one (ps_ret (pe_bm PySem.F.plainAttrs_str PySem.F.slot_str_join PySem.F.type_str_join mt_join pe_str (pa_cons (pe_fn c_words_of (pa_cons (pv 0) pa_nil)) pa_nil)))),?_⟩
   exact ⟨rfl,_,rfl,P,as,ts,rfl,by omega,eP,hT,ok,h90,fun D H' s hD eD=>⟨_,D,wrdL ts,rfl,rfl,SqL.of eD,blankQ_ok wq wl,q H' s⟩⟩
variable (P w K mg base) in
abbrev C_written:Prop:=Callee P w K mg base "written" 68 ["program"] (sp_written K)
theorem call_written (B:Blt mg) (ER:Ers K mg) (c_words_of:C_words_of P w K mg base) (F:Fun K "written" "written" s_written f fd) (hm:mg "written" = some (.ref f)):C_written P w K mg base :=
 ⟨f,fd,ok_written B ER c_words_of F,hm,F.kp,F.binds fun _ _ _ _ _ _ us hl=>(by obtain ⟨x0,rfl⟩:=len_1 hl; rfl)⟩
theorem cells_cut (ns:List Int):cutV (ns.map V.int) (some 4) (some 42)=((ns.drop 4).take 38).map V.int:=by
 rw [show cutV (ns.map V.int) (some 4) (some 42)=((ns.map V.int).drop 4).take (42 - 4) from cutV_mid _ 4 42 (by decide),←List.map_drop,←List.map_take]
theorem read_not {x:Str} (hx:x≠("" : Str)) (h:goodA 0 [] false false (Txt.split x (" " : Str))=false):readO x=none:=by
 unfold readO
 rw [if_neg hx]
 split
 · rename_i ts e
   rw [(good_iff _).mpr ⟨ts,e⟩] at h; cases h
 · rfl
theorem read_yes {x:Str} (hx:x≠("" : Str)) (h:goodA 0 [] false false (Txt.split x (" " : Str))=true):∃ ts,itemsP (prsI 31) (Txt.split x (" " : Str))=some (ts,[])∧readO x=some ts:=by
 obtain ⟨ts,e⟩:=(good_iff _).mp h
 refine ⟨ts,e,?_⟩
 unfold readO
 rw [if_neg hx,e]
structure WK (H:Hp) (D:Addr) (n:Nat):Prop where
 ex:∃ vs:List Str,H D=some (.lst (vs.map V.str))∧vs.length≤n∧∀ x∈vs,WdOk x
theorem wd_all {ws:List Str} (h:ws.all wdB=true):∀ x∈ws,WdOk x:=fun x hx=>wdB_ok (List.all_eq_true.mp h x hx)
theorem catK {H:Hp} {a b:Addr} {n m:Nat} {Q:VK} (ha:WK H a n) (hb:WK H b m) (hm:n + m≤2000) (q:∀ p H',Same H H'→WK H' p (n + m)→Q (.ref p) H'):rCat (.ref a) (.ref b) H Q:=by
 obtain ⟨us,e1,h1,h2⟩:=ha.ex
 obtain ⟨vs,e2,h3,h4⟩:=hb.ex
 refine ⟨a,b,_,_,rfl,rfl,e1,e2,?_,fun p hp=>?_⟩
 · rw [List.length_map,List.length_map]
   exact Nat.le_trans (Nat.add_le_add h1 h3) (Nat.le_trans hm (by decide))
 · rw [←List.map_append]
   refine q p _ (same_new hp) ⟨us++vs,upd_same,by rw [List.length_append]; exact Nat.add_le_add h1 h3,fun x hx=>?_⟩
   rcases List.mem_append.mp hx with z | z
   · exact h2 x z
   · exact h4 x z
theorem WK.same {H H':Hp} {D:Addr} {n:Nat} (s:Same H H') (h:WK H D n):WK H' D n:=by
 obtain ⟨vs,e,h⟩:=h.ex
 exact ⟨vs,s _ _ e,h⟩
theorem WK.mono {H:Hp} {D:Addr} {n m:Nat} (hm:n≤m) (h:WK H D n):WK H D m:=by
 obtain ⟨vs,e,h1,h2⟩:=h.ex
 exact ⟨vs,e,Nat.le_trans h1 hm,h2⟩
def sp_law (K:PySem.W.Frag):Sp:=fun vs H Q _=>∃ (a:Addr) (ns:List Int),vs=[.ref a]∧SqL K H a (ns.map V.int)∧ns.length≤63∧∀ H',Q (.bl true) H'
theorem ok_law (B:Blt mg) (ER:Ers K mg) (c__law_cell_at:C__law_cell_at P w K mg base) (c__law_names:C__law_names P w K mg base) (c__law_words:C__law_words P w K mg base) (c__law_program:C__law_program P w K mg base) (c__law_spoiled:C__law_spoiled P w K mg base) (c__law_refused:C__law_refused P w K mg base) (c__law_good:C__law_good P w K mg base) (c_read:CalleeE P w K mg base "read" 102 ["text"] (sp_read K)) (c_written:C_written P w K mg base) (F:Fun K "law" "law" s_law f fd):FnOk P w K mg base CX0 104 f fd ["_law_script"] (sp_law K):=by
 refine F.ok sc_law (fun vs H Q E h=>?_) (fun cdv A outer s H vs Q E hr h=>?_)
 · obtain ⟨a,ns,rfl,_⟩:=h
   rfl
 · obtain ⟨a,ns,rfl,hS,hlen,kq⟩:=h
   refine ⟨_,(pss_cons (ps_set (i:=1) sc_law.nd (pe_fn c__law_cell_at (pa_cons (pv 0) (pa_cons pe_int pa_nil))))
    (pss_cons (ps_set (i:=2) sc_law.nd (pe_fn c__law_names (pa_cons (pv 1) (pa_cons (pe_op op_add pe_int (pe_op op_mod (pe_op op_fdiv (pv 1) pe_int) pe_int)) pa_nil))))
    (pss_cons (ps_set (i:=3) sc_law.nd (pe_fn c__law_words (pa_cons (pe_fn c__law_program (pa_cons (pe_slice sl_list (pv 0) (po_some pe_int) (po_some pe_int)) (pa_cons (pv 2) pa_nil))) pa_nil)))
    (pss_cons (ps_if (pt_cmpR op_eq (pe_op op_mod (pe_fn c__law_cell_at (pa_cons (pv 0) (pa_cons pe_int pa_nil))) pe_int) pe_int (nomark _)) (pss_cons (ps_set (i:=1) sc_law.nd (pe_op op_fdiv (pe_fn c__law_cell_at (pa_cons (pv 0) (pa_cons pe_int pa_nil))) pe_int))
     (pss_cons (ps_set (i:=4) sc_law.nd (pe_ix ix_seq (pe_lst (pa_cons (pe_lst pa_nil) (pa_cons (pe_lst (pa_cons pe_str (pa_cons pe_str pa_nil))) pa_nil))) (pe_op op_mod (pe_op op_fdiv (pv 1) pe_int) pe_int)))
     (pss_cons (ps_for PassesOwn.never rfl (pi_range1 rfl B.b_range (pa_cons (pe_op op_add pe_int (pe_op op_mod (pv 1) pe_int)) pa_nil)) (pg_name (i:=5) sc_law.nd) (pss_one (ps_set (i:=4) sc_law.nd (pe_op op_cat (pe_op op_cat (pe_lst (pa_cons pe_str (pa_cons (pe_ix ix_seq (pe_lst (pa_cons pe_str (pa_cons pe_str pa_nil))) (pe_op op_mod (pv 5) pe_int)) (pa_cons pe_str (pa_cons pe_str pa_nil))))) (pv 4)) (pe_lst (pa_cons pe_str pa_nil))))))
     (pss_one (ps_set (i:=3) sc_law.nd (pv 4)))))) pss_nil)
    (pss_cons (ps_set (i:=6) sc_law.nd (pe_op op_mod (pe_op op_fdiv (pe_fn c__law_cell_at (pa_cons (pv 0) (pa_cons pe_int pa_nil))) pe_int) pe_int))
    (pss_cons (ps_if (PW.pt (pw_and (pt_cmpR op_gt (pv 6) pe_int (nomark _)) (pw_and1 (pt_cmpR (op_neD hr.units) (pv 3) (pe_lst pa_nil) (nomark _))))) (pss_cons (ps_set (i:=7) sc_law.nd (pe_op op_mod (pe_fn c__law_cell_at (pa_cons (pv 0) (pa_cons pe_int pa_nil))) (pe_callB call_len B.b_len (pa_cons (pv 3) pa_nil))))
     (pss_cons (ps_set (i:=1) sc_law.nd (pe_op op_mod (pe_fn c__law_cell_at (pa_cons (pv 0) (pa_cons pe_int pa_nil))) (pe_op op_pow pe_int pe_int)))
     (pss_one (ps_set (i:=3) sc_law.nd (pe_fn c__law_spoiled (pa_cons (pv 3) (pa_cons (pv 6) (pa_cons (pv 7) (pa_cons (pv 1) pa_nil))))))))) pss_nil)
    (pss_cons (ps_set (i:=8) sc_law.nd (pe_bm PySem.F.plainAttrs_str PySem.F.slot_str_join PySem.F.type_str_join mt_join pe_str (pa_cons (pv 3) pa_nil)))
    (pss_cons (ps_for PassesOwn.never rfl (pi_list (pe_lst (pa_cons pe_non (pa_cons pe_int (pa_cons (pe_lst (pa_cons (pv 8) pa_nil)) (pa_cons (pe_tup (pa_cons pe_str (pa_cons pe_str pa_nil))) (pa_cons pe_bl pa_nil))))))) (pg_name (i:=9) sc_law.nd) (pss_one (ps_if (pt_not (pt_val (pe_fn c__law_refused (pa_cons (pv 9) pa_nil)))) (pss_one (ps_ret pe_bl)) pss_nil)))
    (pss_cons (ps_if (PW.pt (pw_and (pt_cmpR op_ne (pv 8) pe_str (nomark _)) (pw_and1 (pt_not (pt_val (pe_fn c__law_good (pa_cons (pe_bm PySem.F.plainAttrs_str PySem.F.slot_str_split PySem.F.type_str_split mt_split (pv 8) (pa_cons pe_str pa_nil)) pa_nil))))))) (pss_one (ps_ret (pe_fn c__law_refused (pa_cons (pv 8) pa_nil)))) pss_nil)
    (pss_cons (ps_set (i:=10) sc_law.nd (pe_fnS c_read (hr.mono (by decide)) rfl (pa_cons (pv 8) pa_nil)))
    (pss_one (ps_ret (pe_and (pe_callB call_isi B.b_isinstance (pa_cons (pv 10) (pa_cons (pe_ty "list" rfl B.b_list (by decide +kernel)) pa_nil))) (pe_one (pe_cmpR op_eq (pe_fn c_written (pa_cons (pv 10) pa_nil)) (pv 8) (nomark _)))))))))))))))),?_⟩
   refine ⟨_,rfl,a,ns,0,rfl,by decide,hS,?_⟩
   refine g_in ?_
   try dsimp only
   generalize cellAt ns 0=cl
   have y0:=Int.emod_nonneg (cl / 512) (by decide:(5:Int)≠0)
   have y1:=Int.emod_lt_of_pos (cl / 512) (by decide:(0:Int) < 5)
   refine ⟨_,rfl,_,rfl,_,_,rfl,rfl,⟨by decide,by decide⟩,_,_,rfl,rfl,(by show (0:Int) < 5; decide),_,_,rfl,rfl,_,_,rfl,by omega,by omega,fun ls L H2 hl0 _ hlow fL s2 eL=>?_⟩
   refine g_in ?_
   try dsimp only
   refine ⟨_,rfl,_,rfl,_,rfl,a,_,rfl,s2.seq hS,fun C hC=>?_⟩
   rw [cells_cut]
   obtain ⟨H3,qH3,s3,eC⟩:=new_at (o:=.lst (((ns.drop 4).take 38).map V.int)) hC
   rw [←qH3]
   refine ⟨_,rfl,C,L,_,ls,rfl,eC,by rw [List.length_take]; omega,s3 _ _ eL,by omega,by omega,hlow,fun P as ts H4 s4 eP hR np ok rm h8 h12 h38 h30 rc=>?_⟩
   have wl:=wrdL_len ts
   refine ⟨P,as,ts,rfl,by omega,eP,hR,ok,by omega,fun D0 H5 s5 hD0 eD0=>?_⟩
   refine g_in ?_
   try dsimp only
   have s25:=((s2.trans s3).trans s4).trans s5
   have wK:WK H5 D0 300:=⟨wrdL ts,eD0,by omega,wrdL_wd ok⟩
   clear eD0 hR eP eC s3 s4 s5 rc rm np ok h8 h12 h38 h30 wl y0 y1 hD0 hC
   refine seq_cut (fun σ' H'=>∃ (w1 w4 w5:Option V) (D:Addr),σ'=[some (.ref a),w1,some (.ref L),some (.ref D),w4,w5,none,none,none,none,none]∧Same H H'∧WK H' D 300) ?_ (fun NN hNN=>?_)
   case refine_2 =>
    refine ⟨_,rfl,a,ns,1,rfl,by decide,s25.seq hS,_,_,rfl,rfl,(by show (0:Int) < 5; decide),rfl,_,rfl,ite2 (fun _=>?_) (fun _=>hNN _ _ ⟨_,_,_,D0,rfl,s25,wK⟩)⟩
    refine ⟨_,rfl,a,ns,1,rfl,by decide,s25.seq hS,_,_,rfl,rfl,⟨by decide,by decide⟩,?_⟩
    refine g_in ?_
    try dsimp only
    generalize cellAt ns 1 / 5=c1
    refine ⟨by decide,fun l1 h1=>?_⟩
    have t1:=same_new (o:=.lst (([]:List Str).map V.str)) h1
    have e1:WK (upd H5 l1 (.lst (([]:List Str).map V.str))) l1 2:=⟨[],upd_same,by decide,fun x hx=>by cases hx⟩
    rw [show (HO.lst [])=.lst (([]:List Str).map V.str) from rfl]
    generalize upd H5 l1 (.lst (([]:List Str).map V.str))=H6 at t1 e1 ⊢
    refine ⟨two_le,fun l2 h2=>?_⟩
    have t2:=same_new (o:=.lst ([("ask" : Str),("a" : Str)].map V.str)) h2
    have e2:WK (upd H6 l2 (.lst ([("ask" : Str),("a" : Str)].map V.str))) l2 2:=⟨[("ask" : Str),("a" : Str)],upd_same,by decide,wd_all (by decide +kernel)⟩
    rw [show (HO.lst [.str ("ask" : Str),.str ("a" : Str)])=.lst ([("ask" : Str),("a" : Str)].map V.str) from rfl]
    generalize upd H6 l2 (.lst ([("ask" : Str),("a" : Str)].map V.str))=H7 at t2 e2 ⊢
    refine ⟨two_le,fun l3 h3=>?_⟩
    obtain ⟨H8,qH8,t3,e3⟩:=new_at (o:=.lst [.ref l1,.ref l2]) h3
    rw [←qH8]
    obtain ⟨lx,hx,ex⟩:∃ lx,atI [V.ref l1,.ref l2] (c1 / 2 % 2)=some (.ref lx)∧WK H8 lx 2:=by
     have x0:=Int.emod_nonneg (c1 / 2) (by decide:(2:Int)≠0)
     have x1:=Int.emod_lt_of_pos (c1 / 2) (by decide:(0:Int) < 2)
     generalize c1 / 2 % 2=z at x0 x1 ⊢
     have:z=0∨z=1:=by omega
     rcases this with rfl | rfl
     · exact ⟨l1,rfl,e1.same (t2.trans t3)⟩
     · exact ⟨l2,rfl,e2.same t3⟩
    refine ⟨_,rfl,_,_,rfl,rfl,⟨by decide,by decide⟩,_,_,rfl,rfl,(by show (0:Int) < 2; decide),Or.inl ⟨l3,_,_,.ref lx,rfl,rfl,SqL.of e3,hx,?_⟩⟩
    refine g_in ?_
    try dsimp only
    have s8:=s25.trans (t1.trans (t2.trans t3))
    have x0:=Int.emod_nonneg c1 (by decide:(2:Int)≠0)
    have x1:=Int.emod_lt_of_pos c1 (by decide:(0:Int) < 2)
    refine ⟨_,rfl,_,_,rfl,rfl,(by show (0:Int) < 2; decide),_,_,rfl,rfl,_,rfl,by omega,by omega,for_range (lo:=0) (n:=(30 + c1 % 2).toNat) (fun i σ H'=>∃ (w5:Option V) (D:Addr),σ=[some (.ref a),some (.int c1),some (.ref L),some (.ref D0),some (.ref D),w5,none,none,none,none,none]∧Same H H'∧WK H' D (2 + 5 * i)) ⟨none,lx,rfl,s8,ex⟩ ?_ ?_⟩
    · rintro i σ H9 hi ⟨w5,D,rfl,s9,wD⟩
      refine g_in ?_
      try dsimp only
      refine ⟨two_le,fun l4 h4=>?_⟩
      obtain ⟨H10,qH10,t4,e4⟩:=new_at (o:=.lst [.str ("own" : Str),.str ("open" : Str)]) h4
      rw [←qH10]
      obtain ⟨r,hr1,hr2⟩:∃ r:Str,atI [V.str ("own" : Str),V.str ("open" : Str)] ((0 + (i:Int)) % 2)=some (.str r)∧WdOk r:=by
       have y0:=Int.emod_nonneg (0 + (i:Int)) (by decide:(2:Int)≠0)
       have y1:=Int.emod_lt_of_pos (0 + (i:Int)) (by decide:(0:Int) < 2)
       generalize (0 + (i:Int)) % 2=z at y0 y1 ⊢
       have:z=0∨z=1:=by omega
       rcases this with rfl | rfl
       · exact ⟨_,rfl,wdB_ok (by decide +kernel)⟩
       · exact ⟨_,rfl,wdB_ok (by decide +kernel)⟩
      refine ⟨_,rfl,_,_,rfl,rfl,(by show (0:Int) < 2; decide),Or.inl ⟨l4,_,_,.str r,rfl,rfl,SqL.of e4,hr1,?_⟩⟩
      refine ⟨four_le,fun l5 h5=>?_⟩
      have t5:=same_new (o:=.lst ([("part" : Str),r,("a" : Str),("(" : Str)].map V.str)) h5
      have e5:WK (upd H10 l5 (.lst ([("part" : Str),r,("a" : Str),("(" : Str)].map V.str))) l5 4:=⟨[("part" : Str),r,("a" : Str),("(" : Str)],upd_same,Nat.le_refl _,fun x hx=>by
       simp only [List.mem_cons,List.not_mem_nil,or_false] at hx
       rcases hx with rfl | rfl | rfl | rfl
       · exact wdB_ok (by decide +kernel)
       · exact hr2
       · exact wdB_ok (by decide +kernel)
       · exact wdB_ok (by decide +kernel)⟩
      rw [show (HO.lst [.str ("part" : Str),.str r,.str ("a" : Str),.str ("(" : Str)])=.lst ([("part" : Str),r,("a" : Str),("(" : Str)].map V.str) from rfl]
      generalize upd H10 l5 (.lst ([("part" : Str),r,("a" : Str),("(" : Str)].map V.str))=H11 at t5 e5 ⊢
      refine ⟨_,rfl,catK e5 (wD.same (t4.trans t5)) (by omega) fun l6 H12 t6 e6=>?_⟩
      refine ⟨one_le,fun l7 h7=>?_⟩
      have t7:=same_new (o:=.lst ([(")" : Str)].map V.str)) h7
      have e7:WK (upd H12 l7 (.lst ([(")" : Str)].map V.str))) l7 1:=⟨[(")" : Str)],upd_same,by decide,wd_all (by decide +kernel)⟩
      rw [show (HO.lst [.str (")" : Str)])=.lst ([(")" : Str)].map V.str) from rfl]
      generalize upd H12 l7 (.lst ([(")" : Str)].map V.str))=H13 at t7 e7 ⊢
      refine catK (e6.same t7) e7 (by omega) fun l8 H14 t8 e8=>?_
      exact ⟨_,l8,rfl,((((s9.trans t4).trans t5).trans t6).trans t7).trans t8,e8.mono (by omega)⟩
    · rintro σ H9 ⟨w5,D,rfl,s9,wD⟩
      exact ⟨_,rfl,hNN _ _ ⟨_,_,_,D,rfl,s9,wD.mono (by omega)⟩⟩
   rintro σ' H6 ⟨w1,w4,w5,D,rfl,s6,wD⟩
   clear wK s25
   have z0:=Int.emod_nonneg (cellAt ns 1 / 20) (by decide:(8:Int)≠0)
   refine ⟨_,rfl,a,ns,1,rfl,by decide,s6.seq hS,_,_,rfl,rfl,⟨by decide,by decide⟩,_,_,rfl,rfl,(by show (0:Int) < 8; decide),?_⟩
   refine g_in ?_
   try dsimp only
   generalize cellAt ns 1 / 20 % 8=wy at z0 ⊢
   refine seq_cut (fun σ' H'=>∃ (w1 w4 w5 w7:Option V) (D:Addr),σ'=[some (.ref a),w1,some (.ref L),some (.ref D),w4,w5,some (.int wy),w7,none,none,none]∧Same H H'∧WL H' D 905) ?_ (fun NN hNN=>?_)
   case refine_2 =>
    obtain ⟨vs,eD,hv1,hv2⟩:=wD.ex
    have wQ:∀ {H':Hp},Same H6 H'→WL H' D 905:=fun s=>⟨vs,s _ _ eD,by omega,fun x hx=>(hv2 x hx).q⟩
    refine ⟨_,rfl,_,_,rfl,rfl,_,rfl,ite2 (fun _=>?_) (fun _=>iteF (hNN _ _ ⟨_,_,_,_,D,rfl,s6,wQ (Same.refl _)⟩))⟩
    refine ⟨_,rfl,by decide,fun Z hZ=>?_⟩
    obtain ⟨H7,qH7,s7,eZ⟩:=new_at (o:=.lst []) hZ
    rw [←qH7]
    have eD7:=s7 _ _ eD
    have s67:=s6.trans s7
    refine ⟨2,_,_,.lst (Cmps.nil' _),by decide,.lst (SqL.of eD7) (IsDts.strs _),.lst (SqL.of eZ) .nil,_,rfl,?_⟩
    rw [lst_nil]
    by_cases hvs:vs=[]
    · rw [decide_eq_true hvs]
      exact iteF (hNN _ _ ⟨_,_,_,_,D,rfl,s67,wQ s7⟩)
    rw [decide_eq_false hvs]
    have hvl:0 < vs.length:=List.length_pos_iff.mpr hvs
    refine iteT ⟨_,rfl,a,ns,2,rfl,by decide,s67.seq hS,_,rfl,_,_,rfl,Or.inl ⟨_,SqL.of eD7,rfl⟩,_,_,rfl,rfl,(by show (0:Int) < _; rw [List.length_map]; omega),?_⟩
    rw [List.length_map]
    refine g_in ?_
    try dsimp only
    have v0:=Int.emod_nonneg (cellAt ns 2) (show (vs.length:Int)≠0 by omega)
    have v1:=Int.emod_lt_of_pos (cellAt ns 2) (show (0:Int) < (vs.length:Int) by omega)
    generalize cellAt ns 2 % (vs.length:Int)=at_ at v0 v1 ⊢
    refine ⟨_,rfl,a,ns,3,rfl,by decide,s67.seq hS,_,_,rfl,rfl,⟨by decide,by decide,by decide⟩,_,_,rfl,rfl,(by show (0:Int) < 10 ^ Int.toNat 9; decide),?_⟩
    refine g_in ?_
    try dsimp only
    refine ⟨_,rfl,_,rfl,_,rfl,_,rfl,D,vs,_,_,_,rfl,eD7,hv1,hv2,v0,v1,fun D8 H8 s8 w8=>?_⟩
    exact hNN _ _ ⟨_,_,_,_,D8,rfl,s67.trans s8,w8⟩
   rintro σ' H7 ⟨w1,w4,w5,w7,D,rfl,s7,wD⟩
   obtain ⟨vs,eD,hv1,hv2⟩:=wD.ex
   refine ⟨rfl,_,rfl,_,D,vs,rfl,rfl,SqL.of eD,blankQ_ok hv2 (by omega),?_⟩
   refine g_in ?_
   try dsimp only
   have xl:=blankQ_len hv2
   have xs:=blankQ_split (ws:=vs) hv2
   have hbd:Txt.join (" " : Str) vs≠("" : Str)→(Txt.split (Txt.join (" " : Str) vs) (" " : Str)).length≤1000∧∀ y∈Txt.split (Txt.join (" " : Str) vs) (" " : Str),y.length≤1000:=fun z=>by
    rw [xs z]
    exact ⟨by omega,fun y hy=>by have:=(hv2 y hy).1; omega⟩
   have hback:∀ us,Txt.join (" " : Str) vs≠("" : Str)→itemsP (prsI 31) (Txt.split (Txt.join (" " : Str) vs) (" " : Str))=some (us,[])→wrdL us=vs:=fun us z e=>by
    rw [xs z] at e
    exact read_back e
   generalize hx0:Txt.join (" " : Str) vs=x at xl xs hbd hback ⊢
   clear wD eD
   refine ⟨_,rfl,one_le,fun l1 h1=>?_⟩
   obtain ⟨H8,qH8,t1,e1⟩:=new_at (o:=.lst [.str x]) h1
   rw [←qH8]
   refine ⟨two_le,fun l2 h2=>?_⟩
   obtain ⟨H9,qH9,t2,e2⟩:=new_at (o:=.tup [.str ("ask" : Str),.str ("a" : Str)]) h2
   rw [←qH9]
   refine ⟨show 5≤sizeLine by decide,fun l3 h3=>?_⟩
   obtain ⟨H10,qH10,t3,e3⟩:=new_at (o:=.lst [.non,.int 3,.ref l1,.ref l2,.bl true]) h3
   rw [←qH10]
   have e1:=(t2.trans t3) _ _ e1
   have e2:=t3 _ _ e2
   have s10:=s7.trans (t1.trans (t2.trans t3))
   refine ⟨l3,rfl,⟨_,SqL.of e3⟩,for_list (xs:=[.non,.int 3,.ref l1,.ref l2,.bl true]) (fun i σ H'=>∃ w9,σ=[some (.ref a),w1,some (.ref L),some (.ref D),w4,w5,some (.int wy),w7,some (.str x),w9,none]∧Same H10 H') ⟨none,rfl,Same.refl _⟩ (fun i σ H' _ ⟨_,_,e⟩=>SqL.of (e _ _ e3)) ?_ ?_⟩
   · rintro i v σ H11 hv ⟨w9,rfl,s11⟩
     refine g_in ?_
     try dsimp only
     obtain ⟨T,ty,hT⟩:∃ T,TyN K H11 v T∧T≠.str:=by
      have:=List.mem_of_getElem? hv
      simp only [List.mem_cons,List.not_mem_nil,or_false] at this
      rcases this with rfl | rfl | rfl | rfl | rfl
      · exact ⟨_,.non,by decide⟩
      · exact ⟨_,.int 3,by decide⟩
      · exact ⟨_,.lst (SqL.of (s11 _ _ e1)),by decide⟩
      · exact ⟨_,.tup (SqT.of (s11 _ _ e2)),by decide⟩
      · exact ⟨_,.bl true,by decide⟩
     refine ⟨_,rfl,v,rfl,Or.inl ⟨T,ty,hT⟩,fun H12 s12=>⟨_,rfl,iteF ?_⟩⟩
     exact ⟨_,rfl,s11.trans s12⟩
   rintro σ H11 ⟨w9,rfl,s11⟩
   have sH:=s10.trans s11
   clear t1 t2 t3 e1 e2 e3 s10 s11 h1 h2 h3
   try dsimp only
   refine seq_cut (fun σ' H'=>σ'=[some (.ref a),w1,some (.ref L),some (.ref D),w4,w5,some (.int wy),w7,some (.str x),w9,none]∧Same H H'∧∃ ts,readO x=some ts∧depL ts≤31∧OkL ts∧szL ts≤1000∧(∀ y∈wrdL ts,WdQ y)∧(wrdL ts).length≤1000∧Txt.join (" " : Str) (wrdL ts)=x) ?_ (fun NN hNN=>?_)
   case refine_2 =>
    refine ⟨_,rfl,rfl,_,rfl,?_⟩
    rw [str_dec]
    by_cases hx:x=("" : Str)
    · rw [decide_eq_true hx]
      refine iteF (iteF (hNN _ _ ⟨rfl,sH,[],?_⟩))
      refine ⟨by rw [hx]; rfl,by rw [depL]; decide,trivial,by rw [szL]; decide,(fun y hy=>by rw [wrdL] at hy; cases hy),by rw [wrdL]; decide,by rw [hx,wrdL]; decide +kernel⟩
    rw [decide_eq_false hx]
    obtain ⟨b1,b2⟩:=hbd hx
    refine iteT ⟨_,rfl,rfl,x,(" " : Str),rfl,rfl,by decide +kernel,by omega,fun D2 hD2=>?_⟩
    obtain ⟨H12,qH12,s12,e12⟩:=new_at (o:=.lst ((Txt.split x (" " : Str)).map V.str)) hD2
    rw [←qH12]
    refine ⟨D2,_,rfl,e12,b1,b2,fun H13 s13=>⟨_,rfl,?_⟩⟩
    cases hg:goodA 0 [] false false (Txt.split x (" " : Str)) with
    | false=>exact iteT ⟨_,rfl,_,rfl,Or.inr ⟨x,rfl,by omega,hbd,read_not hx hg⟩,fun H14 s14=>kq _⟩
    | true =>
      obtain ⟨ts,et,er⟩:=read_yes hx hg
      have hw:=hback ts hx et
      obtain ⟨o1,o2⟩:=items_ok (prs_ok 31) et
      have o3:=szL_wrd ts
      rw [hw] at o3
      exact iteF (hNN _ _ ⟨rfl,(sH.trans s12).trans s13,ts,er,o2,o1,by omega,by rw [hw]; exact hv2,by rw [hw]; omega,by rw [hw]; exact hx0⟩)
   rintro σ' H12 ⟨rfl,s12,ts,er,o2,o1,o3,o4,o5,o6⟩
   refine ⟨_,rfl,Or.inr ⟨x,rfl,by omega,hbd,fun ts' et P as H13 s13 fP eP hT=>?_,fun z=>by rw [er] at z; cases z⟩⟩
   rw [er] at et
   cases et
   refine g_in ?_
   try dsimp only
   refine ⟨_,rfl,_,.lst,.lst,rfl,.lst (SqL.of eP),_,rfl,iteT ?_⟩
   refine ⟨_,rfl,P,as,ts,rfl,o2,eP,hT.toH,o1,o3,o4,o5,fun H14 s14=>⟨_,rfl,rfl,?_⟩⟩
   rw [o6,decide_eq_true rfl]
   exact kq _
variable (P w K mg base) in
abbrev C_law:Prop:=Callee P w K mg base "law" 104 ["_law_script"] (sp_law K)
theorem call_law (B:Blt mg) (ER:Ers K mg) (c__law_cell_at:C__law_cell_at P w K mg base) (c__law_names:C__law_names P w K mg base) (c__law_words:C__law_words P w K mg base) (c__law_program:C__law_program P w K mg base) (c__law_spoiled:C__law_spoiled P w K mg base) (c__law_refused:C__law_refused P w K mg base) (c__law_good:C__law_good P w K mg base) (c_read:CalleeE P w K mg base "read" 102 ["text"] (sp_read K)) (c_written:C_written P w K mg base) (F:Fun K "law" "law" s_law f fd) (hm:mg "law" = some (.ref f)):C_law P w K mg base :=
 ⟨f,fd,ok_law B ER c__law_cell_at c__law_names c__law_words c__law_program c__law_spoiled c__law_refused c__law_good c_read c_written F,hm,F.kp,F.binds fun _ _ _ _ _ _ us hl=>(by obtain ⟨x0,rfl⟩:=len_1 hl; rfl)⟩
end
theorem all_mk {l:PySem.W.OpenLaw} {w:World} {K:PySem.W.Frag} {h:Heap} {mg:Str→Option Value} {fa:Addr} (X:K.In h) (G:h.Ns mainGlobals mg) (hfa:mg "law" = some (.ref fa)) (q:Facts K)
 : ∃ fd:FuncData,(∀ (s:Shared) (v:Value),BindsTo s fd ⟨[v],[]⟩ [("_law_script",v)])∧∀ base:Heap,K.In base→base.Ns mainGlobals mg→FnOk l.prog w K mg base CX0 104 fa fd ["_law_script"] (sp_law K):=by
 obtain @⟨f0,od0,an0,sl0,oc0,kV0,dc0,pm0,cd0,ct0,f1,od1,an1,sl1,oc1,kV1,dc1,pm1,cd1,ct1,f2,od2,an2,sl2,oc2,kV2,dc2,pm2,cd2,ct2,f3,od3,an3,sl3,oc3,kV3,dc3,pm3,cd3,ct3,f4,od4,an4,sl4,oc4,kV4,dc4,pm4,cd4,ct4,f5,od5,an5,sl5,oc5,kV5,dc5,pm5,cd5,ct5,f6,od6,an6,sl6,oc6,kV6,dc6,pm6,cd6,ct6,f7,od7,an7,sl7,oc7,kV7,dc7,pm7,cd7,ct7,f8,od8,an8,sl8,oc8,kV8,dc8,pm8,cd8,ct8,f9,od9,an9,sl9,oc9,kV9,dc9,pm9,cd9,ct9,f10,od10,an10,sl10,oc10,kV10,dc10,pm10,cd10,ct10,f11,od11,an11,sl11,oc11,kV11,dc11,pm11,cd11,ct11,f12,od12,an12,sl12,oc12,kV12,dc12,pm12,cd12,ct12,f13,od13,an13,sl13,oc13,kV13,dc13,pm13,cd13,ct13,f14,od14,an14,sl14,oc14,kV14,dc14,pm14,cd14,ct14,f15,od15,an15,sl15,oc15,kV15,dc15,pm15,cd15,ct15,f16,od16,an16,sl16,oc16,kV16,dc16,pm16,cd16,ct16,f17,od17,an17,sl17,oc17,kV17,dc17,pm17,cd17,ct17,f18,od18,an18,sl18,oc18,kV18,dc18,pm18,cd18,ct18,f19,od19,an19,sl19,oc19,kV19,dc19,pm19,cd19,ct19,f20,od20,an20,sl20,oc20,kV20,dc20,pm20,cd20,ct20,f21,od21,an21,sl21,oc21,kV21,dc21,pm21,cd21,ct21,f22,od22,an22,sl22,oc22,kV22,dc22,pm22,cd22,ct22,f23,od23,an23,sl23,oc23,kV23,dc23,pm23,cd23,ct23,f24,od24,an24,sl24,oc24,kV24,dc24,pm24,cd24,ct24,f25,od25,an25,sl25,oc25,kV25,dc25,pm25,cd25,ct25,f26,od26,an26,sl26,oc26,kV26,dc26,pm26,cd26,ct26,f27,od27,an27,sl27,oc27,kV27,dc27,pm27,cd27,ct27,f28,od28,an28,sl28,oc28,kV28,dc28,pm28,cd28,ct28,f29,od29,an29,sl29,oc29,kV29,dc29,pm29,cd29,ct29,f30,od30,an30,sl30,oc30,kV30,dc30,pm30,cd30,ct30,f31,od31,an31,sl31,oc31,kV31,dc31,pm31,cd31,ct31,f32,od32,an32,sl32,oc32,kV32,dc32,pm32,cd32,ct32,f33,od33,an33,sl33,oc33,kV33,dc33,pm33,cd33,ct33,f34,od34,an34,sl34,oc34,kV34,dc34,pm34,cd34,ct34,f35,od35,an35,sl35,oc35,kV35,dc35,pm35,cd35,ct35,f36,od36,an36,sl36,oc36,kV36,dc36,pm36,cd36,ct36,f37,od37,an37,sl37,oc37,kV37,dc37,pm37,cd37,ct37,f38,od38,an38,sl38,oc38,kV38,dc38,pm38,cd38,ct38,f39,od39,an39,sl39,oc39,kV39,dc39,pm39,cd39,ct39,f40,od40,an40,sl40,oc40,kV40,dc40,pm40,cd40,ct40,tc_LONGEST_NAME,tc_LONGEST_PATH,tc_MOST_BRACKETS,C_Caught,C_NoName,C_NoPlace,C_NoRow,C_NoText,C_PathError,C_Ring,C_Tangled,C_TooGreat,C_Twice,C_All,C_Ask,C_Elder,C_Let,C_One,C_Part,C_Thing,C_Words,a0,l0,c0,k0,a1,l1,c1,k1,a2,l2,c2,k2,a3,l3,c3,k3,a4,l4,c4,k4,a5,l5,c5,k5,a6,l6,c6,k6,a7,i7,l7,c7,k7,a8,i8,l8,c8,k8,a9,i9,l9,c9,k9,a10,l10,c10,k10,a11,l11,c11,k11,a12,l12,c12,k12,a13,i13,l13,c13,k13,a14,i14,l14,c14,k14,T15,tc15,td15,tn15,ts15,a15,i15,l15,c15,k15,t15,a16,l16,c16,k16,a17,l17,c17,k17,T18,tc18,td18,tn18,ts18,a18,i18,l18,c18,k18,t18,a19,i19,l19,c19,k19,T20,tc20,td20,tn20,ts20,a20,i20,l20,c20,k20,t20,a21,l21,c21,k21,a22,i22,l22,c22,k22,a23,i23,l23,c23,k23,a24,l24,c24,k24,a25,l25,c25,k25,a26,l26,c26,k26,a27,l27,c27,k27,a28,l28,c28,k28,a29,l29,c29,k29,a30,l30,c30,k30,a31,l31,c31,k31,a32,l32,c32,k32,a33,l33,c33,k33,a34,l34,c34,k34,a35,l35,c35,k35,a36,l36,c36,k36,a37,l37,c37,k37,a38,l38,c38,k38,a39,l39,c39,k39,a40,l40,c40,k40,z_ValueError,z_all,z_enumerate,z_int,z_isinstance,z_len,z_list,z_min,z_range,z_str,z_tuple,y_LONGEST_NAME,y_LONGEST_PATH,y_MOST_BRACKETS,g_Caught,g_NoName,g_NoPlace,g_NoRow,g_NoText,g_PathError,g_Ring,g_Tangled,g_TooGreat,g_Twice,x_NoText,x_PathError,hn0,ht0,p_NoText,pa_NoText,pb_NoText,q_NoText,m_NoText,w_NoText,u_NoText_PathError,r_NoText_Caught,r_NoText_NoName,r_NoText_NoPlace,r_NoText_NoRow,r_NoText_NoText,r_NoText_Ring,r_NoText_Tangled,r_NoText_TooGreat,r_NoText_Twice,n_NoText_Caught,n_NoText_NoName,n_NoText_NoPlace,n_NoText_NoRow,n_NoText_Ring,n_NoText_Tangled,n_NoText_TooGreat,n_NoText_Twice,o_Caught,t_Caught,o_NoName,t_NoName,o_NoPlace,t_NoPlace,o_NoRow,t_NoRow,o_NoText,t_NoText,o_Ring,t_Ring,o_Tangled,t_Tangled,o_TooGreat,t_TooGreat,o_Twice,t_Twice,g_All,g_Ask,g_Elder,g_Let,g_One,g_Part,g_Thing,g_Words,pg_All,hd_All,po_All,sa_All,mk_All,kc_All,na_All_on,na_All_path,fc_All,mr_All,ai_All_All,an_All_Elder,an_All_Let,an_All_One,an_All_Part,an_All_Thing,pg_Ask,hd_Ask,po_Ask,sa_Ask,mk_Ask,kc_Ask,na_Ask_path,fc_Ask,mr_Ask,an_Ask_All,an_Ask_Elder,an_Ask_Let,an_Ask_One,an_Ask_Part,an_Ask_Thing,pg_Elder,hd_Elder,po_Elder,sa_Elder,mk_Elder,kc_Elder,na_Elder_path,fc_Elder,mr_Elder,an_Elder_All,ai_Elder_Elder,an_Elder_Let,an_Elder_One,an_Elder_Part,an_Elder_Thing,pg_Let,hd_Let,po_Let,sa_Let,mk_Let,kc_Let,na_Let_name,na_Let_of,fc_Let,mr_Let,an_Let_All,an_Let_Elder,ai_Let_Let,an_Let_One,an_Let_Part,an_Let_Thing,pg_One,hd_One,po_One,sa_One,mk_One,kc_One,na_One_name,na_One_path,na_One_reach,fc_One,mr_One,an_One_All,an_One_Elder,an_One_Let,ai_One_One,an_One_Part,an_One_Thing,pg_Part,hd_Part,po_Part,sa_Part,mk_Part,kc_Part,na_Part_inner,na_Part_name,na_Part_reach,fc_Part,mr_Part,an_Part_All,an_Part_Elder,an_Part_Let,an_Part_One,ai_Part_Part,an_Part_Thing,pg_Thing,hd_Thing,po_Thing,sa_Thing,mk_Thing,kc_Thing,na_Thing_name,na_Thing_of,na_Thing_reach,fc_Thing,mr_Thing,an_Thing_All,an_Thing_Elder,an_Thing_Let,an_Thing_One,an_Thing_Part,ai_Thing_Thing,pg_Words,hd_Words,po_Words,sa_Words,mk_Words,kc_Words,na_Words_place,na_Words_words⟩:=q
 have e:=hfa.symm.trans (PySem.W.mg_of X G a40)
 cases e
 have B:Blt mg:=⟨PySem.W.mg_none_of X G z_ValueError,PySem.W.mg_none_of X G z_all,PySem.W.mg_none_of X G z_enumerate,PySem.W.mg_none_of X G z_int,PySem.W.mg_none_of X G z_isinstance,PySem.W.mg_none_of X G z_len,PySem.W.mg_none_of X G z_list,PySem.W.mg_none_of X G z_min,PySem.W.mg_none_of X G z_range,PySem.W.mg_none_of X G z_str,PySem.W.mg_none_of X G z_tuple,⟨_,PySem.W.mg_of X G y_LONGEST_NAME⟩,⟨_,PySem.W.mg_of X G y_LONGEST_PATH⟩,⟨_,PySem.W.mg_of X G y_MOST_BRACKETS⟩⟩
 have e_Caught:clsA K "Caught" = C_Caught:=clsA_of g_Caught
 have e_NoName:clsA K "NoName" = C_NoName:=clsA_of g_NoName
 have e_NoPlace:clsA K "NoPlace" = C_NoPlace:=clsA_of g_NoPlace
 have e_NoRow:clsA K "NoRow" = C_NoRow:=clsA_of g_NoRow
 have e_NoText:clsA K "NoText" = C_NoText:=clsA_of g_NoText
 have e_PathError:clsA K "PathError" = C_PathError:=clsA_of g_PathError
 have e_Ring:clsA K "Ring" = C_Ring:=clsA_of g_Ring
 have e_Tangled:clsA K "Tangled" = C_Tangled:=clsA_of g_Tangled
 have e_TooGreat:clsA K "TooGreat" = C_TooGreat:=clsA_of g_TooGreat
 have e_Twice:clsA K "Twice" = C_Twice:=clsA_of g_Twice
 have e_All:clsA K "All" = C_All:=clsA_of g_All
 have e_Ask:clsA K "Ask" = C_Ask:=clsA_of g_Ask
 have e_Elder:clsA K "Elder" = C_Elder:=clsA_of g_Elder
 have e_Let:clsA K "Let" = C_Let:=clsA_of g_Let
 have e_One:clsA K "One" = C_One:=clsA_of g_One
 have e_Part:clsA K "Part" = C_Part:=clsA_of g_Part
 have e_Thing:clsA K "Thing" = C_Thing:=clsA_of g_Thing
 have e_Words:clsA K "Words" = C_Words:=clsA_of g_Words
 have ER:Ers K mg:=⟨by rw [e_Caught]; exact PySem.W.mg_of X G g_Caught,by rw [e_NoName]; exact PySem.W.mg_of X G g_NoName,by rw [e_NoPlace]; exact PySem.W.mg_of X G g_NoPlace,by rw [e_NoRow]; exact PySem.W.mg_of X G g_NoRow,by rw [e_NoText]; exact PySem.W.mg_of X G g_NoText,by rw [e_PathError]; exact PySem.W.mg_of X G g_PathError,by rw [e_Ring]; exact PySem.W.mg_of X G g_Ring,by rw [e_Tangled]; exact PySem.W.mg_of X G g_Tangled,by rw [e_TooGreat]; exact PySem.W.mg_of X G g_TooGreat,by rw [e_Twice]; exact PySem.W.mg_of X G g_Twice,by rw [e_NoText]; exact ⟨PySem.W.mg_of X G g_NoText,x_NoText⟩,by rw [e_PathError]; exact ⟨PySem.W.mg_of X G g_PathError,x_PathError⟩,by rw [e_NoText]; exact excCl_of p_NoText pa_NoText pb_NoText q_NoText hn0 ht0 m_NoText,by rw [e_NoText]; exact ask_VE w_NoText,by rw [e_NoText,e_PathError]; exact sub_of_mro u_NoText_PathError,by rw [e_NoText,e_Caught]; exact ask_own (askB_of o_Caught t_Caught r_NoText_Caught),by rw [e_NoText,e_NoName]; exact ask_own (askB_of o_NoName t_NoName r_NoText_NoName),by rw [e_NoText,e_NoPlace]; exact ask_own (askB_of o_NoPlace t_NoPlace r_NoText_NoPlace),by rw [e_NoText,e_NoRow]; exact ask_own (askB_of o_NoRow t_NoRow r_NoText_NoRow),by rw [e_NoText]; exact ask_own (askB_of o_NoText t_NoText r_NoText_NoText),by rw [e_NoText,e_Ring]; exact ask_own (askB_of o_Ring t_Ring r_NoText_Ring),by rw [e_NoText,e_Tangled]; exact ask_own (askB_of o_Tangled t_Tangled r_NoText_Tangled),by rw [e_NoText,e_TooGreat]; exact ask_own (askB_of o_TooGreat t_TooGreat r_NoText_TooGreat),by rw [e_NoText,e_Twice]; exact ask_own (askB_of o_Twice t_Twice r_NoText_Twice),by rw [e_NoText,e_Caught]; exact n_NoText_Caught,by rw [e_NoText,e_NoName]; exact n_NoText_NoName,by rw [e_NoText,e_NoPlace]; exact n_NoText_NoPlace,by rw [e_NoText,e_NoRow]; exact n_NoText_NoRow,by rw [e_NoText,e_Ring]; exact n_NoText_Ring,by rw [e_NoText,e_Tangled]; exact n_NoText_Tangled,by rw [e_NoText,e_TooGreat]; exact n_NoText_TooGreat,by rw [e_NoText,e_Twice]; exact n_NoText_Twice,by rw [e_All]; exact PySem.W.mg_of X G g_All,by rw [e_Ask]; exact PySem.W.mg_of X G g_Ask,by rw [e_Elder]; exact PySem.W.mg_of X G g_Elder,by rw [e_Let]; exact PySem.W.mg_of X G g_Let,by rw [e_One]; exact PySem.W.mg_of X G g_One,by rw [e_Part]; exact PySem.W.mg_of X G g_Part,by rw [e_Thing]; exact PySem.W.mg_of X G g_Thing,by rw [e_Words]; exact PySem.W.mg_of X G g_Words,by rw [e_All]; exact ⟨pg_All,hd_All,po_All,sa_All⟩,by rw [e_All]; exact ⟨pg_All,hd_All,fc_All,hn0,ht0,mr_All⟩,by rw [e_All]; exact na_All_on,by rw [e_All]; exact na_All_path,by rw [e_All]; exact ⟨fun _=>ai_All_All,fun h=>Bool.noConfusion h⟩,by rw [e_All,e_Elder]; exact ⟨fun h=>Bool.noConfusion h,fun _=>an_All_Elder⟩,by rw [e_All,e_Let]; exact ⟨fun h=>Bool.noConfusion h,fun _=>an_All_Let⟩,by rw [e_All,e_One]; exact ⟨fun h=>Bool.noConfusion h,fun _=>an_All_One⟩,by rw [e_All,e_Part]; exact ⟨fun h=>Bool.noConfusion h,fun _=>an_All_Part⟩,by rw [e_All,e_Thing]; exact ⟨fun h=>Bool.noConfusion h,fun _=>an_All_Thing⟩,by rw [e_Ask]; exact ⟨pg_Ask,hd_Ask,po_Ask,sa_Ask⟩,by rw [e_Ask]; exact ⟨pg_Ask,hd_Ask,fc_Ask,hn0,ht0,mr_Ask⟩,by rw [e_Ask]; exact na_Ask_path,by rw [e_Ask,e_All]; exact ⟨fun h=>Bool.noConfusion h,fun _=>an_Ask_All⟩,by rw [e_Ask,e_Elder]; exact ⟨fun h=>Bool.noConfusion h,fun _=>an_Ask_Elder⟩,by rw [e_Ask,e_Let]; exact ⟨fun h=>Bool.noConfusion h,fun _=>an_Ask_Let⟩,by rw [e_Ask,e_One]; exact ⟨fun h=>Bool.noConfusion h,fun _=>an_Ask_One⟩,by rw [e_Ask,e_Part]; exact ⟨fun h=>Bool.noConfusion h,fun _=>an_Ask_Part⟩,by rw [e_Ask,e_Thing]; exact ⟨fun h=>Bool.noConfusion h,fun _=>an_Ask_Thing⟩,by rw [e_Elder]; exact ⟨pg_Elder,hd_Elder,po_Elder,sa_Elder⟩,by rw [e_Elder]; exact ⟨pg_Elder,hd_Elder,fc_Elder,hn0,ht0,mr_Elder⟩,by rw [e_Elder]; exact na_Elder_path,by rw [e_Elder,e_All]; exact ⟨fun h=>Bool.noConfusion h,fun _=>an_Elder_All⟩,by rw [e_Elder]; exact ⟨fun _=>ai_Elder_Elder,fun h=>Bool.noConfusion h⟩,by rw [e_Elder,e_Let]; exact ⟨fun h=>Bool.noConfusion h,fun _=>an_Elder_Let⟩,by rw [e_Elder,e_One]; exact ⟨fun h=>Bool.noConfusion h,fun _=>an_Elder_One⟩,by rw [e_Elder,e_Part]; exact ⟨fun h=>Bool.noConfusion h,fun _=>an_Elder_Part⟩,by rw [e_Elder,e_Thing]; exact ⟨fun h=>Bool.noConfusion h,fun _=>an_Elder_Thing⟩,by rw [e_Let]; exact ⟨pg_Let,hd_Let,po_Let,sa_Let⟩,by rw [e_Let]; exact ⟨pg_Let,hd_Let,fc_Let,hn0,ht0,mr_Let⟩,by rw [e_Let]; exact na_Let_name,by rw [e_Let]; exact na_Let_of,by rw [e_Let,e_All]; exact ⟨fun h=>Bool.noConfusion h,fun _=>an_Let_All⟩,by rw [e_Let,e_Elder]; exact ⟨fun h=>Bool.noConfusion h,fun _=>an_Let_Elder⟩,by rw [e_Let]; exact ⟨fun _=>ai_Let_Let,fun h=>Bool.noConfusion h⟩,by rw [e_Let,e_One]; exact ⟨fun h=>Bool.noConfusion h,fun _=>an_Let_One⟩,by rw [e_Let,e_Part]; exact ⟨fun h=>Bool.noConfusion h,fun _=>an_Let_Part⟩,by rw [e_Let,e_Thing]; exact ⟨fun h=>Bool.noConfusion h,fun _=>an_Let_Thing⟩,by rw [e_One]; exact ⟨pg_One,hd_One,po_One,sa_One⟩,by rw [e_One]; exact ⟨pg_One,hd_One,fc_One,hn0,ht0,mr_One⟩,by rw [e_One]; exact na_One_name,by rw [e_One]; exact na_One_path,by rw [e_One]; exact na_One_reach,by rw [e_One,e_All]; exact ⟨fun h=>Bool.noConfusion h,fun _=>an_One_All⟩,by rw [e_One,e_Elder]; exact ⟨fun h=>Bool.noConfusion h,fun _=>an_One_Elder⟩,by rw [e_One,e_Let]; exact ⟨fun h=>Bool.noConfusion h,fun _=>an_One_Let⟩,by rw [e_One]; exact ⟨fun _=>ai_One_One,fun h=>Bool.noConfusion h⟩,by rw [e_One,e_Part]; exact ⟨fun h=>Bool.noConfusion h,fun _=>an_One_Part⟩,by rw [e_One,e_Thing]; exact ⟨fun h=>Bool.noConfusion h,fun _=>an_One_Thing⟩,by rw [e_Part]; exact ⟨pg_Part,hd_Part,po_Part,sa_Part⟩,by rw [e_Part]; exact ⟨pg_Part,hd_Part,fc_Part,hn0,ht0,mr_Part⟩,by rw [e_Part]; exact na_Part_inner,by rw [e_Part]; exact na_Part_name,by rw [e_Part]; exact na_Part_reach,by rw [e_Part,e_All]; exact ⟨fun h=>Bool.noConfusion h,fun _=>an_Part_All⟩,by rw [e_Part,e_Elder]; exact ⟨fun h=>Bool.noConfusion h,fun _=>an_Part_Elder⟩,by rw [e_Part,e_Let]; exact ⟨fun h=>Bool.noConfusion h,fun _=>an_Part_Let⟩,by rw [e_Part,e_One]; exact ⟨fun h=>Bool.noConfusion h,fun _=>an_Part_One⟩,by rw [e_Part]; exact ⟨fun _=>ai_Part_Part,fun h=>Bool.noConfusion h⟩,by rw [e_Part,e_Thing]; exact ⟨fun h=>Bool.noConfusion h,fun _=>an_Part_Thing⟩,by rw [e_Thing]; exact ⟨pg_Thing,hd_Thing,po_Thing,sa_Thing⟩,by rw [e_Thing]; exact ⟨pg_Thing,hd_Thing,fc_Thing,hn0,ht0,mr_Thing⟩,by rw [e_Thing]; exact na_Thing_name,by rw [e_Thing]; exact na_Thing_of,by rw [e_Thing]; exact na_Thing_reach,by rw [e_Thing,e_All]; exact ⟨fun h=>Bool.noConfusion h,fun _=>an_Thing_All⟩,by rw [e_Thing,e_Elder]; exact ⟨fun h=>Bool.noConfusion h,fun _=>an_Thing_Elder⟩,by rw [e_Thing,e_Let]; exact ⟨fun h=>Bool.noConfusion h,fun _=>an_Thing_Let⟩,by rw [e_Thing,e_One]; exact ⟨fun h=>Bool.noConfusion h,fun _=>an_Thing_One⟩,by rw [e_Thing,e_Part]; exact ⟨fun h=>Bool.noConfusion h,fun _=>an_Thing_Part⟩,by rw [e_Thing]; exact ⟨fun _=>ai_Thing_Thing,fun h=>Bool.noConfusion h⟩,by rw [e_Words]; exact ⟨pg_Words,hd_Words,po_Words,sa_Words⟩,by rw [e_Words]; exact na_Words_place,by rw [e_Words]; exact na_Words_words⟩
 have F0:=fun_mk (st:=s__law_cell_at) l0 c0 k0
 have F1:=fun_mk (st:=s__law_names) l1 c1 k1
 have F2:=fun_mk (st:=s__law_words) l2 c2 k2
 have F3:=fun_mk (st:=s__law_path) l3 c3 k3
 have F4:=fun_mk (st:=s__law_item) l4 c4 k4
 have F5:=fun_mk (st:=s__law_program) l5 c5 k5
 have F6:=fun_mk (st:=s__law_spoiled) l6 c6 k6
 have F7:=fun_mk (st:=s_Words__init__) l7 c7 k7
 have M7:Mk K (clsA K "Words") f7:=by rw [e_Words]; exact ⟨mk_Words,a7,i7,kc_Words⟩
 have F8:=fun_mk (st:=s_Words_ahead) l8 c8 k8
 have M8:Meth K (clsA K "Words") "ahead" f8:=by rw [e_Words]; exact ⟨a8,i8,k8⟩
 have F9:=fun_mk (st:=s_Words_taken) l9 c9 k9
 have M9:Meth K (clsA K "Words") "taken" f9:=by rw [e_Words]; exact ⟨a9,i9,k9⟩
 have F10:=fun_mk (st:=s_taken_reach) l10 c10 k10
 have F11:=fun_mk (st:=s_is_name) l11 c11 k11
 have F12:=fun_mk (st:=s_taken_name) l12 c12 k12
 have F13:=fun_mk (st:=s_Words_skip) l13 c13 k13
 have M13:Meth K (clsA K "Words") "skip" f13:=by rw [e_Words]; exact ⟨a13,i13,k13⟩
 have F14:=fun_mk (st:=s_Part__init__) l14 c14 k14
 have M14:Mk K (clsA K "Part") f14:=by rw [e_Part]; exact ⟨mk_Part,a14,i14,kc_Part⟩
 have F15:=funD_mk (st:=s_Thing__init__) l15 c15
 have M15:Mk K (clsA K "Thing") f15:=by rw [e_Thing]; exact ⟨mk_Thing,a15,i15,kc_Thing⟩
 have F16:=fun_mk (st:=s_read_path) l16 c16 k16
 have F17:=fun_mk (st:=s_taken_sort) l17 c17 k17
 have F18:=funD_mk (st:=s_Let__init__) l18 c18
 have M18:Mk K (clsA K "Let") f18:=by rw [e_Let]; exact ⟨mk_Let,a18,i18,kc_Let⟩
 have F19:=fun_mk (st:=s_Elder__init__) l19 c19 k19
 have M19:Mk K (clsA K "Elder") f19:=by rw [e_Elder]; exact ⟨mk_Elder,a19,i19,kc_Elder⟩
 have F20:=funD_mk (st:=s_All__init__) l20 c20
 have M20:Mk K (clsA K "All") f20:=by rw [e_All]; exact ⟨mk_All,a20,i20,kc_All⟩
 have F21:=fun_mk (st:=s_read_all) l21 c21 k21
 have F22:=fun_mk (st:=s_One__init__) l22 c22 k22
 have M22:Mk K (clsA K "One") f22:=by rw [e_One]; exact ⟨mk_One,a22,i22,kc_One⟩
 have F23:=fun_mk (st:=s_Ask__init__) l23 c23 k23
 have M23:Mk K (clsA K "Ask") f23:=by rw [e_Ask]; exact ⟨mk_Ask,a23,i23,kc_Ask⟩
 have F24:=fun_mk (st:=s_read_part) l24 c24 k24
 have F25:=fun_mk (st:=s_read_item) l25 c25 k25
 have F26:=fun_mk (st:=s_read_items) l26 c26 k26
 have F27:=fun_mk (st:=s_read) l27 c27 k27
 have F28:=fun_mk (st:=s__law_refused) l28 c28 k28
 have F29:=fun_mk (st:=s__law_name) l29 c29 k29
 have F30:=fun_mk (st:=s__law_head) l30 c30 k30
 have F31:=fun_mk (st:=s__law_route) l31 c31 k31
 have F32:=fun_mk (st:=s__law_row) l32 c32 k32
 have F33:=fun_mk (st:=s__law_good) l33 c33 k33
 have F34:=fun_mk (st:=s_written_path) l34 c34 k34
 have F35:=fun_mk (st:=s_words_of_sort) l35 c35 k35
 have F36:=fun_mk (st:=s_with_between) l36 c36 k36
 have F37:=fun_mk (st:=s_words_of_item) l37 c37 k37
 have F38:=fun_mk (st:=s_words_of) l38 c38 k38
 have F39:=fun_mk (st:=s_written) l39 c39 k39
 have F40:=fun_mk (st:=s_law) l40 c40 k40
 refine ⟨PySem.W.fnOf "law" "law" (defArgs s_law) (defBody s_law) (defScope s_law) .none kV40 dc40 pm40 an40 cd40 ct40,fun s v=>.of_eq rfl,fun base _ _=>?_⟩
 have K__law_cell_at:C__law_cell_at l.prog w K mg base:=call__law_cell_at B ER  F0 (PySem.W.mg_of X G a0)
 have K__law_names:C__law_names l.prog w K mg base:=call__law_names B ER  F1 (PySem.W.mg_of X G a1)
 have K__law_words:C__law_words l.prog w K mg base:=call__law_words B ER  F2 (PySem.W.mg_of X G a2)
 have K__law_path:C__law_path l.prog w K mg base:=call__law_path B ER  F3 (PySem.W.mg_of X G a3)
 have K__law_item:C__law_item l.prog w K mg base:=call__law_item B ER K__law_path F4 (PySem.W.mg_of X G a4)
 have K__law_program:C__law_program l.prog w K mg base:=call__law_program B ER K__law_item F5 (PySem.W.mg_of X G a5)
 have K__law_spoiled:C__law_spoiled l.prog w K mg base:=call__law_spoiled B ER  F6 (PySem.W.mg_of X G a6)
 have K_Words__init__:CalleeN l.prog w K mg base (clsA K "Words") 1 ["self", "words"] [] (sp_Words__init__ K):=call_Words__init__ B ER  F7 M7
 have K_Words_ahead:CalleeM l.prog w K mg base (clsA K "Words") "ahead" 1 ["self"] (sp_Words_ahead K):=call_Words_ahead B ER  F8 M8
 have K_Words_taken:CalleeME l.prog w K mg base (clsA K "Words") "taken" 2 ["self"] (sp_Words_taken K):=call_Words_taken B ER K_Words_ahead F9 M9
 have K_taken_reach:CalleeE l.prog w K mg base "taken_reach" 3 ["words"] (sp_taken_reach K):=call_taken_reach B ER K_Words_taken F10 (PySem.W.mg_of X G a10)
 have K_is_name:C_is_name l.prog w K mg base:=call_is_name B ER  F11 (PySem.W.mg_of X G a11)
 have K_taken_name:CalleeE l.prog w K mg base "taken_name" 3 ["words"] (sp_taken_name K):=call_taken_name B ER K_Words_taken K_is_name F12 (PySem.W.mg_of X G a12)
 have K_Words_skip:CalleeME l.prog w K mg base (clsA K "Words") "skip" 3 ["self", "due"] (sp_Words_skip K):=call_Words_skip B ER K_Words_taken F13 M13
 have K_Part__init__:CalleeN l.prog w K mg base (clsA K "Part") 1 ["self", "reach", "name", "items"] [] (sp_Part__init__ K):=call_Part__init__ B ER  F14 M14
 have K_Thing__init__:CalleeN l.prog w K mg base (clsA K "Thing") 1 ["self", "reach", "name", "of"] [] (sp_Thing__init__ K):=call_Thing__init__ t15 rfl B ER  F15 M15
 have K_Thing__init___D:CalleeN l.prog w K mg base (clsA K "Thing") 1 ["self", "reach", "name", "of"] [.none] (sp_Thing__init__ K):=call_Thing__init___D t15 rfl B ER  F15 M15
 have K_read_path:CalleeE l.prog w K mg base "read_path" 2 ["word"] (sp_read_path K):=call_read_path B ER K_is_name F16 (PySem.W.mg_of X G a16)
 have K_taken_sort:CalleeE l.prog w K mg base "taken_sort" 4 ["words"] (sp_taken_sort K):=call_taken_sort B ER K_Words_ahead K_Words_skip K_read_path K_Words_taken F17 (PySem.W.mg_of X G a17)
 have K_Let__init__:CalleeN l.prog w K mg base (clsA K "Let") 1 ["self", "name", "of"] [] (sp_Let__init__ K):=call_Let__init__ t18 rfl B ER  F18 M18
 have K_Let__init___D:CalleeN l.prog w K mg base (clsA K "Let") 1 ["self", "name", "of"] [.none] (sp_Let__init__ K):=call_Let__init___D t18 rfl B ER  F18 M18
 have K_Elder__init__:CalleeN l.prog w K mg base (clsA K "Elder") 1 ["self", "path"] [] (sp_Elder__init__ K):=call_Elder__init__ B ER  F19 M19
 have K_All__init__:CalleeN l.prog w K mg base (clsA K "All") 1 ["self", "path", "on"] [] (sp_All__init__ K):=call_All__init__ t20 rfl B ER  F20 M20
 have K_All__init___D:CalleeN l.prog w K mg base (clsA K "All") 1 ["self", "path", "on"] [(.bool false)] (sp_All__init__ K):=call_All__init___D t20 rfl B ER  F20 M20
 have K_read_all:CalleeE l.prog w K mg base "read_all" 3 ["words"] (sp_read_all K):=call_read_all B ER K_Words_taken K_Words_ahead K_All__init__ K_read_path F21 (PySem.W.mg_of X G a21)
 have K_One__init__:CalleeN l.prog w K mg base (clsA K "One") 1 ["self", "reach", "name", "path"] [] (sp_One__init__ K):=call_One__init__ B ER  F22 M22
 have K_Ask__init__:CalleeN l.prog w K mg base (clsA K "Ask") 1 ["self", "path"] [] (sp_Ask__init__ K):=call_Ask__init__ B ER  F23 M23
 have K_read_items:CalleeE l.prog w K mg base "read_items" 101 ["words", "brackets"] (sp_read_items K):=calln_read_items B ER K_taken_reach K_taken_name K_Words_skip K_Words_ahead K_Part__init__ K_Words_taken K_Thing__init__ K_taken_sort K_Let__init__ K_Elder__init__ K_read_path K_read_all K_One__init__ K_Ask__init__ F24 (PySem.W.mg_of X G a24) F25 (PySem.W.mg_of X G a25) F26 (PySem.W.mg_of X G a26) 32
 have K_read:CalleeE l.prog w K mg base "read" 102 ["text"] (sp_read K):=call_read B ER K_Words__init__ K_read_items K_Words_ahead F27 (PySem.W.mg_of X G a27)
 have K__law_refused:C__law_refused l.prog w K mg base:=call__law_refused B ER K_read F28 (PySem.W.mg_of X G a28)
 have K__law_name:C__law_name l.prog w K mg base:=call__law_name B ER  F29 (PySem.W.mg_of X G a29)
 have K__law_head:C__law_head l.prog w K mg base:=call__law_head B ER K__law_name F30 (PySem.W.mg_of X G a30)
 have K__law_route:C__law_route l.prog w K mg base:=call__law_route B ER K__law_name F31 (PySem.W.mg_of X G a31)
 have K__law_row:C__law_row l.prog w K mg base:=call__law_row B ER K__law_route K__law_name F32 (PySem.W.mg_of X G a32)
 have K__law_good:C__law_good l.prog w K mg base:=call__law_good B ER K__law_head K__law_row F33 (PySem.W.mg_of X G a33)
 have K_written_path:C_written_path l.prog w K mg base:=call_written_path B ER  F34 (PySem.W.mg_of X G a34)
 have K_words_of_sort:C_words_of_sort l.prog w K mg base:=call_words_of_sort B ER K_written_path F35 (PySem.W.mg_of X G a35)
 have K_with_between:C_with_between l.prog w K mg base:=call_with_between B ER  F36 (PySem.W.mg_of X G a36)
 have K_words_of:C_words_of l.prog w K mg base:=calln_words_of B ER K_words_of_sort K_written_path K_with_between F37 (PySem.W.mg_of X G a37) F38 (PySem.W.mg_of X G a38) 32
 have K_written:C_written l.prog w K mg base:=call_written B ER K_words_of F39 (PySem.W.mg_of X G a39)
 exact ok_law B ER K__law_cell_at K__law_names K__law_words K__law_program K__law_spoiled K__law_refused K__law_good K_read K_written F40
theorem walk {l:PySem.W.OpenLaw} {q:Program} {loose:List Str} {XP:(Str→Option Value)→Heap→Prop} {YP:World→Heap→Prop} {d:DefRec} {K:Params→PySem.W.Frag} (hn:l.most=some 63) (hdf:d.params.defaults=[])
 (hY:∀ (w:World) (h:Heap),YP w h→(K w.params).In h)
 (F:∀ (w:World) (mg:Str→Option Value) (fa:Addr) (h:Heap),(K w.params).In h→h.Ns mainGlobals mg→mg d.name=some (.ref fa) →
  ∃ fd:FuncData,(∀ (s:Shared) (u:Value),BindsTo s fd ⟨[u],[]⟩ [("_law_script",u)])∧∀ base:Heap,(K w.params).In base→base.Ns mainGlobals mg→FnOk l.prog w (K w.params) mg base CX0 104 fa fd ["_law_script"] (sp_law (K w.params))) :
 PySem.W.WalkO q loose XP YP l.row.toRowW d [] (fun f vs=>PySem.call f vs) :=
 L2.walk_of (n:=63) (k:=104) (x := "_law_script") (CX:=fun _=>CX0) (sp:=fun w=>sp_law (K w.params)) hn (by decide) hdf ⟨rfl,by decide,by decide,rfl⟩ hY F (fun _ _ a ns hl _ hS=>⟨a,ns,rfl,hS,hl,fun _=>rfl⟩) fun _ _ _ _ _ z=>z
end K73
open PySem PySem.W PyProof.Rows in
theorem PySem.Challenge.cw_namepaths_k73_texts_told_apart_holds : PySem.Challenge.rw_namepaths_k73_texts_told_apart.Holds :=
 K73.hd fun K q YP d h1 h2 hY=>K73.walk (l:=PySem.Challenge.rw_namepaths_k73_texts_told_apart) rfl h1 hY fun w mg fa h X G hm=>K73.all_mk X G (h2 ▸ hm) (q w)
