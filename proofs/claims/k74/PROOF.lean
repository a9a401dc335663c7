import PyProof.Rows.All
import Wide.All
import OpenK.AllK
import Wide.FinOn
import Lean
import PyProof.EqAt
import PyProof.EqKinds
import PyProof.TupleCall
import PySem.Challenge.RW_namepaths_k74_programs_refused
import Open.Tops
set_option Elab.async false
set_option linter.all false
set_option maxRecDepth 100000
set_option maxHeartbeats 1000000
noncomputable section
noncomputable def PySem.W.Fast.tw15353240492323952154:PySem.Program:=PySem.Challenge.pw_namepaths_k74_programs_refused
theorem PySem.W.Fast.te15353240492323952154:PySem.Challenge.pw_namepaths_k74_programs_refused=PySem.W.Fast.tw15353240492323952154:=rfl
namespace L2
open PySem PySem.Spec PyProof.Rows
noncomputable def defArgs (s:Stmt):Arguments:=match s with
 | .FunctionDef _ a _ _ _ _ _ _ _ _=>a
 | _=>{ posonlyargs:=[],args:=[],vararg:=none,kwonlyargs:=[],kw_defaults:=[],kwarg:=none,defaults:=[] }
noncomputable def defBody (s:Stmt):List Stmt:=match s with
 | .FunctionDef _ _ b _ _ _ _ _ _ _=>b
 | _=>[]
noncomputable def defScope (s:Stmt):Scope:=match s with
 | .FunctionDef _ _ _ _ _ _ sc _ _ _=>sc
 | _=>{ kind:=.function,names:=[],isGenerator:=false,isCoroutine:=false }
section
open PySem.W PySem.W.Fast
noncomputable def runM (p:Program) (w:World) (m₀:Nat) (ann:Option Value) (M:Nat) (s:Shared) (t:Thread):Option Shared:=(tw14082659384304107361 tw14364793385576792824 p w m₀ ann M s t).bind fun s₁=>match staticsOk (tw5923862056798008813 p.main.body) (boot_heap w.params) s₁.heap && namesBound p s₁.heap && gensDone s₁ && laidKept (boot_heap w.params) s₁.heap with
 | true=>some s₁
 | false=>none
theorem left_mid {p q:Program} {loose:List Str} {Xt:Shared→Bool} {α:Type} {Yf:Shared→α} {Ya:World→α} {M m₀:Nat} {ann:Option Value} {Sm:World→OsState→Shared} {tm:Thread} (e:opening p=plainProg p.main.scope.names) (f:∀ s,fenceModules? p s=some s)
 (size:∀ w:World,((boot_heap w.params).isNs mainGlobals && (Array.mk ([]:List GenState)).size == 0,(boot_heap w.params).objs.size,(boot_heap w.params).nsMap mainGlobals "__annotations__")=(true,m₀,ann))
 (go:∀ (w:World) (os:OsState) (r:Shared),topRun treeTable p w m₀ ann M (Sm w os) tm=some r→topRun treeTable p w m₀ ann 40000 ⟨boot_heap w.params,Array.mk [],boot_drawn,boot_toks,os⟩ (topStub p)=some r)
 (A:∀ (w:World) (os:OsState),Option.map (fun s=>tw4187177175401517315 q loose (tw5923862056798008813 p.main.body) Xt true s) (runM p w m₀ ann M (Sm w os) tm)=some (openGood q loose))
 (B:∀ (w:World) (os:OsState),Option.map Yf (runM p w m₀ ann M (Sm w os) tm)=some (Ya w)):LeftO p q loose Xt Yf Ya 40000:=by
 intro w
 obtain ⟨⟨h,gs,d,k,os⟩,e1,e2⟩:=Option.map_eq_some_iff.mp (boot_open (N:=40000) e (Eq.refl true) f w)
 obtain ⟨rfl,rfl,rfl,rfl⟩:h=boot_heap w.params∧gs=Array.mk []∧d=boot_drawn∧k=boot_toks:=by simpa using e2
 obtain ⟨z1,z2,z3⟩:_∧_∧_:=by simpa only [Prod.mk.injEq] using size w
 have a:=A w os
 have b:=B w os
 obtain ⟨s₁,hr,ha⟩:=Option.map_eq_some_iff.mp a
 rw [hr] at b
 have hb:=Option.some.inj b
 unfold runM at hr
 rw [←te14082659384304107361,←te14364793385576792824,←te5923862056798008813] at hr
 rw [←te4187177175401517315,←te5923862056798008813] at ha
 obtain ⟨s₂,h2,h3⟩:=Option.bind_eq_some_iff.mp hr
 have r:=go w os s₂ h2
 have t:topFrom treeTable p w 40000 ⟨boot_heap w.params,Array.mk [],boot_drawn,boot_toks,os⟩=some s₁:=by
  unfold topFrom
  dsimp only
  rw [z1,z2,z3,r]
  exact h3
 unfold openEnds
 rw [e1]
 show (topFrom treeTable p w 40000 _).map _=_
 rw [t]
 exact congrArg some (Prod.ext ha hb)
end
end L2
namespace K74
open PySem PySem.Spec PyProof.Rows PySem.W L2
noncomputable def top (i:Nat):Stmt:=PySem.Challenge.pw_namepaths_k74_programs_refused.main.body.getD i (.Pass ⟨0,0,0,0⟩)
noncomputable def inCls:Stmt→Nat→Stmt
 | .ClassDef _ _ _ body _ _ _ _ _ _ _,j=>body.getD j (.Pass ⟨0,0,0,0⟩)
 | s,_=>s
abbrev s_Thing__init__:Stmt:=inCls (top 16) 0
abbrev s_Let__init__:Stmt:=inCls (top 17) 0
abbrev s_Ask__init__:Stmt:=inCls (top 21) 0
abbrev s_Part__init__:Stmt:=inCls (top 15) 0
abbrev s__law_plain:Stmt:=top 59
abbrev s__law_cell_at:Stmt:=top 58
abbrev s__law_nested:Stmt:=top 60
abbrev s__law_homes:Stmt:=top 61
abbrev s_All__init__:Stmt:=inCls (top 19) 0
abbrev s_One__init__:Stmt:=inCls (top 20) 0
abbrev s_Elder__init__:Stmt:=inCls (top 18) 0
abbrev s__law_much:Stmt:=top 62
abbrev s__law_no_name:Stmt:=top 63
abbrev s_items_within:Stmt:=top 51
abbrev s_refuse_too_great_2:Stmt:=top 49
abbrev s_Ground__init__:Stmt:=inCls (top 48) 0
abbrev s_Ground_new_scope:Stmt:=inCls (top 48) 1
abbrev s_Ground_new_thing:Stmt:=inCls (top 48) 2
abbrev s_Ground_more_tellings:Stmt:=inCls (top 48) 5
abbrev s_Ground_new_question:Stmt:=inCls (top 48) 3
abbrev s_thing_of:Stmt:=top 56
abbrev s_Ground_more_steps:Stmt:=inCls (top 48) 4
abbrev s_lay_step:Stmt:=top 55
abbrev s_lay_part:Stmt:=top 54
abbrev s_lay_item:Stmt:=top 53
abbrev s_lay_items:Stmt:=top 52
abbrev s_refuse_more:Stmt:=top 37
abbrev s_refuse_too_great:Stmt:=top 35
abbrev s_words_told:Stmt:=top 39
abbrev s_is_name:Stmt:=top 25
abbrev s_refuse_no_names:Stmt:=top 38
abbrev s_is_whole:Stmt:=top 24
abbrev s_is_place:Stmt:=top 26
abbrev s_refuse_no_place:Stmt:=top 41
abbrev s_refuse_no_places:Stmt:=top 40
abbrev s_net_of:Stmt:=top 34
abbrev s_net_by:Stmt:=top 47
abbrev s__law_outcome:Stmt:=top 64
abbrev s_law:Stmt:=top 65
noncomputable def own:List Nat:=[1,3,4,5,6,7,8,9,10,11,12,14,15,16,17,18,19,20,21,23,24,25,26,28,29,30,31,32,33,34,36,37,38,39,40,41,43,44,45,46,47,48,49,50,51,52,53,54,55,56,58,59,60,61,62,63,64,65]
noncomputable def view:Program:=PySem.W.view PySem.Challenge.pw_namepaths_k74_programs_refused own
noncomputable abbrev loose:List Str:=["Thing", "Let", "All", "refuse_too_great_nets", "refuse_too_great_laying"]
open_shared st for PySem.Challenge.pw_namepaths_k74_programs_refused leaving 46
noncomputable abbrev PP:Program:=PySem.Challenge.pw_namepaths_k74_programs_refused
noncomputable abbrev bb:List Stmt:=behindTheImports PP
noncomputable abbrev B0:List Frame:=[topFrame { line:=0,col:=0,endLine:=0,endCol:=0 }]
noncomputable abbrev cc:Code:=Code.body bb st.env_1
noncomputable abbrev S0 (w:World) (os:OsState):Shared:=⟨boot_heap w.params,Array.mk [],boot_drawn,boot_toks,os⟩
noncomputable abbrev Sb (w:World) (os:OsState):Shared:=SharedT.abs { tree:=st.tree_4 w.params,n:=15,life:={ },gens:={ toList:=[] },drawn:={ },toks:=187,os:=os }
noncomputable abbrev Sm (w:World) (os:OsState):Shared:=SharedT.abs { tree:=st.tree_317 w.params,n:=267,life:={ },gens:={ toList:=[] },drawn:={ },toks:=540,os:=os }
noncomputable abbrev tm:Thread:=restOf (bb.drop 20) st.env_1 cc { line:=61,col:=0,endLine:=65,endCol:=20 } B0
theorem pre (w:World) (os:OsState):topGo treeTable PP w 11 (some (Value.ref 6)) 12 (S0 w os) (topStub PP)=some (Sb w os,⟨denote treeTable (.body bb st.env_1),cc,{ line:=0,col:=0,endLine:=0,endCol:=0 },B0⟩):=by kernel_rfl
theorem block (w:World) (os:OsState):segRun treeTable PP w 11 (some (Value.ref 6)) 1 1 (Sb w os) (blockOf bb st.env_1 cc { line:=0,col:=0,endLine:=0,endCol:=0 } B0)=some (.next,Sb w os,cc,{ line:=0,col:=0,endLine:=0,endCol:=0 }):=by kernel_rfl
theorem bbs:bb=st.sts_4++(st.sts_26++(st.sts_42++(st.sts_58++(st.sts_74++(st.sts_90++(st.sts_106++(st.sts_122++(st.sts_138++(st.sts_161++(st.sts_184++(st.sts_201++(st.sts_224++(st.sts_248++(st.sts_272++(st.sts_295++bb.drop 20))))))))))))))):=by kernel_rfl
theorem mid_go (w:World) (os:OsState) (r:Shared) (h:topRun treeTable PP w 11 (some (Value.ref 6)) 36317 (Sm w os) tm=some r):topRun treeTable PP w 11 (some (Value.ref 6)) 40000 (S0 w os) (topStub PP)=some r:=by
 have h1:=st.chain PP bb w os _ _ r h
 rw [←bbs] at h1
 exact go_top (n:=12) (N:=39988) (pre w os) (piece_block (n:=1) (N:=39987) (block w os) h1)
theorem mid_open:opening PP=plainProg PP.main.scope.names:=by kernel_rfl
theorem mid_fence (s:Shared):fenceModules? PP s=some s:=by kernel_rfl
theorem mid_size (w:World):((boot_heap w.params).isNs mainGlobals && (Array.mk ([]:List GenState)).size == 0,(boot_heap w.params).objs.size,(boot_heap w.params).nsMap mainGlobals "__annotations__")=(true,11,some (Value.ref 6)):=by kernel_rfl
inductive Facts (K:PySem.W.Frag):Prop where
 | mk
   {f0:Addr} {od0 an0:Option Addr} {sl0:Array (Option Value)} {oc0 kV0 dc0 pm0 cd0 ct0:Value}
   {f1:Addr} {od1 an1:Option Addr} {sl1:Array (Option Value)} {oc1 kV1 dc1 pm1 cd1 ct1:Value}
   {f2:Addr} {od2 an2:Option Addr} {sl2:Array (Option Value)} {oc2 kV2 dc2 pm2 cd2 ct2:Value}
   {f3:Addr} {od3 an3:Option Addr} {sl3:Array (Option Value)} {oc3 kV3 dc3 pm3 cd3 ct3:Value}
   {f4:Addr} {od4 an4:Option Addr} {sl4:Array (Option Value)} {oc4 kV4 dc4 pm4 cd4 ct4:Value}
   {f5:Addr} {od5 an5:Option Addr} {sl5:Array (Option Value)} {oc5 kV5 dc5 pm5 cd5 ct5:Value}
   {f6:Addr} {od6 an6:Option Addr} {sl6:Array (Option Value)} {oc6 kV6 dc6 pm6 cd6 ct6:Value}
   {f7:Addr} {od7 an7:Option Addr} {sl7:Array (Option Value)} {oc7 kV7 dc7 pm7 cd7 ct7:Value}
   {f8:Addr} {od8 an8:Option Addr} {sl8:Array (Option Value)} {oc8 kV8 dc8 pm8 cd8 ct8:Value}
   {f9:Addr} {od9 an9:Option Addr} {sl9:Array (Option Value)} {oc9 kV9 dc9 pm9 cd9 ct9:Value}
   {f10:Addr} {od10 an10:Option Addr} {sl10:Array (Option Value)} {oc10 kV10 dc10 pm10 cd10 ct10:Value}
   {f11:Addr} {od11 an11:Option Addr} {sl11:Array (Option Value)} {oc11 kV11 dc11 pm11 cd11 ct11:Value}
   {f12:Addr} {od12 an12:Option Addr} {sl12:Array (Option Value)} {oc12 kV12 dc12 pm12 cd12 ct12:Value}
   {f13:Addr} {od13 an13:Option Addr} {sl13:Array (Option Value)} {oc13 kV13 dc13 pm13 cd13 ct13:Value}
   {f14:Addr} {od14 an14:Option Addr} {sl14:Array (Option Value)} {oc14 kV14 dc14 pm14 cd14 ct14:Value}
   {f15:Addr} {od15 an15:Option Addr} {sl15:Array (Option Value)} {oc15 kV15 dc15 pm15 cd15 ct15:Value}
   {f16:Addr} {od16 an16:Option Addr} {sl16:Array (Option Value)} {oc16 kV16 dc16 pm16 cd16 ct16:Value}
   {f17:Addr} {od17 an17:Option Addr} {sl17:Array (Option Value)} {oc17 kV17 dc17 pm17 cd17 ct17:Value}
   {f18:Addr} {od18 an18:Option Addr} {sl18:Array (Option Value)} {oc18 kV18 dc18 pm18 cd18 ct18:Value}
   {f19:Addr} {od19 an19:Option Addr} {sl19:Array (Option Value)} {oc19 kV19 dc19 pm19 cd19 ct19:Value}
   {f20:Addr} {od20 an20:Option Addr} {sl20:Array (Option Value)} {oc20 kV20 dc20 pm20 cd20 ct20:Value}
   {f21:Addr} {od21 an21:Option Addr} {sl21:Array (Option Value)} {oc21 kV21 dc21 pm21 cd21 ct21:Value}
   {f22:Addr} {od22 an22:Option Addr} {sl22:Array (Option Value)} {oc22 kV22 dc22 pm22 cd22 ct22:Value}
   {f23:Addr} {od23 an23:Option Addr} {sl23:Array (Option Value)} {oc23 kV23 dc23 pm23 cd23 ct23:Value}
   {f24:Addr} {od24 an24:Option Addr} {sl24:Array (Option Value)} {oc24 kV24 dc24 pm24 cd24 ct24:Value}
   {f25:Addr} {od25 an25:Option Addr} {sl25:Array (Option Value)} {oc25 kV25 dc25 pm25 cd25 ct25:Value}
   {f26:Addr} {od26 an26:Option Addr} {sl26:Array (Option Value)} {oc26 kV26 dc26 pm26 cd26 ct26:Value}
   {f27:Addr} {od27 an27:Option Addr} {sl27:Array (Option Value)} {oc27 kV27 dc27 pm27 cd27 ct27:Value}
   {f28:Addr} {od28 an28:Option Addr} {sl28:Array (Option Value)} {oc28 kV28 dc28 pm28 cd28 ct28:Value}
   {f29:Addr} {od29 an29:Option Addr} {sl29:Array (Option Value)} {oc29 kV29 dc29 pm29 cd29 ct29:Value}
   {f30:Addr} {od30 an30:Option Addr} {sl30:Array (Option Value)} {oc30 kV30 dc30 pm30 cd30 ct30:Value}
   {f31:Addr} {od31 an31:Option Addr} {sl31:Array (Option Value)} {oc31 kV31 dc31 pm31 cd31 ct31:Value}
   {f32:Addr} {od32 an32:Option Addr} {sl32:Array (Option Value)} {oc32 kV32 dc32 pm32 cd32 ct32:Value}
   {f33:Addr} {od33 an33:Option Addr} {sl33:Array (Option Value)} {oc33 kV33 dc33 pm33 cd33 ct33:Value}
   {f34:Addr} {od34 an34:Option Addr} {sl34:Array (Option Value)} {oc34 kV34 dc34 pm34 cd34 ct34:Value}
   {f35:Addr} {od35 an35:Option Addr} {sl35:Array (Option Value)} {oc35 kV35 dc35 pm35 cd35 ct35:Value}
   {f36:Addr} {od36 an36:Option Addr} {sl36:Array (Option Value)} {oc36 kV36 dc36 pm36 cd36 ct36:Value}
   {f37:Addr} {od37 an37:Option Addr} {sl37:Array (Option Value)} {oc37 kV37 dc37 pm37 cd37 ct37:Value}
   {f38:Addr} {od38 an38:Option Addr} {sl38:Array (Option Value)} {oc38 kV38 dc38 pm38 cd38 ct38:Value}
   {tc_ANYWHERE:Tok}
   {tc_LONGEST_NAME:Tok}
   {tc_LONGEST_PATH:Tok}
   {tc_MOST_AROUND:Tok}
   {tc_MOST_ITEMS:Tok}
   {tc_MOST_QUESTIONS:Tok}
   {tc_MOST_SCOPES:Tok}
   {tc_MOST_STEPS:Tok}
   {tc_MOST_TELLINGS:Tok}
   {tc_MOST_THINGS:Tok}
   {tc_OUTSIDE:Tok}
   {C_Caught C_NoName C_NoPlace C_NoRow C_NoText C_PathError C_Ring C_Tangled C_TooGreat C_Twice:Addr}
   {C_All C_Ask C_Elder C_Ground C_Let C_One C_Part C_Thing:Addr}
   {T0:Addr} {tc0:Value} {td0:Option Addr} {tn0:Nat} {ts0:Array (Option Value)}
   (a0:PySem.W.findIn K (.ref C_Thing) "__init__" = some (some (.ref f0))) (i0:PySem.W.isFn K (.ref f0)=true) (l0:K.lookup f0=some ⟨oc0,od0,.func (PySem.W.fnOf "__init__" "Thing.__init__" (defArgs s_Thing__init__) (defBody s_Thing__init__) (defScope s_Thing__init__) (.ref T0) kV0 dc0 pm0 an0 cd0 ct0),sl0⟩) (c0:PySem.W.codeIn K cd0 "Thing.__init__" = true) (k0:PySem.W.keepIn K (.ref f0)=true)
   (t0:K.lookup T0=some ⟨tc0,td0,.seq #[.none] tn0,ts0⟩)
   {T1:Addr} {tc1:Value} {td1:Option Addr} {tn1:Nat} {ts1:Array (Option Value)}
   (a1:PySem.W.findIn K (.ref C_Let) "__init__" = some (some (.ref f1))) (i1:PySem.W.isFn K (.ref f1)=true) (l1:K.lookup f1=some ⟨oc1,od1,.func (PySem.W.fnOf "__init__" "Let.__init__" (defArgs s_Let__init__) (defBody s_Let__init__) (defScope s_Let__init__) (.ref T1) kV1 dc1 pm1 an1 cd1 ct1),sl1⟩) (c1:PySem.W.codeIn K cd1 "Let.__init__" = true) (k1:PySem.W.keepIn K (.ref f1)=true)
   (t1:K.lookup T1=some ⟨tc1,td1,.seq #[.none] tn1,ts1⟩)
   (a2:PySem.W.findIn K (.ref C_Ask) "__init__" = some (some (.ref f2))) (i2:PySem.W.isFn K (.ref f2)=true) (l2:K.lookup f2=some ⟨oc2,od2,.func (PySem.W.fnOf "__init__" "Ask.__init__" (defArgs s_Ask__init__) (defBody s_Ask__init__) (defScope s_Ask__init__) .none kV2 dc2 pm2 an2 cd2 ct2),sl2⟩) (c2:PySem.W.codeIn K cd2 "Ask.__init__" = true) (k2:PySem.W.keepIn K (.ref f2)=true)
   (a3:PySem.W.findIn K (.ref C_Part) "__init__" = some (some (.ref f3))) (i3:PySem.W.isFn K (.ref f3)=true) (l3:K.lookup f3=some ⟨oc3,od3,.func (PySem.W.fnOf "__init__" "Part.__init__" (defArgs s_Part__init__) (defBody s_Part__init__) (defScope s_Part__init__) .none kV3 dc3 pm3 an3 cd3 ct3),sl3⟩) (c3:PySem.W.codeIn K cd3 "Part.__init__" = true) (k3:PySem.W.keepIn K (.ref f3)=true)
   (a4:PySem.W.nsIn K mainGlobals "_law_plain" = some (some (.ref f4))) (l4:K.lookup f4=some ⟨oc4,od4,.func (PySem.W.fnOf "_law_plain" "_law_plain" (defArgs s__law_plain) (defBody s__law_plain) (defScope s__law_plain) .none kV4 dc4 pm4 an4 cd4 ct4),sl4⟩) (c4:PySem.W.codeIn K cd4 "_law_plain" = true) (k4:PySem.W.keepIn K (.ref f4)=true)
   (a5:PySem.W.nsIn K mainGlobals "_law_cell_at" = some (some (.ref f5))) (l5:K.lookup f5=some ⟨oc5,od5,.func (PySem.W.fnOf "_law_cell_at" "_law_cell_at" (defArgs s__law_cell_at) (defBody s__law_cell_at) (defScope s__law_cell_at) .none kV5 dc5 pm5 an5 cd5 ct5),sl5⟩) (c5:PySem.W.codeIn K cd5 "_law_cell_at" = true) (k5:PySem.W.keepIn K (.ref f5)=true)
   (a6:PySem.W.nsIn K mainGlobals "_law_nested" = some (some (.ref f6))) (l6:K.lookup f6=some ⟨oc6,od6,.func (PySem.W.fnOf "_law_nested" "_law_nested" (defArgs s__law_nested) (defBody s__law_nested) (defScope s__law_nested) .none kV6 dc6 pm6 an6 cd6 ct6),sl6⟩) (c6:PySem.W.codeIn K cd6 "_law_nested" = true) (k6:PySem.W.keepIn K (.ref f6)=true)
   (a7:PySem.W.nsIn K mainGlobals "_law_homes" = some (some (.ref f7))) (l7:K.lookup f7=some ⟨oc7,od7,.func (PySem.W.fnOf "_law_homes" "_law_homes" (defArgs s__law_homes) (defBody s__law_homes) (defScope s__law_homes) .none kV7 dc7 pm7 an7 cd7 ct7),sl7⟩) (c7:PySem.W.codeIn K cd7 "_law_homes" = true) (k7:PySem.W.keepIn K (.ref f7)=true)
   {T8:Addr} {tc8:Value} {td8:Option Addr} {tn8:Nat} {ts8:Array (Option Value)}
   (a8:PySem.W.findIn K (.ref C_All) "__init__" = some (some (.ref f8))) (i8:PySem.W.isFn K (.ref f8)=true) (l8:K.lookup f8=some ⟨oc8,od8,.func (PySem.W.fnOf "__init__" "All.__init__" (defArgs s_All__init__) (defBody s_All__init__) (defScope s_All__init__) (.ref T8) kV8 dc8 pm8 an8 cd8 ct8),sl8⟩) (c8:PySem.W.codeIn K cd8 "All.__init__" = true) (k8:PySem.W.keepIn K (.ref f8)=true)
   (t8:K.lookup T8=some ⟨tc8,td8,.seq #[.bool false] tn8,ts8⟩)
   (a9:PySem.W.findIn K (.ref C_One) "__init__" = some (some (.ref f9))) (i9:PySem.W.isFn K (.ref f9)=true) (l9:K.lookup f9=some ⟨oc9,od9,.func (PySem.W.fnOf "__init__" "One.__init__" (defArgs s_One__init__) (defBody s_One__init__) (defScope s_One__init__) .none kV9 dc9 pm9 an9 cd9 ct9),sl9⟩) (c9:PySem.W.codeIn K cd9 "One.__init__" = true) (k9:PySem.W.keepIn K (.ref f9)=true)
   (a10:PySem.W.findIn K (.ref C_Elder) "__init__" = some (some (.ref f10))) (i10:PySem.W.isFn K (.ref f10)=true) (l10:K.lookup f10=some ⟨oc10,od10,.func (PySem.W.fnOf "__init__" "Elder.__init__" (defArgs s_Elder__init__) (defBody s_Elder__init__) (defScope s_Elder__init__) .none kV10 dc10 pm10 an10 cd10 ct10),sl10⟩) (c10:PySem.W.codeIn K cd10 "Elder.__init__" = true) (k10:PySem.W.keepIn K (.ref f10)=true)
   (a11:PySem.W.nsIn K mainGlobals "_law_much" = some (some (.ref f11))) (l11:K.lookup f11=some ⟨oc11,od11,.func (PySem.W.fnOf "_law_much" "_law_much" (defArgs s__law_much) (defBody s__law_much) (defScope s__law_much) .none kV11 dc11 pm11 an11 cd11 ct11),sl11⟩) (c11:PySem.W.codeIn K cd11 "_law_much" = true) (k11:PySem.W.keepIn K (.ref f11)=true)
   (a12:PySem.W.nsIn K mainGlobals "_law_no_name" = some (some (.ref f12))) (l12:K.lookup f12=some ⟨oc12,od12,.func (PySem.W.fnOf "_law_no_name" "_law_no_name" (defArgs s__law_no_name) (defBody s__law_no_name) (defScope s__law_no_name) .none kV12 dc12 pm12 an12 cd12 ct12),sl12⟩) (c12:PySem.W.codeIn K cd12 "_law_no_name" = true) (k12:PySem.W.keepIn K (.ref f12)=true)
   (a13:PySem.W.nsIn K mainGlobals "items_within" = some (some (.ref f13))) (l13:K.lookup f13=some ⟨oc13,od13,.func (PySem.W.fnOf "items_within" "items_within" (defArgs s_items_within) (defBody s_items_within) (defScope s_items_within) .none kV13 dc13 pm13 an13 cd13 ct13),sl13⟩) (c13:PySem.W.codeIn K cd13 "items_within" = true) (k13:PySem.W.keepIn K (.ref f13)=true)
   (a14:PySem.W.nsIn K mainGlobals "refuse_too_great_laying" = some (some (.ref f14))) (l14:K.lookup f14=some ⟨oc14,od14,.func (PySem.W.fnOf "refuse_too_great" "refuse_too_great" (defArgs s_refuse_too_great_2) (defBody s_refuse_too_great_2) (defScope s_refuse_too_great_2) .none kV14 dc14 pm14 an14 cd14 ct14),sl14⟩) (c14:PySem.W.codeIn K cd14 "refuse_too_great" = true) (k14:PySem.W.keepIn K (.ref f14)=true)
   (a15:PySem.W.findIn K (.ref C_Ground) "__init__" = some (some (.ref f15))) (i15:PySem.W.isFn K (.ref f15)=true) (l15:K.lookup f15=some ⟨oc15,od15,.func (PySem.W.fnOf "__init__" "Ground.__init__" (defArgs s_Ground__init__) (defBody s_Ground__init__) (defScope s_Ground__init__) .none kV15 dc15 pm15 an15 cd15 ct15),sl15⟩) (c15:PySem.W.codeIn K cd15 "Ground.__init__" = true) (k15:PySem.W.keepIn K (.ref f15)=true)
   (a16:PySem.W.findIn K (.ref C_Ground) "new_scope" = some (some (.ref f16))) (i16:PySem.W.isFn K (.ref f16)=true) (l16:K.lookup f16=some ⟨oc16,od16,.func (PySem.W.fnOf "new_scope" "Ground.new_scope" (defArgs s_Ground_new_scope) (defBody s_Ground_new_scope) (defScope s_Ground_new_scope) .none kV16 dc16 pm16 an16 cd16 ct16),sl16⟩) (c16:PySem.W.codeIn K cd16 "Ground.new_scope" = true) (k16:PySem.W.keepIn K (.ref f16)=true)
   (a17:PySem.W.findIn K (.ref C_Ground) "new_thing" = some (some (.ref f17))) (i17:PySem.W.isFn K (.ref f17)=true) (l17:K.lookup f17=some ⟨oc17,od17,.func (PySem.W.fnOf "new_thing" "Ground.new_thing" (defArgs s_Ground_new_thing) (defBody s_Ground_new_thing) (defScope s_Ground_new_thing) .none kV17 dc17 pm17 an17 cd17 ct17),sl17⟩) (c17:PySem.W.codeIn K cd17 "Ground.new_thing" = true) (k17:PySem.W.keepIn K (.ref f17)=true)
   (a18:PySem.W.findIn K (.ref C_Ground) "more_tellings" = some (some (.ref f18))) (i18:PySem.W.isFn K (.ref f18)=true) (l18:K.lookup f18=some ⟨oc18,od18,.func (PySem.W.fnOf "more_tellings" "Ground.more_tellings" (defArgs s_Ground_more_tellings) (defBody s_Ground_more_tellings) (defScope s_Ground_more_tellings) .none kV18 dc18 pm18 an18 cd18 ct18),sl18⟩) (c18:PySem.W.codeIn K cd18 "Ground.more_tellings" = true) (k18:PySem.W.keepIn K (.ref f18)=true)
   (a19:PySem.W.findIn K (.ref C_Ground) "new_question" = some (some (.ref f19))) (i19:PySem.W.isFn K (.ref f19)=true) (l19:K.lookup f19=some ⟨oc19,od19,.func (PySem.W.fnOf "new_question" "Ground.new_question" (defArgs s_Ground_new_question) (defBody s_Ground_new_question) (defScope s_Ground_new_question) .none kV19 dc19 pm19 an19 cd19 ct19),sl19⟩) (c19:PySem.W.codeIn K cd19 "Ground.new_question" = true) (k19:PySem.W.keepIn K (.ref f19)=true)
   (a20:PySem.W.nsIn K mainGlobals "thing_of" = some (some (.ref f20))) (l20:K.lookup f20=some ⟨oc20,od20,.func (PySem.W.fnOf "thing_of" "thing_of" (defArgs s_thing_of) (defBody s_thing_of) (defScope s_thing_of) .none kV20 dc20 pm20 an20 cd20 ct20),sl20⟩) (c20:PySem.W.codeIn K cd20 "thing_of" = true) (k20:PySem.W.keepIn K (.ref f20)=true)
   (a21:PySem.W.findIn K (.ref C_Ground) "more_steps" = some (some (.ref f21))) (i21:PySem.W.isFn K (.ref f21)=true) (l21:K.lookup f21=some ⟨oc21,od21,.func (PySem.W.fnOf "more_steps" "Ground.more_steps" (defArgs s_Ground_more_steps) (defBody s_Ground_more_steps) (defScope s_Ground_more_steps) .none kV21 dc21 pm21 an21 cd21 ct21),sl21⟩) (c21:PySem.W.codeIn K cd21 "Ground.more_steps" = true) (k21:PySem.W.keepIn K (.ref f21)=true)
   (a22:PySem.W.nsIn K mainGlobals "lay_step" = some (some (.ref f22))) (l22:K.lookup f22=some ⟨oc22,od22,.func (PySem.W.fnOf "lay_step" "lay_step" (defArgs s_lay_step) (defBody s_lay_step) (defScope s_lay_step) .none kV22 dc22 pm22 an22 cd22 ct22),sl22⟩) (c22:PySem.W.codeIn K cd22 "lay_step" = true) (k22:PySem.W.keepIn K (.ref f22)=true)
   (a23:PySem.W.nsIn K mainGlobals "lay_part" = some (some (.ref f23))) (l23:K.lookup f23=some ⟨oc23,od23,.func (PySem.W.fnOf "lay_part" "lay_part" (defArgs s_lay_part) (defBody s_lay_part) (defScope s_lay_part) .none kV23 dc23 pm23 an23 cd23 ct23),sl23⟩) (c23:PySem.W.codeIn K cd23 "lay_part" = true) (k23:PySem.W.keepIn K (.ref f23)=true)
   (a24:PySem.W.nsIn K mainGlobals "lay_item" = some (some (.ref f24))) (l24:K.lookup f24=some ⟨oc24,od24,.func (PySem.W.fnOf "lay_item" "lay_item" (defArgs s_lay_item) (defBody s_lay_item) (defScope s_lay_item) .none kV24 dc24 pm24 an24 cd24 ct24),sl24⟩) (c24:PySem.W.codeIn K cd24 "lay_item" = true) (k24:PySem.W.keepIn K (.ref f24)=true)
   (a25:PySem.W.nsIn K mainGlobals "lay_items" = some (some (.ref f25))) (l25:K.lookup f25=some ⟨oc25,od25,.func (PySem.W.fnOf "lay_items" "lay_items" (defArgs s_lay_items) (defBody s_lay_items) (defScope s_lay_items) .none kV25 dc25 pm25 an25 cd25 ct25),sl25⟩) (c25:PySem.W.codeIn K cd25 "lay_items" = true) (k25:PySem.W.keepIn K (.ref f25)=true)
   (a26:PySem.W.nsIn K mainGlobals "refuse_more" = some (some (.ref f26))) (l26:K.lookup f26=some ⟨oc26,od26,.func (PySem.W.fnOf "refuse_more" "refuse_more" (defArgs s_refuse_more) (defBody s_refuse_more) (defScope s_refuse_more) .none kV26 dc26 pm26 an26 cd26 ct26),sl26⟩) (c26:PySem.W.codeIn K cd26 "refuse_more" = true) (k26:PySem.W.keepIn K (.ref f26)=true)
   (a27:PySem.W.nsIn K mainGlobals "refuse_too_great_nets" = some (some (.ref f27))) (l27:K.lookup f27=some ⟨oc27,od27,.func (PySem.W.fnOf "refuse_too_great" "refuse_too_great" (defArgs s_refuse_too_great) (defBody s_refuse_too_great) (defScope s_refuse_too_great) .none kV27 dc27 pm27 an27 cd27 ct27),sl27⟩) (c27:PySem.W.codeIn K cd27 "refuse_too_great" = true) (k27:PySem.W.keepIn K (.ref f27)=true)
   (a28:PySem.W.nsIn K mainGlobals "words_told" = some (some (.ref f28))) (l28:K.lookup f28=some ⟨oc28,od28,.func (PySem.W.fnOf "words_told" "words_told" (defArgs s_words_told) (defBody s_words_told) (defScope s_words_told) .none kV28 dc28 pm28 an28 cd28 ct28),sl28⟩) (c28:PySem.W.codeIn K cd28 "words_told" = true) (k28:PySem.W.keepIn K (.ref f28)=true)
   (a29:PySem.W.nsIn K mainGlobals "is_name" = some (some (.ref f29))) (l29:K.lookup f29=some ⟨oc29,od29,.func (PySem.W.fnOf "is_name" "is_name" (defArgs s_is_name) (defBody s_is_name) (defScope s_is_name) .none kV29 dc29 pm29 an29 cd29 ct29),sl29⟩) (c29:PySem.W.codeIn K cd29 "is_name" = true) (k29:PySem.W.keepIn K (.ref f29)=true)
   (a30:PySem.W.nsIn K mainGlobals "refuse_no_names" = some (some (.ref f30))) (l30:K.lookup f30=some ⟨oc30,od30,.func (PySem.W.fnOf "refuse_no_names" "refuse_no_names" (defArgs s_refuse_no_names) (defBody s_refuse_no_names) (defScope s_refuse_no_names) .none kV30 dc30 pm30 an30 cd30 ct30),sl30⟩) (c30:PySem.W.codeIn K cd30 "refuse_no_names" = true) (k30:PySem.W.keepIn K (.ref f30)=true)
   (a31:PySem.W.nsIn K mainGlobals "is_whole" = some (some (.ref f31))) (l31:K.lookup f31=some ⟨oc31,od31,.func (PySem.W.fnOf "is_whole" "is_whole" (defArgs s_is_whole) (defBody s_is_whole) (defScope s_is_whole) .none kV31 dc31 pm31 an31 cd31 ct31),sl31⟩) (c31:PySem.W.codeIn K cd31 "is_whole" = true) (k31:PySem.W.keepIn K (.ref f31)=true)
   (a32:PySem.W.nsIn K mainGlobals "is_place" = some (some (.ref f32))) (l32:K.lookup f32=some ⟨oc32,od32,.func (PySem.W.fnOf "is_place" "is_place" (defArgs s_is_place) (defBody s_is_place) (defScope s_is_place) .none kV32 dc32 pm32 an32 cd32 ct32),sl32⟩) (c32:PySem.W.codeIn K cd32 "is_place" = true) (k32:PySem.W.keepIn K (.ref f32)=true)
   (a33:PySem.W.nsIn K mainGlobals "refuse_no_place" = some (some (.ref f33))) (l33:K.lookup f33=some ⟨oc33,od33,.func (PySem.W.fnOf "refuse_no_place" "refuse_no_place" (defArgs s_refuse_no_place) (defBody s_refuse_no_place) (defScope s_refuse_no_place) .none kV33 dc33 pm33 an33 cd33 ct33),sl33⟩) (c33:PySem.W.codeIn K cd33 "refuse_no_place" = true) (k33:PySem.W.keepIn K (.ref f33)=true)
   (a34:PySem.W.nsIn K mainGlobals "refuse_no_places" = some (some (.ref f34))) (l34:K.lookup f34=some ⟨oc34,od34,.func (PySem.W.fnOf "refuse_no_places" "refuse_no_places" (defArgs s_refuse_no_places) (defBody s_refuse_no_places) (defScope s_refuse_no_places) .none kV34 dc34 pm34 an34 cd34 ct34),sl34⟩) (c34:PySem.W.codeIn K cd34 "refuse_no_places" = true) (k34:PySem.W.keepIn K (.ref f34)=true)
   (a35:PySem.W.nsIn K mainGlobals "net_of" = some (some (.ref f35))) (l35:K.lookup f35=some ⟨oc35,od35,.func (PySem.W.fnOf "net_of" "net_of" (defArgs s_net_of) (defBody s_net_of) (defScope s_net_of) .none kV35 dc35 pm35 an35 cd35 ct35),sl35⟩) (c35:PySem.W.codeIn K cd35 "net_of" = true) (k35:PySem.W.keepIn K (.ref f35)=true)
   (a36:PySem.W.nsIn K mainGlobals "net_by" = some (some (.ref f36))) (l36:K.lookup f36=some ⟨oc36,od36,.func (PySem.W.fnOf "net_by" "net_by" (defArgs s_net_by) (defBody s_net_by) (defScope s_net_by) .none kV36 dc36 pm36 an36 cd36 ct36),sl36⟩) (c36:PySem.W.codeIn K cd36 "net_by" = true) (k36:PySem.W.keepIn K (.ref f36)=true)
   (a37:PySem.W.nsIn K mainGlobals "_law_outcome" = some (some (.ref f37))) (l37:K.lookup f37=some ⟨oc37,od37,.func (PySem.W.fnOf "_law_outcome" "_law_outcome" (defArgs s__law_outcome) (defBody s__law_outcome) (defScope s__law_outcome) .none kV37 dc37 pm37 an37 cd37 ct37),sl37⟩) (c37:PySem.W.codeIn K cd37 "_law_outcome" = true) (k37:PySem.W.keepIn K (.ref f37)=true)
   (a38:PySem.W.nsIn K mainGlobals "law" = some (some (.ref f38))) (l38:K.lookup f38=some ⟨oc38,od38,.func (PySem.W.fnOf "law" "law" (defArgs s_law) (defBody s_law) (defScope s_law) .none kV38 dc38 pm38 an38 cd38 ct38),sl38⟩) (c38:PySem.W.codeIn K cd38 "law" = true) (k38:PySem.W.keepIn K (.ref f38)=true)
   (z_ValueError:PySem.W.nsIn K mainGlobals "ValueError" = some none)
   (z_all:PySem.W.nsIn K mainGlobals "all" = some none)
   (z_bool:PySem.W.nsIn K mainGlobals "bool" = some none)
   (z_int:PySem.W.nsIn K mainGlobals "int" = some none)
   (z_isinstance:PySem.W.nsIn K mainGlobals "isinstance" = some none)
   (z_len:PySem.W.nsIn K mainGlobals "len" = some none)
   (z_list:PySem.W.nsIn K mainGlobals "list" = some none)
   (z_range:PySem.W.nsIn K mainGlobals "range" = some none)
   (z_str:PySem.W.nsIn K mainGlobals "str" = some none)
   (z_tuple:PySem.W.nsIn K mainGlobals "tuple" = some none)
   (y_ANYWHERE:PySem.W.nsIn K mainGlobals "ANYWHERE" = some (some (.int 0 tc_ANYWHERE)))
   (y_LONGEST_NAME:PySem.W.nsIn K mainGlobals "LONGEST_NAME" = some (some (.int 8 tc_LONGEST_NAME)))
   (y_LONGEST_PATH:PySem.W.nsIn K mainGlobals "LONGEST_PATH" = some (some (.int 6 tc_LONGEST_PATH)))
   (y_MOST_AROUND:PySem.W.nsIn K mainGlobals "MOST_AROUND" = some (some (.int 30 tc_MOST_AROUND)))
   (y_MOST_ITEMS:PySem.W.nsIn K mainGlobals "MOST_ITEMS" = some (some (.int 200 tc_MOST_ITEMS)))
   (y_MOST_QUESTIONS:PySem.W.nsIn K mainGlobals "MOST_QUESTIONS" = some (some (.int 60 tc_MOST_QUESTIONS)))
   (y_MOST_SCOPES:PySem.W.nsIn K mainGlobals "MOST_SCOPES" = some (some (.int 40 tc_MOST_SCOPES)))
   (y_MOST_STEPS:PySem.W.nsIn K mainGlobals "MOST_STEPS" = some (some (.int 8 tc_MOST_STEPS)))
   (y_MOST_TELLINGS:PySem.W.nsIn K mainGlobals "MOST_TELLINGS" = some (some (.int 12 tc_MOST_TELLINGS)))
   (y_MOST_THINGS:PySem.W.nsIn K mainGlobals "MOST_THINGS" = some (some (.int 80 tc_MOST_THINGS)))
   (y_OUTSIDE:PySem.W.nsIn K mainGlobals "OUTSIDE" = some (some (.int 2 tc_OUTSIDE)))
   (g_Caught:PySem.W.nsIn K mainGlobals "Caught" = some (some (.ref C_Caught)))
   (g_NoName:PySem.W.nsIn K mainGlobals "NoName" = some (some (.ref C_NoName)))
   (g_NoPlace:PySem.W.nsIn K mainGlobals "NoPlace" = some (some (.ref C_NoPlace)))
   (g_NoRow:PySem.W.nsIn K mainGlobals "NoRow" = some (some (.ref C_NoRow)))
   (g_NoText:PySem.W.nsIn K mainGlobals "NoText" = some (some (.ref C_NoText)))
   (g_PathError:PySem.W.nsIn K mainGlobals "PathError" = some (some (.ref C_PathError)))
   (g_Ring:PySem.W.nsIn K mainGlobals "Ring" = some (some (.ref C_Ring)))
   (g_Tangled:PySem.W.nsIn K mainGlobals "Tangled" = some (some (.ref C_Tangled)))
   (g_TooGreat:PySem.W.nsIn K mainGlobals "TooGreat" = some (some (.ref C_TooGreat)))
   (g_Twice:PySem.W.nsIn K mainGlobals "Twice" = some (some (.ref C_Twice)))
   (x_NoName:PySem.W.excIn K C_NoName [.type "ValueError",.type "Exception",.type "BaseException",.type "object"] "ValueError.__new__" = true)
   (x_NoPlace:PySem.W.excIn K C_NoPlace [.type "ValueError",.type "Exception",.type "BaseException",.type "object"] "ValueError.__new__" = true)
   (x_PathError:PySem.W.excIn K C_PathError [.type "ValueError",.type "Exception",.type "BaseException",.type "object"] "ValueError.__new__" = true)
   (x_TooGreat:PySem.W.excIn K C_TooGreat [.type "ValueError",.type "Exception",.type "BaseException",.type "object"] "ValueError.__new__" = true)
   (hn0:PySem.W.specialIn K (.builtin "object.__class__") "__get__" = some (some (.builtin "getset_descriptor.__get__"))) (ht0:PySem.W.takesIn K (.builtin "object.__class__")=some true)
   (p_NoName:PySem.W.findIn K (.ref C_NoName) "__getattribute__" = some (some (.builtin "BaseException.__getattribute__"))) (pa_NoName:PySem.W.findIn K (.ref C_NoName) "__getattr__" = some none) (pb_NoName:PySem.W.mroIn K C_NoName (.type "BaseException")=some true) (q_NoName:PySem.W.findIn K (.ref C_NoName) "__class__" = some (some (.builtin "object.__class__"))) (m_NoName:PySem.W.mroIn K C_NoName (.type "object")=some true) (w_NoName:PySem.W.subIn K (.ref C_NoName) (.type "ValueError")=some true)
   (u_NoName_PathError:PySem.W.mroIn K C_NoName (.ref C_PathError)=some true)
   (r_NoName_Caught:PySem.W.subIn K (.ref C_NoName) (.ref C_Caught)=some false)
   (r_NoName_NoName:PySem.W.subIn K (.ref C_NoName) (.ref C_NoName)=some true)
   (r_NoName_NoPlace:PySem.W.subIn K (.ref C_NoName) (.ref C_NoPlace)=some false)
   (r_NoName_NoRow:PySem.W.subIn K (.ref C_NoName) (.ref C_NoRow)=some false)
   (r_NoName_NoText:PySem.W.subIn K (.ref C_NoName) (.ref C_NoText)=some false)
   (r_NoName_Ring:PySem.W.subIn K (.ref C_NoName) (.ref C_Ring)=some false)
   (r_NoName_Tangled:PySem.W.subIn K (.ref C_NoName) (.ref C_Tangled)=some false)
   (r_NoName_TooGreat:PySem.W.subIn K (.ref C_NoName) (.ref C_TooGreat)=some false)
   (r_NoName_Twice:PySem.W.subIn K (.ref C_NoName) (.ref C_Twice)=some false)
   (n_NoName_Caught:(Value.ref C_NoName == Value.ref C_Caught)=false)
   (n_NoName_NoPlace:(Value.ref C_NoName == Value.ref C_NoPlace)=false)
   (n_NoName_NoRow:(Value.ref C_NoName == Value.ref C_NoRow)=false)
   (n_NoName_NoText:(Value.ref C_NoName == Value.ref C_NoText)=false)
   (n_NoName_Ring:(Value.ref C_NoName == Value.ref C_Ring)=false)
   (n_NoName_Tangled:(Value.ref C_NoName == Value.ref C_Tangled)=false)
   (n_NoName_TooGreat:(Value.ref C_NoName == Value.ref C_TooGreat)=false)
   (n_NoName_Twice:(Value.ref C_NoName == Value.ref C_Twice)=false)
   (p_NoPlace:PySem.W.findIn K (.ref C_NoPlace) "__getattribute__" = some (some (.builtin "BaseException.__getattribute__"))) (pa_NoPlace:PySem.W.findIn K (.ref C_NoPlace) "__getattr__" = some none) (pb_NoPlace:PySem.W.mroIn K C_NoPlace (.type "BaseException")=some true) (q_NoPlace:PySem.W.findIn K (.ref C_NoPlace) "__class__" = some (some (.builtin "object.__class__"))) (m_NoPlace:PySem.W.mroIn K C_NoPlace (.type "object")=some true) (w_NoPlace:PySem.W.subIn K (.ref C_NoPlace) (.type "ValueError")=some true)
   (u_NoPlace_PathError:PySem.W.mroIn K C_NoPlace (.ref C_PathError)=some true)
   (r_NoPlace_Caught:PySem.W.subIn K (.ref C_NoPlace) (.ref C_Caught)=some false)
   (r_NoPlace_NoName:PySem.W.subIn K (.ref C_NoPlace) (.ref C_NoName)=some false)
   (r_NoPlace_NoPlace:PySem.W.subIn K (.ref C_NoPlace) (.ref C_NoPlace)=some true)
   (r_NoPlace_NoRow:PySem.W.subIn K (.ref C_NoPlace) (.ref C_NoRow)=some false)
   (r_NoPlace_NoText:PySem.W.subIn K (.ref C_NoPlace) (.ref C_NoText)=some false)
   (r_NoPlace_Ring:PySem.W.subIn K (.ref C_NoPlace) (.ref C_Ring)=some false)
   (r_NoPlace_Tangled:PySem.W.subIn K (.ref C_NoPlace) (.ref C_Tangled)=some false)
   (r_NoPlace_TooGreat:PySem.W.subIn K (.ref C_NoPlace) (.ref C_TooGreat)=some false)
   (r_NoPlace_Twice:PySem.W.subIn K (.ref C_NoPlace) (.ref C_Twice)=some false)
   (n_NoPlace_Caught:(Value.ref C_NoPlace == Value.ref C_Caught)=false)
   (n_NoPlace_NoName:(Value.ref C_NoPlace == Value.ref C_NoName)=false)
   (n_NoPlace_NoRow:(Value.ref C_NoPlace == Value.ref C_NoRow)=false)
   (n_NoPlace_NoText:(Value.ref C_NoPlace == Value.ref C_NoText)=false)
   (n_NoPlace_Ring:(Value.ref C_NoPlace == Value.ref C_Ring)=false)
   (n_NoPlace_Tangled:(Value.ref C_NoPlace == Value.ref C_Tangled)=false)
   (n_NoPlace_TooGreat:(Value.ref C_NoPlace == Value.ref C_TooGreat)=false)
   (n_NoPlace_Twice:(Value.ref C_NoPlace == Value.ref C_Twice)=false)
   (p_TooGreat:PySem.W.findIn K (.ref C_TooGreat) "__getattribute__" = some (some (.builtin "BaseException.__getattribute__"))) (pa_TooGreat:PySem.W.findIn K (.ref C_TooGreat) "__getattr__" = some none) (pb_TooGreat:PySem.W.mroIn K C_TooGreat (.type "BaseException")=some true) (q_TooGreat:PySem.W.findIn K (.ref C_TooGreat) "__class__" = some (some (.builtin "object.__class__"))) (m_TooGreat:PySem.W.mroIn K C_TooGreat (.type "object")=some true) (w_TooGreat:PySem.W.subIn K (.ref C_TooGreat) (.type "ValueError")=some true)
   (u_TooGreat_PathError:PySem.W.mroIn K C_TooGreat (.ref C_PathError)=some true)
   (r_TooGreat_Caught:PySem.W.subIn K (.ref C_TooGreat) (.ref C_Caught)=some false)
   (r_TooGreat_NoName:PySem.W.subIn K (.ref C_TooGreat) (.ref C_NoName)=some false)
   (r_TooGreat_NoPlace:PySem.W.subIn K (.ref C_TooGreat) (.ref C_NoPlace)=some false)
   (r_TooGreat_NoRow:PySem.W.subIn K (.ref C_TooGreat) (.ref C_NoRow)=some false)
   (r_TooGreat_NoText:PySem.W.subIn K (.ref C_TooGreat) (.ref C_NoText)=some false)
   (r_TooGreat_Ring:PySem.W.subIn K (.ref C_TooGreat) (.ref C_Ring)=some false)
   (r_TooGreat_Tangled:PySem.W.subIn K (.ref C_TooGreat) (.ref C_Tangled)=some false)
   (r_TooGreat_TooGreat:PySem.W.subIn K (.ref C_TooGreat) (.ref C_TooGreat)=some true)
   (r_TooGreat_Twice:PySem.W.subIn K (.ref C_TooGreat) (.ref C_Twice)=some false)
   (n_TooGreat_Caught:(Value.ref C_TooGreat == Value.ref C_Caught)=false)
   (n_TooGreat_NoName:(Value.ref C_TooGreat == Value.ref C_NoName)=false)
   (n_TooGreat_NoPlace:(Value.ref C_TooGreat == Value.ref C_NoPlace)=false)
   (n_TooGreat_NoRow:(Value.ref C_TooGreat == Value.ref C_NoRow)=false)
   (n_TooGreat_NoText:(Value.ref C_TooGreat == Value.ref C_NoText)=false)
   (n_TooGreat_Ring:(Value.ref C_TooGreat == Value.ref C_Ring)=false)
   (n_TooGreat_Tangled:(Value.ref C_TooGreat == Value.ref C_Tangled)=false)
   (n_TooGreat_Twice:(Value.ref C_TooGreat == Value.ref C_Twice)=false)
   (o_Caught:PySem.W.mroIn K C_Caught (.type "object")=some true) (t_Caught:PySem.W.typeIn K (.ref C_Caught)=some (.type "type"))
   (o_NoName:PySem.W.mroIn K C_NoName (.type "object")=some true) (t_NoName:PySem.W.typeIn K (.ref C_NoName)=some (.type "type"))
   (o_NoPlace:PySem.W.mroIn K C_NoPlace (.type "object")=some true) (t_NoPlace:PySem.W.typeIn K (.ref C_NoPlace)=some (.type "type"))
   (o_NoRow:PySem.W.mroIn K C_NoRow (.type "object")=some true) (t_NoRow:PySem.W.typeIn K (.ref C_NoRow)=some (.type "type"))
   (o_NoText:PySem.W.mroIn K C_NoText (.type "object")=some true) (t_NoText:PySem.W.typeIn K (.ref C_NoText)=some (.type "type"))
   (o_Ring:PySem.W.mroIn K C_Ring (.type "object")=some true) (t_Ring:PySem.W.typeIn K (.ref C_Ring)=some (.type "type"))
   (o_Tangled:PySem.W.mroIn K C_Tangled (.type "object")=some true) (t_Tangled:PySem.W.typeIn K (.ref C_Tangled)=some (.type "type"))
   (o_TooGreat:PySem.W.mroIn K C_TooGreat (.type "object")=some true) (t_TooGreat:PySem.W.typeIn K (.ref C_TooGreat)=some (.type "type"))
   (o_Twice:PySem.W.mroIn K C_Twice (.type "object")=some true) (t_Twice:PySem.W.typeIn K (.ref C_Twice)=some (.type "type"))
   (g_All:PySem.W.nsIn K mainGlobals "All" = some (some (.ref C_All)))
   (g_Ask:PySem.W.nsIn K mainGlobals "Ask" = some (some (.ref C_Ask)))
   (g_Elder:PySem.W.nsIn K mainGlobals "Elder" = some (some (.ref C_Elder)))
   (g_Ground:PySem.W.nsIn K mainGlobals "Ground" = some (some (.ref C_Ground)))
   (g_Let:PySem.W.nsIn K mainGlobals "Let" = some (some (.ref C_Let)))
   (g_One:PySem.W.nsIn K mainGlobals "One" = some (some (.ref C_One)))
   (g_Part:PySem.W.nsIn K mainGlobals "Part" = some (some (.ref C_Part)))
   (g_Thing:PySem.W.nsIn K mainGlobals "Thing" = some (some (.ref C_Thing)))
   (pg_All:PySem.W.plainGet K C_All Str.empty=true) (hd_All:PySem.W.hasDictIn K C_All=true) (po_All:PySem.W.plainOver K C_All=true) (sa_All:PySem.W.findIn K (.ref C_All) "__setattr__" = some (some (.builtin "object.__setattr__"))) (mk_All:PySem.W.makesIn K C_All=true) (kc_All:PySem.W.keepIn K (.ref C_All)=true)
   (na_All_on:PySem.W.findIn K (.ref C_All) "on" = some none)
   (na_All_path:PySem.W.findIn K (.ref C_All) "path" = some none)
   (fc_All:PySem.W.findIn K (.ref C_All) "__class__" = some (some (.builtin "object.__class__"))) (mr_All:PySem.W.mroIn K C_All (.type "object")=some true)
   (ai_All_All:PySem.W.isIn K (.ref C_All) C_All=true)
   (an_All_Elder:PySem.W.kin_not K C_All C_Elder=true)
   (an_All_Let:PySem.W.kin_not K C_All C_Let=true)
   (an_All_One:PySem.W.kin_not K C_All C_One=true)
   (an_All_Part:PySem.W.kin_not K C_All C_Part=true)
   (an_All_Thing:PySem.W.kin_not K C_All C_Thing=true)
   (pg_Ask:PySem.W.plainGet K C_Ask Str.empty=true) (hd_Ask:PySem.W.hasDictIn K C_Ask=true) (po_Ask:PySem.W.plainOver K C_Ask=true) (sa_Ask:PySem.W.findIn K (.ref C_Ask) "__setattr__" = some (some (.builtin "object.__setattr__"))) (mk_Ask:PySem.W.makesIn K C_Ask=true) (kc_Ask:PySem.W.keepIn K (.ref C_Ask)=true)
   (na_Ask_path:PySem.W.findIn K (.ref C_Ask) "path" = some none)
   (fc_Ask:PySem.W.findIn K (.ref C_Ask) "__class__" = some (some (.builtin "object.__class__"))) (mr_Ask:PySem.W.mroIn K C_Ask (.type "object")=some true)
   (an_Ask_All:PySem.W.kin_not K C_Ask C_All=true)
   (an_Ask_Elder:PySem.W.kin_not K C_Ask C_Elder=true)
   (an_Ask_Let:PySem.W.kin_not K C_Ask C_Let=true)
   (an_Ask_One:PySem.W.kin_not K C_Ask C_One=true)
   (an_Ask_Part:PySem.W.kin_not K C_Ask C_Part=true)
   (an_Ask_Thing:PySem.W.kin_not K C_Ask C_Thing=true)
   (pg_Elder:PySem.W.plainGet K C_Elder Str.empty=true) (hd_Elder:PySem.W.hasDictIn K C_Elder=true) (po_Elder:PySem.W.plainOver K C_Elder=true) (sa_Elder:PySem.W.findIn K (.ref C_Elder) "__setattr__" = some (some (.builtin "object.__setattr__"))) (mk_Elder:PySem.W.makesIn K C_Elder=true) (kc_Elder:PySem.W.keepIn K (.ref C_Elder)=true)
   (na_Elder_path:PySem.W.findIn K (.ref C_Elder) "path" = some none)
   (fc_Elder:PySem.W.findIn K (.ref C_Elder) "__class__" = some (some (.builtin "object.__class__"))) (mr_Elder:PySem.W.mroIn K C_Elder (.type "object")=some true)
   (an_Elder_All:PySem.W.kin_not K C_Elder C_All=true)
   (ai_Elder_Elder:PySem.W.isIn K (.ref C_Elder) C_Elder=true)
   (an_Elder_Let:PySem.W.kin_not K C_Elder C_Let=true)
   (an_Elder_One:PySem.W.kin_not K C_Elder C_One=true)
   (an_Elder_Part:PySem.W.kin_not K C_Elder C_Part=true)
   (an_Elder_Thing:PySem.W.kin_not K C_Elder C_Thing=true)
   (pg_Ground:PySem.W.plainGet K C_Ground Str.empty=true) (hd_Ground:PySem.W.hasDictIn K C_Ground=true) (po_Ground:PySem.W.plainOver K C_Ground=true) (sa_Ground:PySem.W.findIn K (.ref C_Ground) "__setattr__" = some (some (.builtin "object.__setattr__"))) (mk_Ground:PySem.W.makesIn K C_Ground=true) (kc_Ground:PySem.W.keepIn K (.ref C_Ground)=true)
   (na_Ground_questions:PySem.W.findIn K (.ref C_Ground) "questions" = some none)
   (na_Ground_scopes:PySem.W.findIn K (.ref C_Ground) "scopes" = some none)
   (na_Ground_things:PySem.W.findIn K (.ref C_Ground) "things" = some none)
   (pg_Let:PySem.W.plainGet K C_Let Str.empty=true) (hd_Let:PySem.W.hasDictIn K C_Let=true) (po_Let:PySem.W.plainOver K C_Let=true) (sa_Let:PySem.W.findIn K (.ref C_Let) "__setattr__" = some (some (.builtin "object.__setattr__"))) (mk_Let:PySem.W.makesIn K C_Let=true) (kc_Let:PySem.W.keepIn K (.ref C_Let)=true)
   (na_Let_name:PySem.W.findIn K (.ref C_Let) "name" = some none)
   (na_Let_of:PySem.W.findIn K (.ref C_Let) "of" = some none)
   (fc_Let:PySem.W.findIn K (.ref C_Let) "__class__" = some (some (.builtin "object.__class__"))) (mr_Let:PySem.W.mroIn K C_Let (.type "object")=some true)
   (an_Let_All:PySem.W.kin_not K C_Let C_All=true)
   (an_Let_Elder:PySem.W.kin_not K C_Let C_Elder=true)
   (ai_Let_Let:PySem.W.isIn K (.ref C_Let) C_Let=true)
   (an_Let_One:PySem.W.kin_not K C_Let C_One=true)
   (an_Let_Part:PySem.W.kin_not K C_Let C_Part=true)
   (an_Let_Thing:PySem.W.kin_not K C_Let C_Thing=true)
   (pg_One:PySem.W.plainGet K C_One Str.empty=true) (hd_One:PySem.W.hasDictIn K C_One=true) (po_One:PySem.W.plainOver K C_One=true) (sa_One:PySem.W.findIn K (.ref C_One) "__setattr__" = some (some (.builtin "object.__setattr__"))) (mk_One:PySem.W.makesIn K C_One=true) (kc_One:PySem.W.keepIn K (.ref C_One)=true)
   (na_One_name:PySem.W.findIn K (.ref C_One) "name" = some none)
   (na_One_path:PySem.W.findIn K (.ref C_One) "path" = some none)
   (na_One_reach:PySem.W.findIn K (.ref C_One) "reach" = some none)
   (fc_One:PySem.W.findIn K (.ref C_One) "__class__" = some (some (.builtin "object.__class__"))) (mr_One:PySem.W.mroIn K C_One (.type "object")=some true)
   (an_One_All:PySem.W.kin_not K C_One C_All=true)
   (an_One_Elder:PySem.W.kin_not K C_One C_Elder=true)
   (an_One_Let:PySem.W.kin_not K C_One C_Let=true)
   (ai_One_One:PySem.W.isIn K (.ref C_One) C_One=true)
   (an_One_Part:PySem.W.kin_not K C_One C_Part=true)
   (an_One_Thing:PySem.W.kin_not K C_One C_Thing=true)
   (pg_Part:PySem.W.plainGet K C_Part Str.empty=true) (hd_Part:PySem.W.hasDictIn K C_Part=true) (po_Part:PySem.W.plainOver K C_Part=true) (sa_Part:PySem.W.findIn K (.ref C_Part) "__setattr__" = some (some (.builtin "object.__setattr__"))) (mk_Part:PySem.W.makesIn K C_Part=true) (kc_Part:PySem.W.keepIn K (.ref C_Part)=true)
   (na_Part_inner:PySem.W.findIn K (.ref C_Part) "inner" = some none)
   (na_Part_name:PySem.W.findIn K (.ref C_Part) "name" = some none)
   (na_Part_reach:PySem.W.findIn K (.ref C_Part) "reach" = some none)
   (fc_Part:PySem.W.findIn K (.ref C_Part) "__class__" = some (some (.builtin "object.__class__"))) (mr_Part:PySem.W.mroIn K C_Part (.type "object")=some true)
   (an_Part_All:PySem.W.kin_not K C_Part C_All=true)
   (an_Part_Elder:PySem.W.kin_not K C_Part C_Elder=true)
   (an_Part_Let:PySem.W.kin_not K C_Part C_Let=true)
   (an_Part_One:PySem.W.kin_not K C_Part C_One=true)
   (ai_Part_Part:PySem.W.isIn K (.ref C_Part) C_Part=true)
   (an_Part_Thing:PySem.W.kin_not K C_Part C_Thing=true)
   (pg_Thing:PySem.W.plainGet K C_Thing Str.empty=true) (hd_Thing:PySem.W.hasDictIn K C_Thing=true) (po_Thing:PySem.W.plainOver K C_Thing=true) (sa_Thing:PySem.W.findIn K (.ref C_Thing) "__setattr__" = some (some (.builtin "object.__setattr__"))) (mk_Thing:PySem.W.makesIn K C_Thing=true) (kc_Thing:PySem.W.keepIn K (.ref C_Thing)=true)
   (na_Thing_name:PySem.W.findIn K (.ref C_Thing) "name" = some none)
   (na_Thing_of:PySem.W.findIn K (.ref C_Thing) "of" = some none)
   (na_Thing_reach:PySem.W.findIn K (.ref C_Thing) "reach" = some none)
   (fc_Thing:PySem.W.findIn K (.ref C_Thing) "__class__" = some (some (.builtin "object.__class__"))) (mr_Thing:PySem.W.mroIn K C_Thing (.type "object")=some true)
   (an_Thing_All:PySem.W.kin_not K C_Thing C_All=true)
   (an_Thing_Elder:PySem.W.kin_not K C_Thing C_Elder=true)
   (an_Thing_Let:PySem.W.kin_not K C_Thing C_Let=true)
   (an_Thing_One:PySem.W.kin_not K C_Thing C_One=true)
   (an_Thing_Part:PySem.W.kin_not K C_Thing C_Part=true)
   (ai_Thing_Thing:PySem.W.isIn K (.ref C_Thing) C_Thing=true)
   : Facts K
theorem rs1 (w:World) (os:OsState):Option.map (fun s=>(Fast.tw4187177175401517315 view loose (Fast.tw5923862056798008813 PySem.Challenge.pw_namepaths_k74_programs_refused.main.body) (fun s=>xlAt view [] s && recOk [] s) true s).1) (runM PP w 11 (some (Value.ref 6)) 36317 (Sm w os) tm)=some (openGood view loose).1:=by kernel_rfl
theorem rs2 (w:World) (os:OsState):Option.map (fun s=>((Fast.tw4187177175401517315 view loose (Fast.tw5923862056798008813 PySem.Challenge.pw_namepaths_k74_programs_refused.main.body) (fun s=>xlAt view [] s && recOk [] s) true s).2.1,(Fast.tw4187177175401517315 view loose (Fast.tw5923862056798008813 PySem.Challenge.pw_namepaths_k74_programs_refused.main.body) (fun s=>xlAt view [] s && recOk [] s) true s).2.2.2.1)) (runM PP w 11 (some (Value.ref 6)) 36317 (Sm w os) tm)=some ((openGood view loose).2.1,(openGood view loose).2.2.2.1):=by kernel_rfl
theorem rs3 (w:World) (os:OsState):Option.map (fun s=>(Fast.tw4187177175401517315 view loose (Fast.tw5923862056798008813 PySem.Challenge.pw_namepaths_k74_programs_refused.main.body) (fun s=>xlAt view [] s && recOk [] s) true s).2.2.1) (runM PP w 11 (some (Value.ref 6)) 36317 (Sm w os) tm)=some (openGood view loose).2.2.1:=by kernel_rfl
theorem rs4 (w:World) (os:OsState):Option.map (fun s=>((Fast.tw4187177175401517315 view loose (Fast.tw5923862056798008813 PySem.Challenge.pw_namepaths_k74_programs_refused.main.body) (fun s=>xlAt view [] s && recOk [] s) true s).2.2.2.2.1,(Fast.tw4187177175401517315 view loose (Fast.tw5923862056798008813 PySem.Challenge.pw_namepaths_k74_programs_refused.main.body) (fun s=>xlAt view [] s && recOk [] s) true s).2.2.2.2.2.1)) (runM PP w 11 (some (Value.ref 6)) 36317 (Sm w os) tm)=some ((openGood view loose).2.2.2.2.1,(openGood view loose).2.2.2.2.2.1):=by kernel_rfl
theorem rs5 (w:World) (os:OsState):Option.map (fun s=>((Fast.tw4187177175401517315 view loose (Fast.tw5923862056798008813 PySem.Challenge.pw_namepaths_k74_programs_refused.main.body) (fun s=>xlAt view [] s && recOk [] s) true s).2.2.2.2.2.2.1,(Fast.tw4187177175401517315 view loose (Fast.tw5923862056798008813 PySem.Challenge.pw_namepaths_k74_programs_refused.main.body) (fun s=>xlAt view [] s && recOk [] s) true s).2.2.2.2.2.2.2.1)) (runM PP w 11 (some (Value.ref 6)) 36317 (Sm w os) tm)=some ((openGood view loose).2.2.2.2.2.2.1,(openGood view loose).2.2.2.2.2.2.2.1):=by kernel_rfl
theorem rs6 (w:World) (os:OsState):Option.map (fun s=>(Fast.tw4187177175401517315 view loose (Fast.tw5923862056798008813 PySem.Challenge.pw_namepaths_k74_programs_refused.main.body) (fun s=>xlAt view [] s && recOk [] s) true s).2.2.2.2.2.2.2.2) (runM PP w 11 (some (Value.ref 6)) 36317 (Sm w os) tm)=some (openGood view loose).2.2.2.2.2.2.2.2:=by kernel_rfl
theorem seenP {α β γ δ ε ζ η θ ι S:Type} {f:S→α × β × γ × δ × ε × ζ × η × θ × ι} {g:α × β × γ × δ × ε × ζ × η × θ × ι} {o:Option S} (h0:o.map (fun s=>(f s).1)=some g.1) (h1:o.map (fun s=>((f s).2.1,(f s).2.2.2.1))=some (g.2.1,g.2.2.2.1)) (h2:o.map (fun s=>(f s).2.2.1)=some g.2.2.1) (h3:o.map (fun s=>((f s).2.2.2.2.1,(f s).2.2.2.2.2.1))=some (g.2.2.2.2.1,g.2.2.2.2.2.1)) (h4:o.map (fun s=>((f s).2.2.2.2.2.2.1,(f s).2.2.2.2.2.2.2.1))=some (g.2.2.2.2.2.2.1,g.2.2.2.2.2.2.2.1)) (h5:o.map (fun s=>(f s).2.2.2.2.2.2.2.2)=some g.2.2.2.2.2.2.2.2):o.map f=some g:=by
 cases o with
 | none=>cases h0
 | some s =>
   have h0:=Option.some.inj h0
   have h1:=Option.some.inj h1
   have h2:=Option.some.inj h2
   have h3:=Option.some.inj h3
   have h4:=Option.some.inj h4
   have h5:=Option.some.inj h5
   exact congrArg some (Prod.ext h0 (Prod.ext (congrArg (·.1) h1) (Prod.ext h2 (Prod.ext (congrArg (·.2) h1) (Prod.ext (congrArg (·.1) h3) (Prod.ext (congrArg (·.2) h3) (Prod.ext (congrArg (·.1) h4) (Prod.ext (congrArg (·.2) h4) (h5)))))))))
theorem run_seen (w:World) (os:OsState):Option.map (fun s=>(Fast.tw4187177175401517315 view loose (Fast.tw5923862056798008813 PySem.Challenge.pw_namepaths_k74_programs_refused.main.body) (fun s=>xlAt view [] s && recOk [] s) true s)) (runM PP w 11 (some (Value.ref 6)) 36317 (Sm w os) tm)=some (openGood view loose):=seenP (f:=fun s=>(Fast.tw4187177175401517315 view loose (Fast.tw5923862056798008813 PySem.Challenge.pw_namepaths_k74_programs_refused.main.body) (fun s=>xlAt view [] s && recOk [] s) true s)) (rs1 w os) (rs2 w os) (rs3 w os) (rs4 w os) (rs5 w os) (rs6 w os)
end K74
section
open PySem PySem.W PyProof.Rows
local macro_rules | `(tactic| o_head $H:term) => `(tactic| refine holds_open (q := K74.view) (loose := K74.loose) (Xt := fun s => xlAt K74.view [] s && recOk [] s) (XP := XL K74.view []) (Yf := Hook.obs $H) (Ya := Hook.val $H) (YP := Hook.says $H) (N := 40000) ?hl (Hook.of $H) (Hook.keeps $H) (fun s e => xl_of s (Bool.and_eq_true_iff.mp e).1) XL.keeps (by rfl) (by rfl) (by rfl) (fun s e => recFacts_of (Bool.and_eq_true_iff.mp e).2) (by rfl) (by first | assumption | decide +kernel) (by decide +kernel) ⟨rfl, rfl, rfl, rfl, rfl, by decide +kernel⟩ ?hw ?hc)
set_option maxHeartbeats 0 in
theorem K74.hd (hyp:∀ K:Params→Frag,(∀ w:World,K74.Facts (K w.params))→∀ (YP:World→Heap→Prop) (d:DefRec),d.params.defaults=[]→d.name = "law" → (∀ (w:World) (h:Heap),YP w h→(K w.params).In h)→WalkO K74.view K74.loose (XL K74.view []) YP PySem.Challenge.rw_namepaths_k74_programs_refused.row.toRowW d [] (fun f vs=>PySem.call f vs)):PySem.Challenge.rw_namepaths_k74_programs_refused.Holds:=by
 w_on; o_law; k_head
 case hl =>
  refine L2.left_mid K74.mid_open K74.mid_fence K74.mid_size K74.mid_go K74.run_seen fun w os=>?_
  kernel_rfl
 case hw=>w_witness2
 k_fill
 refine hyp _ (fun w=>?fx) _ _ rfl rfl (fun w h Y=>PySem.W.kIn_of Y)
 case fx =>
  refine' K74.Facts.mk ?a0 ?i0 ?l0 ?c0 ?k0 ?t0 ?a1 ?i1 ?l1 ?c1 ?k1 ?t1 ?a2 ?i2 ?l2 ?c2 ?k2 ?a3 ?i3 ?l3 ?c3 ?k3 ?a4 ?l4 ?c4 ?k4 ?a5 ?l5 ?c5 ?k5 ?a6 ?l6 ?c6 ?k6 ?a7 ?l7 ?c7 ?k7 ?a8 ?i8 ?l8 ?c8 ?k8 ?t8 ?a9 ?i9 ?l9 ?c9 ?k9 ?a10 ?i10 ?l10 ?c10 ?k10 ?a11 ?l11 ?c11 ?k11 ?a12 ?l12 ?c12 ?k12 ?a13 ?l13 ?c13 ?k13 ?a14 ?l14 ?c14 ?k14 ?a15 ?i15 ?l15 ?c15 ?k15 ?a16 ?i16 ?l16 ?c16 ?k16 ?a17 ?i17 ?l17 ?c17 ?k17 ?a18 ?i18 ?l18 ?c18 ?k18 ?a19 ?i19 ?l19 ?c19 ?k19 ?a20 ?l20 ?c20 ?k20 ?a21 ?i21 ?l21 ?c21 ?k21 ?a22 ?l22 ?c22 ?k22 ?a23 ?l23 ?c23 ?k23 ?a24 ?l24 ?c24 ?k24 ?a25 ?l25 ?c25 ?k25 ?a26 ?l26 ?c26 ?k26 ?a27 ?l27 ?c27 ?k27 ?a28 ?l28 ?c28 ?k28 ?a29 ?l29 ?c29 ?k29 ?a30 ?l30 ?c30 ?k30 ?a31 ?l31 ?c31 ?k31 ?a32 ?l32 ?c32 ?k32 ?a33 ?l33 ?c33 ?k33 ?a34 ?l34 ?c34 ?k34 ?a35 ?l35 ?c35 ?k35 ?a36 ?l36 ?c36 ?k36 ?a37 ?l37 ?c37 ?k37 ?a38 ?l38 ?c38 ?k38 ?z_ValueError ?z_all ?z_bool ?z_int ?z_isinstance ?z_len ?z_list ?z_range ?z_str ?z_tuple ?y_ANYWHERE ?y_LONGEST_NAME ?y_LONGEST_PATH ?y_MOST_AROUND ?y_MOST_ITEMS ?y_MOST_QUESTIONS ?y_MOST_SCOPES ?y_MOST_STEPS ?y_MOST_TELLINGS ?y_MOST_THINGS ?y_OUTSIDE ?g_Caught ?g_NoName ?g_NoPlace ?g_NoRow ?g_NoText ?g_PathError ?g_Ring ?g_Tangled ?g_TooGreat ?g_Twice ?x_NoName ?x_NoPlace ?x_PathError ?x_TooGreat ?hn0 ?ht0 ?p_NoName ?pa_NoName ?pb_NoName ?q_NoName ?m_NoName ?w_NoName ?u_NoName_PathError ?r_NoName_Caught ?r_NoName_NoName ?r_NoName_NoPlace ?r_NoName_NoRow ?r_NoName_NoText ?r_NoName_Ring ?r_NoName_Tangled ?r_NoName_TooGreat ?r_NoName_Twice ?n_NoName_Caught ?n_NoName_NoPlace ?n_NoName_NoRow ?n_NoName_NoText ?n_NoName_Ring ?n_NoName_Tangled ?n_NoName_TooGreat ?n_NoName_Twice ?p_NoPlace ?pa_NoPlace ?pb_NoPlace ?q_NoPlace ?m_NoPlace ?w_NoPlace ?u_NoPlace_PathError ?r_NoPlace_Caught ?r_NoPlace_NoName ?r_NoPlace_NoPlace ?r_NoPlace_NoRow ?r_NoPlace_NoText ?r_NoPlace_Ring ?r_NoPlace_Tangled ?r_NoPlace_TooGreat ?r_NoPlace_Twice ?n_NoPlace_Caught ?n_NoPlace_NoName ?n_NoPlace_NoRow ?n_NoPlace_NoText ?n_NoPlace_Ring ?n_NoPlace_Tangled ?n_NoPlace_TooGreat ?n_NoPlace_Twice ?p_TooGreat ?pa_TooGreat ?pb_TooGreat ?q_TooGreat ?m_TooGreat ?w_TooGreat ?u_TooGreat_PathError ?r_TooGreat_Caught ?r_TooGreat_NoName ?r_TooGreat_NoPlace ?r_TooGreat_NoRow ?r_TooGreat_NoText ?r_TooGreat_Ring ?r_TooGreat_Tangled ?r_TooGreat_TooGreat ?r_TooGreat_Twice ?n_TooGreat_Caught ?n_TooGreat_NoName ?n_TooGreat_NoPlace ?n_TooGreat_NoRow ?n_TooGreat_NoText ?n_TooGreat_Ring ?n_TooGreat_Tangled ?n_TooGreat_Twice ?o_Caught ?t_Caught ?o_NoName ?t_NoName ?o_NoPlace ?t_NoPlace ?o_NoRow ?t_NoRow ?o_NoText ?t_NoText ?o_Ring ?t_Ring ?o_Tangled ?t_Tangled ?o_TooGreat ?t_TooGreat ?o_Twice ?t_Twice ?g_All ?g_Ask ?g_Elder ?g_Ground ?g_Let ?g_One ?g_Part ?g_Thing ?pg_All ?hd_All ?po_All ?sa_All ?mk_All ?kc_All ?na_All_on ?na_All_path ?fc_All ?mr_All ?ai_All_All ?an_All_Elder ?an_All_Let ?an_All_One ?an_All_Part ?an_All_Thing ?pg_Ask ?hd_Ask ?po_Ask ?sa_Ask ?mk_Ask ?kc_Ask ?na_Ask_path ?fc_Ask ?mr_Ask ?an_Ask_All ?an_Ask_Elder ?an_Ask_Let ?an_Ask_One ?an_Ask_Part ?an_Ask_Thing ?pg_Elder ?hd_Elder ?po_Elder ?sa_Elder ?mk_Elder ?kc_Elder ?na_Elder_path ?fc_Elder ?mr_Elder ?an_Elder_All ?ai_Elder_Elder ?an_Elder_Let ?an_Elder_One ?an_Elder_Part ?an_Elder_Thing ?pg_Ground ?hd_Ground ?po_Ground ?sa_Ground ?mk_Ground ?kc_Ground ?na_Ground_questions ?na_Ground_scopes ?na_Ground_things ?pg_Let ?hd_Let ?po_Let ?sa_Let ?mk_Let ?kc_Let ?na_Let_name ?na_Let_of ?fc_Let ?mr_Let ?an_Let_All ?an_Let_Elder ?ai_Let_Let ?an_Let_One ?an_Let_Part ?an_Let_Thing ?pg_One ?hd_One ?po_One ?sa_One ?mk_One ?kc_One ?na_One_name ?na_One_path ?na_One_reach ?fc_One ?mr_One ?an_One_All ?an_One_Elder ?an_One_Let ?ai_One_One ?an_One_Part ?an_One_Thing ?pg_Part ?hd_Part ?po_Part ?sa_Part ?mk_Part ?kc_Part ?na_Part_inner ?na_Part_name ?na_Part_reach ?fc_Part ?mr_Part ?an_Part_All ?an_Part_Elder ?an_Part_Let ?an_Part_One ?ai_Part_Part ?an_Part_Thing ?pg_Thing ?hd_Thing ?po_Thing ?sa_Thing ?mk_Thing ?kc_Thing ?na_Thing_name ?na_Thing_of ?na_Thing_reach ?fc_Thing ?mr_Thing ?an_Thing_All ?an_Thing_Elder ?an_Thing_Let ?an_Thing_One ?an_Thing_Part ?ai_Thing_Thing
  (case g_Caught=>k_is)
  (case g_NoName=>k_is)
  (case g_NoPlace=>k_is)
  (case g_NoRow=>k_is)
  (case g_NoText=>k_is)
  (case g_PathError=>k_is)
  (case g_Ring=>k_is)
  (case g_Tangled=>k_is)
  (case g_TooGreat=>k_is)
  (case g_Twice=>k_is)
  (case g_All=>k_is)
  (case g_Ask=>k_is)
  (case g_Elder=>k_is)
  (case g_Ground=>k_is)
  (case g_Let=>k_is)
  (case g_One=>k_is)
  (case g_Part=>k_is)
  (case g_Thing=>k_is)
  (case a0=>k_is)
  (case i0=>k_is)
  (case l0=>k_is)
  (case c0=>k_is)
  (case k0=>k_is)
  (case t0=>k_is)
  (case a1=>k_is)
  (case i1=>k_is)
  (case l1=>k_is)
  (case c1=>k_is)
  (case k1=>k_is)
  (case t1=>k_is)
  (case a2=>k_is)
  (case i2=>k_is)
  (case l2=>k_is)
  (case c2=>k_is)
  (case k2=>k_is)
  (case a3=>k_is)
  (case i3=>k_is)
  (case l3=>k_is)
  (case c3=>k_is)
  (case k3=>k_is)
  (case a4=>k_is)
  (case l4=>k_is)
  (case c4=>k_is)
  (case k4=>k_is)
  (case a5=>k_is)
  (case l5=>k_is)
  (case c5=>k_is)
  (case k5=>k_is)
  (case a6=>k_is)
  (case l6=>k_is)
  (case c6=>k_is)
  (case k6=>k_is)
  (case a7=>k_is)
  (case l7=>k_is)
  (case c7=>k_is)
  (case k7=>k_is)
  (case a8=>k_is)
  (case i8=>k_is)
  (case l8=>k_is)
  (case c8=>k_is)
  (case k8=>k_is)
  (case t8=>k_is)
  (case a9=>k_is)
  (case i9=>k_is)
  (case l9=>k_is)
  (case c9=>k_is)
  (case k9=>k_is)
  (case a10=>k_is)
  (case i10=>k_is)
  (case l10=>k_is)
  (case c10=>k_is)
  (case k10=>k_is)
  (case a11=>k_is)
  (case l11=>k_is)
  (case c11=>k_is)
  (case k11=>k_is)
  (case a12=>k_is)
  (case l12=>k_is)
  (case c12=>k_is)
  (case k12=>k_is)
  (case a13=>k_is)
  (case l13=>k_is)
  (case c13=>k_is)
  (case k13=>k_is)
  (case a14=>k_is)
  (case l14=>k_is)
  (case c14=>k_is)
  (case k14=>k_is)
  (case a15=>k_is)
  (case i15=>k_is)
  (case l15=>k_is)
  (case c15=>k_is)
  (case k15=>k_is)
  (case a16=>k_is)
  (case i16=>k_is)
  (case l16=>k_is)
  (case c16=>k_is)
  (case k16=>k_is)
  (case a17=>k_is)
  (case i17=>k_is)
  (case l17=>k_is)
  (case c17=>k_is)
  (case k17=>k_is)
  (case a18=>k_is)
  (case i18=>k_is)
  (case l18=>k_is)
  (case c18=>k_is)
  (case k18=>k_is)
  (case a19=>k_is)
  (case i19=>k_is)
  (case l19=>k_is)
  (case c19=>k_is)
  (case k19=>k_is)
  (case a20=>k_is)
  (case l20=>k_is)
  (case c20=>k_is)
  (case k20=>k_is)
  (case a21=>k_is)
  (case i21=>k_is)
  (case l21=>k_is)
  (case c21=>k_is)
  (case k21=>k_is)
  (case a22=>k_is)
  (case l22=>k_is)
  (case c22=>k_is)
  (case k22=>k_is)
  (case a23=>k_is)
  (case l23=>k_is)
  (case c23=>k_is)
  (case k23=>k_is)
  (case a24=>k_is)
  (case l24=>k_is)
  (case c24=>k_is)
  (case k24=>k_is)
  (case a25=>k_is)
  (case l25=>k_is)
  (case c25=>k_is)
  (case k25=>k_is)
  (case a26=>k_is)
  (case l26=>k_is)
  (case c26=>k_is)
  (case k26=>k_is)
  (case a27=>k_is)
  (case l27=>k_is)
  (case c27=>k_is)
  (case k27=>k_is)
  (case a28=>k_is)
  (case l28=>k_is)
  (case c28=>k_is)
  (case k28=>k_is)
  (case a29=>k_is)
  (case l29=>k_is)
  (case c29=>k_is)
  (case k29=>k_is)
  (case a30=>k_is)
  (case l30=>k_is)
  (case c30=>k_is)
  (case k30=>k_is)
  (case a31=>k_is)
  (case l31=>k_is)
  (case c31=>k_is)
  (case k31=>k_is)
  (case a32=>k_is)
  (case l32=>k_is)
  (case c32=>k_is)
  (case k32=>k_is)
  (case a33=>k_is)
  (case l33=>k_is)
  (case c33=>k_is)
  (case k33=>k_is)
  (case a34=>k_is)
  (case l34=>k_is)
  (case c34=>k_is)
  (case k34=>k_is)
  (case a35=>k_is)
  (case l35=>k_is)
  (case c35=>k_is)
  (case k35=>k_is)
  (case a36=>k_is)
  (case l36=>k_is)
  (case c36=>k_is)
  (case k36=>k_is)
  (case a37=>k_is)
  (case l37=>k_is)
  (case c37=>k_is)
  (case k37=>k_is)
  (case a38=>k_is)
  (case l38=>k_is)
  (case c38=>k_is)
  (case k38=>k_is)
  (case z_ValueError=>k_is)
  (case z_all=>k_is)
  (case z_bool=>k_is)
  (case z_int=>k_is)
  (case z_isinstance=>k_is)
  (case z_len=>k_is)
  (case z_list=>k_is)
  (case z_range=>k_is)
  (case z_str=>k_is)
  (case z_tuple=>k_is)
  (case y_ANYWHERE=>k_is)
  (case y_LONGEST_NAME=>k_is)
  (case y_LONGEST_PATH=>k_is)
  (case y_MOST_AROUND=>k_is)
  (case y_MOST_ITEMS=>k_is)
  (case y_MOST_QUESTIONS=>k_is)
  (case y_MOST_SCOPES=>k_is)
  (case y_MOST_STEPS=>k_is)
  (case y_MOST_TELLINGS=>k_is)
  (case y_MOST_THINGS=>k_is)
  (case y_OUTSIDE=>k_is)
  (case x_NoName=>k_exc)
  (case x_NoPlace=>k_exc)
  (case x_PathError=>k_exc)
  (case x_TooGreat=>k_exc)
  (case hn0=>k_is)
  (case ht0=>k_is)
  (case p_NoName=>k_is)
  (case pa_NoName=>k_is)
  (case pb_NoName=>k_is)
  (case q_NoName=>k_is)
  (case m_NoName=>k_is)
  (case w_NoName=>k_is)
  (case u_NoName_PathError=>k_is)
  (case r_NoName_Caught=>k_is)
  (case r_NoName_NoName=>k_is)
  (case r_NoName_NoPlace=>k_is)
  (case r_NoName_NoRow=>k_is)
  (case r_NoName_NoText=>k_is)
  (case r_NoName_Ring=>k_is)
  (case r_NoName_Tangled=>k_is)
  (case r_NoName_TooGreat=>k_is)
  (case r_NoName_Twice=>k_is)
  (case n_NoName_Caught=>rfl)
  (case n_NoName_NoPlace=>rfl)
  (case n_NoName_NoRow=>rfl)
  (case n_NoName_NoText=>rfl)
  (case n_NoName_Ring=>rfl)
  (case n_NoName_Tangled=>rfl)
  (case n_NoName_TooGreat=>rfl)
  (case n_NoName_Twice=>rfl)
  (case p_NoPlace=>k_is)
  (case pa_NoPlace=>k_is)
  (case pb_NoPlace=>k_is)
  (case q_NoPlace=>k_is)
  (case m_NoPlace=>k_is)
  (case w_NoPlace=>k_is)
  (case u_NoPlace_PathError=>k_is)
  (case r_NoPlace_Caught=>k_is)
  (case r_NoPlace_NoName=>k_is)
  (case r_NoPlace_NoPlace=>k_is)
  (case r_NoPlace_NoRow=>k_is)
  (case r_NoPlace_NoText=>k_is)
  (case r_NoPlace_Ring=>k_is)
  (case r_NoPlace_Tangled=>k_is)
  (case r_NoPlace_TooGreat=>k_is)
  (case r_NoPlace_Twice=>k_is)
  (case n_NoPlace_Caught=>rfl)
  (case n_NoPlace_NoName=>rfl)
  (case n_NoPlace_NoRow=>rfl)
  (case n_NoPlace_NoText=>rfl)
  (case n_NoPlace_Ring=>rfl)
  (case n_NoPlace_Tangled=>rfl)
  (case n_NoPlace_TooGreat=>rfl)
  (case n_NoPlace_Twice=>rfl)
  (case p_TooGreat=>k_is)
  (case pa_TooGreat=>k_is)
  (case pb_TooGreat=>k_is)
  (case q_TooGreat=>k_is)
  (case m_TooGreat=>k_is)
  (case w_TooGreat=>k_is)
  (case u_TooGreat_PathError=>k_is)
  (case r_TooGreat_Caught=>k_is)
  (case r_TooGreat_NoName=>k_is)
  (case r_TooGreat_NoPlace=>k_is)
  (case r_TooGreat_NoRow=>k_is)
  (case r_TooGreat_NoText=>k_is)
  (case r_TooGreat_Ring=>k_is)
  (case r_TooGreat_Tangled=>k_is)
  (case r_TooGreat_TooGreat=>k_is)
  (case r_TooGreat_Twice=>k_is)
  (case n_TooGreat_Caught=>rfl)
  (case n_TooGreat_NoName=>rfl)
  (case n_TooGreat_NoPlace=>rfl)
  (case n_TooGreat_NoRow=>rfl)
  (case n_TooGreat_NoText=>rfl)
  (case n_TooGreat_Ring=>rfl)
  (case n_TooGreat_Tangled=>rfl)
  (case n_TooGreat_Twice=>rfl)
  (case o_Caught=>k_is)
  (case t_Caught=>k_is)
  (case o_NoName=>k_is)
  (case t_NoName=>k_is)
  (case o_NoPlace=>k_is)
  (case t_NoPlace=>k_is)
  (case o_NoRow=>k_is)
  (case t_NoRow=>k_is)
  (case o_NoText=>k_is)
  (case t_NoText=>k_is)
  (case o_Ring=>k_is)
  (case t_Ring=>k_is)
  (case o_Tangled=>k_is)
  (case t_Tangled=>k_is)
  (case o_TooGreat=>k_is)
  (case t_TooGreat=>k_is)
  (case o_Twice=>k_is)
  (case t_Twice=>k_is)
  (case pg_All=>k_is)
  (case hd_All=>kernel_rfl)
  (case po_All=>k_is)
  (case sa_All=>k_is)
  (case mk_All=>k_is)
  (case kc_All=>k_is)
  (case na_All_on=>k_is)
  (case na_All_path=>k_is)
  (case fc_All=>k_is)
  (case mr_All=>k_is)
  (case ai_All_All=>k_is)
  (case an_All_Elder=>kernel_rfl)
  (case an_All_Let=>kernel_rfl)
  (case an_All_One=>kernel_rfl)
  (case an_All_Part=>kernel_rfl)
  (case an_All_Thing=>kernel_rfl)
  (case pg_Ask=>k_is)
  (case hd_Ask=>kernel_rfl)
  (case po_Ask=>k_is)
  (case sa_Ask=>k_is)
  (case mk_Ask=>k_is)
  (case kc_Ask=>k_is)
  (case na_Ask_path=>k_is)
  (case fc_Ask=>k_is)
  (case mr_Ask=>k_is)
  (case an_Ask_All=>kernel_rfl)
  (case an_Ask_Elder=>kernel_rfl)
  (case an_Ask_Let=>kernel_rfl)
  (case an_Ask_One=>kernel_rfl)
  (case an_Ask_Part=>kernel_rfl)
  (case an_Ask_Thing=>kernel_rfl)
  (case pg_Elder=>k_is)
  (case hd_Elder=>kernel_rfl)
  (case po_Elder=>k_is)
  (case sa_Elder=>k_is)
  (case mk_Elder=>k_is)
  (case kc_Elder=>k_is)
  (case na_Elder_path=>k_is)
  (case fc_Elder=>k_is)
  (case mr_Elder=>k_is)
  (case an_Elder_All=>kernel_rfl)
  (case ai_Elder_Elder=>k_is)
  (case an_Elder_Let=>kernel_rfl)
  (case an_Elder_One=>kernel_rfl)
  (case an_Elder_Part=>kernel_rfl)
  (case an_Elder_Thing=>kernel_rfl)
  (case pg_Ground=>k_is)
  (case hd_Ground=>kernel_rfl)
  (case po_Ground=>k_is)
  (case sa_Ground=>k_is)
  (case mk_Ground=>k_is)
  (case kc_Ground=>k_is)
  (case na_Ground_questions=>k_is)
  (case na_Ground_scopes=>k_is)
  (case na_Ground_things=>k_is)
  (case pg_Let=>k_is)
  (case hd_Let=>kernel_rfl)
  (case po_Let=>k_is)
  (case sa_Let=>k_is)
  (case mk_Let=>k_is)
  (case kc_Let=>k_is)
  (case na_Let_name=>k_is)
  (case na_Let_of=>k_is)
  (case fc_Let=>k_is)
  (case mr_Let=>k_is)
  (case an_Let_All=>kernel_rfl)
  (case an_Let_Elder=>kernel_rfl)
  (case ai_Let_Let=>k_is)
  (case an_Let_One=>kernel_rfl)
  (case an_Let_Part=>kernel_rfl)
  (case an_Let_Thing=>kernel_rfl)
  (case pg_One=>k_is)
  (case hd_One=>kernel_rfl)
  (case po_One=>k_is)
  (case sa_One=>k_is)
  (case mk_One=>k_is)
  (case kc_One=>k_is)
  (case na_One_name=>k_is)
  (case na_One_path=>k_is)
  (case na_One_reach=>k_is)
  (case fc_One=>k_is)
  (case mr_One=>k_is)
  (case an_One_All=>kernel_rfl)
  (case an_One_Elder=>kernel_rfl)
  (case an_One_Let=>kernel_rfl)
  (case ai_One_One=>k_is)
  (case an_One_Part=>kernel_rfl)
  (case an_One_Thing=>kernel_rfl)
  (case pg_Part=>k_is)
  (case hd_Part=>kernel_rfl)
  (case po_Part=>k_is)
  (case sa_Part=>k_is)
  (case mk_Part=>k_is)
  (case kc_Part=>k_is)
  (case na_Part_inner=>k_is)
  (case na_Part_name=>k_is)
  (case na_Part_reach=>k_is)
  (case fc_Part=>k_is)
  (case mr_Part=>k_is)
  (case an_Part_All=>kernel_rfl)
  (case an_Part_Elder=>kernel_rfl)
  (case an_Part_Let=>kernel_rfl)
  (case an_Part_One=>kernel_rfl)
  (case ai_Part_Part=>k_is)
  (case an_Part_Thing=>kernel_rfl)
  (case pg_Thing=>k_is)
  (case hd_Thing=>kernel_rfl)
  (case po_Thing=>k_is)
  (case sa_Thing=>k_is)
  (case mk_Thing=>k_is)
  (case kc_Thing=>k_is)
  (case na_Thing_name=>k_is)
  (case na_Thing_of=>k_is)
  (case na_Thing_reach=>k_is)
  (case fc_Thing=>k_is)
  (case mr_Thing=>k_is)
  (case an_Thing_All=>kernel_rfl)
  (case an_Thing_Elder=>kernel_rfl)
  (case an_Thing_Let=>kernel_rfl)
  (case an_Thing_One=>kernel_rfl)
  (case an_Thing_Part=>kernel_rfl)
  (case ai_Thing_Thing=>k_is)
end
set_option Elab.async false
set_option linter.all false
set_option maxRecDepth 100000
namespace L2
open PySem PySem.Spec PyProof.Rows
abbrev Key:=Sum Int Str
def keyIs:Key→Value→Bool
 | .inl k,v=>Value.isInt k v
 | .inr x,v=>Value.isStrOf x v
def keyH (w:World):Key→Int
 | .inl k=>hashInt k
 | .inr x=>hashStr w x
theorem keyIs_shape:∀ {k:Key} {v:Value},keyIs k v=true→(∃ i t,k=Sum.inl i∧v=Value.int i t)∨(∃ x t,k=Sum.inr x∧v=Value.str x t)
 | .inl i,v,h=>by
   obtain ⟨t,e⟩:=Value.isInt_shape (k:=i) (v:=v) h
   exact .inl ⟨i,t,rfl,e⟩
 | .inr x,v,h=>by
   obtain ⟨t,e⟩:=Value.isStrOf_shape (x:=x) (v:=v) h
   exact .inr ⟨x,t,rfl,e⟩
theorem keyIs_int (i:Int) (t:Tok):keyIs (.inl i) (.int i t)=true:=by simp [keyIs,Value.isInt]
theorem keyIs_str (x:Str) (t:Tok):keyIs (.inr x) (.str x t)=true:=by simp [keyIs,Value.isStrOf]
theorem key_ll (a b:Int):decide ((Sum.inl a:Key)=Sum.inl b)=(a == b):=by
 by_cases e:a=b
 · subst e; simp
 · have h:¬ (Sum.inl a:Key)=Sum.inl b:=fun q=>e (Sum.inl.inj q)
   rw [decide_eq_false h]
   exact (beq_eq_false_iff_ne.mpr e).symm
theorem key_rr (a b:Str):decide ((Sum.inr a:Key)=Sum.inr b)=decide (a=b):=by
 by_cases e:a=b
 · subst e; simp
 · have h:¬ (Sum.inr a:Key)=Sum.inr b:=fun q=>e (Sum.inr.inj q)
   rw [decide_eq_false h,decide_eq_false e]
theorem key_lr (a:Int) (b:Str):decide ((Sum.inl a:Key)=Sum.inr b)=false:=decide_eq_false (fun q=>nomatch q)
theorem key_rl (a:Str) (b:Int):decide ((Sum.inr a:Key)=Sum.inl b)=false:=decide_eq_false (fun q=>nomatch q)
def mixKind (prog : Program) (w : World) : PySem.KeyKind prog w Key where
 is:=keyIs
 hash:=keyH w
 inj:=fun v a b ha hb=>by
  rcases keyIs_shape ha with ⟨i,t,rfl,rfl⟩ | ⟨x,t,rfl,rfl⟩
  · rcases keyIs_shape hb with ⟨j,u,rfl,e⟩ | ⟨y,u,rfl,e⟩
    · injection e with e1 _; rw [e1]
    · exact nomatch e
  · rcases keyIs_shape hb with ⟨j,u,rfl,e⟩ | ⟨y,u,rfl,e⟩
    · exact nomatch e
    · injection e with e1 _; rw [e1]
 byValue:=fun k v h=>by
  rcases keyIs_shape h with ⟨i,t,rfl,rfl⟩ | ⟨x,t,rfl,rfl⟩ <;> rfl
 pyHash:=fun hv h=>by
  rcases keyIs_shape hv with ⟨i,t,rfl,rfl⟩ | ⟨x,t,rfl,rfl⟩
  · exact wpAny_pyHash_int h
  · exact wpAny_pyHash_str h
 eqBool:=fun hu hv h=>by
  rcases keyIs_shape hu with ⟨i,t,rfl,rfl⟩ | ⟨x,t,rfl,rfl⟩
  · rcases keyIs_shape hv with ⟨j,u,rfl,rfl⟩ | ⟨y,u,rfl,rfl⟩
    · rw [key_ll] at h; exact wpAny_eqBool_int h
    · rw [key_lr] at h; exact SeqAt.EqAt.int_str i t y u _ _ _ _ h
  · rcases keyIs_shape hv with ⟨j,u,rfl,rfl⟩ | ⟨y,u,rfl,rfl⟩
    · rw [key_rl] at h; exact SeqAt.EqAt.str_int x t j u _ _ _ _ h
    · rw [key_rr] at h; exact wpAny_eqBool_str h
 «strs»:=fun k x t v h=>by
  rcases keyIs_shape h with ⟨i,u,rfl,e⟩ | ⟨y,u,rfl,e⟩
  · exact nomatch e
  · injection e with e1 _
    subst e1
    cases v <;> rfl
theorem mixKind_int (prog:Program) (w:World) (i:Int) (t:Tok):(mixKind prog w).is (.inl i) (.int i t)=true:=keyIs_int i t
theorem mixKind_str (prog:Program) (w:World) (x:Str) (t:Tok):(mixKind prog w).is (.inr x) (.str x t)=true:=keyIs_str x t
end L2
namespace L2
open PySem PySem.Spec PyProof.Rows
inductive V where
 | non | bl (b:Bool) | int (i:Int) | str (x:Str) | byt (b:Array UInt8) | flt (b:UInt64) | ref (a:Addr) | ty (n:String)
 deriving DecidableEq
def RelV:V→Value→Prop
 | .non,u=>u=Value.none
 | .bl b,u=>u=Value.bool b
 | .int i,u=>∃ t,u=Value.int i t
 | .str x,u=>∃ t,u=Value.str x t
 | .byt b,u=>∃ t,u=Value.bytes b t
 | .flt b,u=>∃ t,u=Value.float b t
 | .ref a,u=>u=Value.ref a
 | .ty n,u=>u=Value.type n
abbrev Vals:List V→List Value→Prop:=Paired RelV
theorem Vals.length {xs:List V} {us:List Value} (r:Vals xs us):xs.length=us.length:=Paired.length r
theorem Vals.get:∀ {xs:List V} {us:List Value} {i:Nat} {x:V},Vals xs us→xs[i]?=some x→∃ u,us[i]?=some u∧RelV x u
 | _,_,_,_,.nil,e=>by simp at e
 | _,_,0,_,.cons r _,e=>by simp at e; subst e; exact ⟨_,rfl,r⟩
 | _,_,i + 1,x,.cons _ t,e=>by
   obtain ⟨u,h1,h2⟩:=Vals.get (i:=i) (x:=x) t (by simpa using e)
   exact ⟨u,by simpa using h1,h2⟩
theorem Vals.set {x:V} {u:Value} (r:RelV x u):∀ {xs:List V} {us:List Value} (i:Nat),Vals xs us→Vals (xs.set i x) (us.set i u)
 | _,_,_,.nil=>.nil
 | _,_,0,.cons _ t=>.cons r t
 | _,_,i + 1,.cons q t=>.cons q (Vals.set r i t)
theorem Vals.append:∀ {xs ys:List V} {us ws:List Value},Vals xs us→Vals ys ws→Vals (xs++ys) (us++ws)
 | _,_,_,_,.nil,s=>s
 | _,_,_,_,.cons r t,s=>.cons r (Vals.append t s)
theorem Vals.take:∀ {xs:List V} {us:List Value} (n:Nat),Vals xs us→Vals (xs.take n) (us.take n)
 | _,_,0,_=>.nil
 | _,_,_ + 1,.nil=>.nil
 | _,_,n + 1,.cons r t=>.cons r (Vals.take n t)
theorem Vals.drop:∀ {xs:List V} {us:List Value} (n:Nat),Vals xs us→Vals (xs.drop n) (us.drop n)
 | _,_,0,r=>r
 | _,_,_ + 1,.nil=>.nil
 | _,_,n + 1,.cons _ t=>Vals.drop n t
def RelO:Option V→Option Value→Prop
 | some v,some u=>RelV v u
 | none,none=>True
 | _,_=>False
def KV {κ:Type}:List (κ × V)→List (κ × Value)→Prop:=Paired fun (p:κ × V) (q:κ × Value)=>p.1=q.1∧RelV p.2 q.2
def kV:Key→V
 | .inl i=>.int i
 | .inr x=>.str x
inductive HO where
 | lst (xs:List V)
 | tup (xs:List V)
 | dK (kvs:List (Key × V)) | dT (kvs:List (List Key × V))
 | set (S:Int→Bool) (n:Nat)
 | ins (C dx:Addr) (fs:List (Str × V))
 | own (x:Addr)
 | xd (fs:List (Str × V))
 | met (f x:Addr)
 | rng (lo hi:Int)
 | frz (o:Obj) (u:HO)
 | tbl (ps:Array Value)
 | ext (φ:Heap→Prop)
abbrev Hp:=Addr→Option HO
def upd (H:Hp) (a:Addr) (o:HO):Hp:=fun b=>if b=a then some o else H b
theorem upd_same {H:Hp} {a:Addr} {o:HO}:upd H a o a=some o:=by unfold upd; rw [if_pos rfl]
theorem upd_ne {H:Hp} {a b:Addr} {o:HO} (h:b≠a):upd H a o b=H b:=by unfold upd; rw [if_neg h]
theorem upd_upd {H:Hp} {a:Addr} {o u:HO}:upd (upd H a o) a u=upd H a u:=by
 funext b; unfold upd; split <;> rfl
theorem ne_of_none {H:Hp} {a b:Addr} {o:HO} (h:H a=some o) (h':H b=none):a≠b:=by
 intro e; subst e; rw [h] at h'; cases h'
section
variable (P:Program) (w:World)
def ObjOk (H:Hp) (h:Heap) (a:Addr):HO→Prop
 | .lst xs=>xs.length≤sizeLine∧∃ (its:List Value) (n:Nat),Vals xs its∧h.get? a=some { cls:=.type "list",data:=.seq its.toArray n }
 | .tup xs=>xs.length≤sizeLine∧∃ its:List Value,Vals xs its∧IsTup h a its.toArray
 | .dK kvs=>kvs.length≤sizeLine∧(a == sysModules)=false∧∃ vs,KV kvs vs∧h.DictOf (mixKind P w) a vs
 | .dT kvs=>kvs.length≤sizeLine∧(a == sysModules)=false∧∃ xs:List (List Key × Addr × Value),
  Paired (fun (p:List Key × V) (q:List Key × Addr × Value)=>p.1=q.1∧H q.2.1=some (.tup (p.1.map kV))∧RelV p.2 q.2.2) kvs xs ∧
  ∃ o es ep,h.get? a=some o∧o.ExactDict∧o.data=.dict es ep∧es.toList=xs.map (entryOfKey (tupleKind (mixKind P w)))∧(xs.map (·.1)).Nodup
 | .set S n=>h.SetOf (intKind P w) a S n
 | .ins C dx fs=>H dx=some (.own a)∧fs.length≤1000∧dx≠a∧h.get? a=some (PySem.W.instObj C dx) ∧
  ∃ mA,h.Ns1 dx mA∧(∀ f,RelO (fs.lookup f) (mA f))∧PySem.Within mA (fs.map (·.1))
 | .own _=>∃ o,h.get? a=some o
 | .xd fs=>∃ mA,h.Ns1 a mA∧∀ f,RelO (fs.lookup f) (mA f)
 | .rng lo hi=>∃ t u v,h.get? a=some { cls:=.type "range",data:=.fields #[.int lo t,.int hi u,.int 1 v] }
 | .frz o u=>h.get? a=some o∧ObjOk H h a u
 | .tbl ps=>h.get? a=some { cls:=.none,data:=.fields ps }
 | .met f x=>h.get? a=some (PySem.W.methodObj (.ref f) (.ref x))
 | .ext φ=>φ h∧(∃ o,h.get? a=some o)∧∀ h1 h2:Heap,φ h1→(∀ o,h1.get? a=some o→h2.get? a=some o)→φ h2
def HOk (H:Hp) (h:Heap):Prop:=∀ a o,H a=some o→ObjOk P w H h a o
end
section
variable {P:Program} {w:World} {H H':Hp} {h h':Heap} {a:Addr} {o:HO}
theorem ObjOk.lt (x:ObjOk P w H h a o):a < h.objs.size:=by
 cases o with
 | lst xs=>obtain ⟨_,_,_,_,e⟩:=x; exact Heap.lt_size e
 | tup xs=>obtain ⟨_,_,_,p⟩:=x; exact p.lt
 | dK kvs=>obtain ⟨_,_,_,_,o,_,_,e,_⟩:=x; exact Heap.lt_size e
 | dT kvs=>obtain ⟨_,_,_,_,o,_,_,e,_⟩:=x; exact Heap.lt_size e
 | set S n=>obtain ⟨o,_,_,_,e,_⟩:=x; exact Heap.lt_size e
 | ins C dx fs=>obtain ⟨_,_,_,e,_⟩:=x; exact Heap.lt_size e
 | own y=>obtain ⟨_,e⟩:=x; exact Heap.lt_size e
 | xd fs=>obtain ⟨_,⟨_,_,_,e,_⟩,_⟩:=x; exact Heap.lt_size e
 | rng lo hi=>obtain ⟨_,_,_,e⟩:=x; exact Heap.lt_size e
 | frz ob u=>obtain ⟨e,_⟩:=x; exact Heap.lt_size e
 | tbl ps=>exact Heap.lt_size (show h.get? a=some _ from x)
 | met f y=>exact Heap.lt_size (show h.get? a=some _ from x)
 | ext φ=>obtain ⟨_,⟨_,e⟩,_⟩:=x; exact Heap.lt_size e
theorem Paired.mapP {α β:Type} {F G:α→β→Prop}:∀ {l₁:List α} {l₂:List β},Paired F l₁ l₂→(∀ a b,F a b→G a b)→Paired G l₁ l₂
 | _,_,.nil,_=>.nil
 | _,_,.cons r t,f=>.cons (f _ _ r) (Paired.mapP t f)
theorem ObjOk.stay (x:ObjOk P w H h a o) (k:∀ b u,(b=a∨H b=some (.own a))→h.get? b=some u→h'.get? b=some u)
 (ho:∀ b,H b=some (.own a)→H' b=some (.own a)) (ht:∀ b xs,H b=some (.tup xs)→H' b=some (.tup xs)):ObjOk P w H' h' a o:=by
 induction o with
 | lst xs=>obtain ⟨z,its,n,r,e⟩:=x; exact ⟨z,its,n,r,k _ _ (.inl rfl) e⟩
 | tup xs=>obtain ⟨z,its,r,ob,e,c⟩:=x; exact ⟨z,its,r,ob,k _ _ (.inl rfl) e,c⟩
 | dK kvs=>obtain ⟨z,y,vs,r,ob,es,ep,e,c⟩:=x; exact ⟨z,y,vs,r,ob,es,ep,k _ _ (.inl rfl) e,c⟩
 | dT kvs =>
   obtain ⟨z,y,xs,r,ob,es,ep,e,c⟩:=x
   exact ⟨z,y,xs,Paired.mapP r fun p q z=>⟨z.1,ht _ _ z.2.1,z.2.2⟩,ob,es,ep,k _ _ (.inl rfl) e,c⟩
 | set S n=>obtain ⟨ob,es,ep,t,e,c⟩:=x; exact ⟨ob,es,ep,t,k _ _ (.inl rfl) e,c⟩
 | ins C dx fs =>
   obtain ⟨d,z,ne,e,mA,⟨od,es,ep,e2,c⟩,r⟩:=x
   exact ⟨ho _ d,z,ne,k _ _ (.inl rfl) e,mA,⟨od,es,ep,k _ _ (.inr d) e2,c⟩,r⟩
 | own y=>obtain ⟨ob,e⟩:=x; exact ⟨ob,k _ _ (.inl rfl) e⟩
 | xd fs=>obtain ⟨mA,⟨od,es,ep,e,c⟩,r⟩:=x; exact ⟨mA,⟨od,es,ep,k _ _ (.inl rfl) e,c⟩,r⟩
 | rng lo hi=>obtain ⟨t,u,v,e⟩:=x; exact ⟨t,u,v,k _ _ (.inl rfl) e⟩
 | frz ob u ih=>obtain ⟨e,q⟩:=x; exact ⟨k _ _ (.inl rfl) e,ih q⟩
 | tbl ps =>
   have e:h.get? a=some { cls:=.none,data:=.fields ps }:=x
   show h'.get? a=some { cls:=.none,data:=.fields ps }
   exact k a _ (.inl rfl) e
 | met f y =>
   have e:h.get? a=some (PySem.W.methodObj (.ref f) (.ref y)):=x
   show h'.get? a=some (PySem.W.methodObj (.ref f) (.ref y))
   exact k a _ (.inl rfl) e
 | ext φ=>obtain ⟨p,⟨o,e⟩,st⟩:=x; exact ⟨st _ _ p fun o q=>k _ _ (.inl rfl) q,⟨o,k _ _ (.inl rfl) e⟩,st⟩
theorem HOk.lt (x:HOk P w H h) (e:H a=some o):a < h.objs.size:=(x a o e).lt
theorem HOk.fresh (x:HOk P w H h) (e:h.objs.size≤a):H a=none:=by
 cases q:H a with
 | none=>rfl
 | some u=>exact absurd (Nat.lt_of_lt_of_le (x.lt q) e) (Nat.lt_irrefl _)
theorem HOk.kept (x:HOk P w H h) (k:∀ b u,h.get? b=some u→h'.get? b=some u):HOk P w H h':=fun a o e =>
 (x a o e).stay (fun b u _ q=>k b u q) (fun _ q=>q) fun _ _ q=>q
theorem HOk.laid (x:HOk P w H h) (k:∀ b u,h.get? b=some u→h'.get? b=some u) (hp:h.objs.size≤a) (new:ObjOk P w (upd H a o) h' a o):HOk P w (upd H a o) h':=fun b u e=>by
 have hn:=x.fresh hp
 by_cases hb:b=a
 · subst hb; rw [upd_same] at e; cases e; exact new
 · rw [upd_ne hb] at e
   exact (x b u e).stay (fun c v _ q=>k c v q) (fun c q=>by rw [upd_ne (ne_of_none q hn)]; exact q) fun c xs q=>by rw [upd_ne (ne_of_none q hn)]; exact q
end
def Rd (H:Hp) (a:Addr) (u:HO):Prop:=H a=some u∨∃ o,H a=some (.frz o u)
theorem Rd.ok {P:Program} {w:World} {H:Hp} {h:Heap} {a:Addr} {u:HO} (r:Rd H a u) (x:HOk P w H h):ObjOk P w H h a u:=by
 rcases r with r | ⟨o,r⟩
 · exact x a u r
 · obtain ⟨_,q⟩:=x a _ r
   exact q
def Mut:Option HO→Prop
 | some (.lst _)=>True
 | some (.dK _)=>True
 | some (.dT _)=>True
 | some (.set _ _)=>True
 | some (.ins _ _ _)=>True
 | some (.ext _)=>True
 | _=>False
section
variable {P:Program} {w:World} {H:Hp} {h h':Heap} {x e:Addr} {o':HO}
theorem HOk.write (ok:HOk P w H h) (mu:Mut (H x)) (he:e=x∨H e=some (.own x)) (k:∀ b u,b≠e→h.get? b=some u→h'.get? b=some u) (heo:∃ u,h'.get? e=some u)
 (new:ObjOk P w (upd H x o') h' x o'):HOk P w (upd H x o') h':=fun b u q=>by
 have nown:∀ c y,H c=some (.own y)→c≠x:=fun c y r z=>by subst z; rw [r] at mu; exact mu
 have ntup:∀ c xs,H c=some (.tup xs)→c≠x:=fun c xs r z=>by subst z; rw [r] at mu; exact mu
 by_cases hb:b=x
 · subst hb; rw [upd_same] at q; cases q; exact new
 · rw [upd_ne hb] at q
   by_cases hbe:b=e
   · have q':H b=some (.own x):=by
      rcases he with z | z
      · exact absurd (hbe.trans z) hb
      · rw [hbe]; exact z
     rw [q] at q'; cases q'
     obtain ⟨v,hv⟩:=heo
     exact ⟨v,by rw [hbe]; exact hv⟩
   · refine (ok b u q).stay (fun c v hc r=>k c v ?_ r) (fun c r=>by rw [upd_ne (nown c b r)]; exact r) fun c xs r=>by rw [upd_ne (ntup c xs r)]; exact r
     rcases hc with rfl | hc
     · exact hbe
     · rintro rfl
       rcases he with z | z
       · exact nown c b hc z
       · rw [hc] at z; cases z; exact hb rfl
end
structure Un (fs ex:List Addr) (H H':Hp) (h h':Heap):Prop where
 keep:∀ b o,h.get? b=some o→H b=none→b ∉ fs→b ∉ ex→h'.get? b=some o
 slot:∀ b o,h.get? b=some o→H b=none→b∈fs→b ∉ ex→∃ sl,h'.get? b=some { o with slots:=sl }
 free:∀ b o,h.get? b=some o→H b=none→b ∉ ex→H' b=none
 there:∀ b o,h.get? b=some o→b ∉ ex→∃ o',h'.get? b=some o'
 tups:∀ b xs,H b=some (.tup xs)→H' b=some (.tup xs)
 frzs:∀ b o u,H b=some (.frz o u)→H' b=some (.frz o u)
 tbls:∀ b ps,H b=some (.tbl ps)→∃ more,H' b=some (.tbl (ps++more))
section
variable {fs fs' ex ex':List Addr} {H H1 H2:Hp} {h h1 h2 h':Heap} {a x e:Addr} {o:HO}
theorem Un.any (u:Un fs ex H H1 h h1) {b:Addr} {ob:Obj} (q:h.get? b=some ob) (n:H b=none) (hx:b ∉ ex):∃ sl,h1.get? b=some { ob with slots:=sl }:=by
 by_cases hb:b∈fs
 · exact u.slot b ob q n hb hx
 · exact ⟨ob.slots,u.keep b ob q n hb hx⟩
theorem Un.kept (k:∀ b u,h.get? b=some u→h'.get? b=some u):Un fs ex H H h h' :=
 ⟨fun b ob q _ _ _=>k b ob q,fun b ob q _ _ _=>⟨ob.slots,k b ob q⟩,fun _ _ _ n _=>n,fun b ob q _=>⟨ob,k b ob q⟩,fun _ _ q=>q,fun _ _ _ q=>q,fun _ ps q=>⟨#[],by rw [q]; simp⟩⟩
theorem Un.refl:Un fs ex H H h h:=Un.kept fun _ _ q=>q
theorem Un.laid (k:∀ b u,h.get? b=some u→h'.get? b=some u) (hp:h.objs.size≤a) (hn:H a=none):Un fs ex H (upd H a o) h h' where
 keep:=fun b u q _ _ _=>k b u q
 slot:=fun b u q _ _ _=>⟨u.slots,k b u q⟩
 free:=fun b u q n _=>by rw [upd_ne (Nat.ne_of_lt (Nat.lt_of_lt_of_le (Heap.lt_size q) hp))]; exact n
 there:=fun b u q _=>⟨u,k b u q⟩
 tups:=fun b xs q=>by rw [upd_ne (ne_of_none q hn)]; exact q
 frzs:=fun b u xs q=>by rw [upd_ne (ne_of_none q hn)]; exact q
 tbls:=fun b ps q=>⟨#[],by rw [upd_ne (ne_of_none q hn),q]; simp⟩
theorem Un.write (mu:Mut (H x)) (he:e=x∨H e=some (.own x)) (k:∀ b u,b≠e→h.get? b=some u→h'.get? b=some u) (heo:∃ u,h'.get? e=some u):Un fs ex H (upd H x o) h h':=by
 have hx:∀ b,H b=none→b≠x:=fun b n z=>by subst z; rw [n] at mu; exact mu
 have hb:∀ b,H b=none→b≠e:=fun b n z=>by
  subst z
  rcases he with r | r
  · exact hx b n r
  · rw [n] at r; cases r
 have hm:∀ b u,H b=some u→¬ Mut (some u)→b≠x:=fun b u q nm z=>by subst z; rw [q] at mu; exact nm mu
 refine ⟨fun b u q n _ _=>k b u (hb b n) q,fun b u q n _ _=>⟨u.slots,k b u (hb b n) q⟩,fun b u q n _=>by rw [upd_ne (hx b n)]; exact n,fun b u q _=>?_,
  fun b xs q=>by rw [upd_ne (hm b _ q fun z=>z)]; exact q,fun b u xs q=>by rw [upd_ne (hm b _ q fun z=>z)]; exact q,fun b ps q=>⟨#[],by rw [upd_ne (hm b _ q fun z=>z),q]; simp⟩⟩
 by_cases hbe:b=e
 · subst hbe; exact heo
 · exact ⟨u,k b u hbe q⟩
end
def trk (h:Heap) (H:Hp):List Addr:=(List.range h.objs.size).filter fun a=>(H a).isSome
def hidT (h:Heap) (H:Hp):Heap:=PySem.W.hideAll h (trk h H)
theorem hidT_size (h:Heap) (H:Hp):(hidT h H).objs.size=h.objs.size:=PySem.W.hideAll_size _ _
theorem hidT_get {h:Heap} {H:Hp} {b:Addr} {o:Obj} (e:h.get? b=some o) (n:H b=none):(hidT h H).get? b=some o :=
 PySem.W.hideAll_get _ e fun hm=>by
  have q:(H b).isSome=true:=(List.mem_filter.mp hm).2
  rw [n] at q; simp at q
theorem of_hidT {h:Heap} {H:Hp} {b:Addr} {o:Obj} (e:(hidT h H).get? b=some o):h.get? b=some o∧H b=none:=by
 have e':h.get? b=some o:=PySem.W.of_hideAll (trk h H) e
 refine ⟨e',?_⟩
 cases q:H b with
 | none=>rfl
 | some x =>
   have hm:b∈trk h H:=List.mem_filter.mpr ⟨List.mem_range.mpr (Heap.lt_size e'),by simp [q]⟩
   have z:(hidT h H).get? b=none:=PySem.W.hideAll_none (trk h H) hm
   rw [z] at e; cases e
end L2
namespace L2
open PySem PySem.Spec PyProof.Rows
structure Mod (K:PySem.W.Frag) (mg:Str→Option Value) (base:Heap):Prop where
 kin:K.In base
 glob:base.Ns mainGlobals mg
 blt:∃ mb,base.Ns builtinsNs mb∧∀ x:Str,x ≠ "__name__" → mb x=bootBuiltins x
 nolimit:base.NoLimit
structure Cx where
 prog:Program
 w:World
 K:PySem.W.Frag
 mg:Str→Option Value
 base:Heap
 A:Around
 N:List Str
 s₀:Shared
 H₀:Hp
 env:Env
 outer:List Env
 stack:List Env
 ex:List Addr
 fn:Str→Bool
 calm:Bool
 pn:List (Addr × Obj)
 xe:Value→Shared→Prop
def frs (l:List Env):List Addr:=l.filterMap (·.frame)
abbrev Cx.fs (X:Cx):List Addr:=frs X.outer
def Vis (sc:Scope) (x:Str):Prop:=sc.names.lookup x=some .local∨sc.names.lookup x=some .cell∨sc.names.lookup x=some .free
def Loc (sc:Scope) (x:Str):Prop:=sc.names.lookup x=some .local∨sc.names.lookup x=some .cell
def Look (env:Env) (h:Heap) (m:Str→Option Value) (x:Str) (u:Value):Prop :=
 (env.kindOf x=some .local∧m x=some u)∨((env.kindOf x=some .cell∨env.kindOf x=some .free)∧∃ c,env.cells.lookup x=some c∧h.IsCell c (some u))
structure Cx.Ok (X:Cx):Prop where
 mod:Mod X.K X.mg X.base
 kind:X.env.scope.kind=.function
 glob:X.env.globals=mainGlobals
 blt:X.env.builtins=builtinsNs
 above:X.s₀.heap.objs.size≤X.env.locals
 inj:∀ x y c,X.env.cells.lookup x=some c→X.env.cells.lookup y=some c→x=y
 has:∀ x,(X.env.kindOf x=some .cell∨X.env.kindOf x=some .free)→∃ c,X.env.cells.lookup x=some c
 cab:∀ x c,X.fn x=true→X.env.cells.lookup x=some c→X.s₀.heap.objs.size≤c
 hd:X.calm=true→X.A.handled=none
 frames:X.A.frames=some X.stack
 stk:X.stack=X.outer∨(X.stack=X.env :: X.outer∧X.env.frame=some X.env.locals)
 exf:∀ b∈X.ex,b≠X.env.locals∧∀ x c,X.env.cells.lookup x=some c→c≠b
 bs:∀ b o,X.base.get? b=some o→X.s₀.heap.get? b=some o∧X.H₀ b=none
 bsz:X.base.objs.size≤X.s₀.heap.objs.size
 noex:∀ b o,X.base.get? b=some o→b ∉ X.ex
 exfs:∀ b∈X.ex,b ∉ X.fs
 funs:X.s₀.heap.FunFrames X.base X.outer
 frf:∀ b∈X.fs,X.H₀ b=none
structure Inv (X:Cx) (pins:List (Addr × Obj)) (σ:List (Option V)) (H:Hp) (s:Shared):Prop where
 ok:X.Ok
 os:s.os=X.s₀.os
 bare:AllBare s.gens
 base:Un X.fs X.ex X.H₀ H X.s₀.heap s.heap
 loc:∃ m,s.heap.Ns X.env.locals m∧∀ (i:Nat) (x:Str) (v:V),X.N[i]?=some x→σ[i]?=some (some v)→Vis X.env.scope x→∃ u,RelV v u∧Look X.env s.heap m x u
 cell:∀ x c,X.env.cells.lookup x=some c→∃ v,s.heap.IsCell c v
 free:H X.env.locals=none
 freeC:∀ x c,X.env.cells.lookup x=some c→H c=none
 pin:∀ p∈X.pn++pins,s.heap.get? p.1=some p.2∧H p.1=none∧p.1≠X.env.locals∧p.1 ∉ X.fs∧∀ v,p.2.data≠.cell v
 hok:HOk X.prog X.w H s.heap
 len:σ.length=X.N.length
section
variable {X:Cx} {pins:List (Addr × Obj)} {σ:List (Option V)} {H H':Hp} {s:Shared} {h':Heap}
theorem Cx.Ok.nofr (ok:X.Ok) {b:Addr} {o:Obj} (e:X.base.get? b=some o):b ∉ X.fs:=fun hb=>by
 have:=(ok.funs.mem hb).1
 rw [e] at this; cases this
theorem Inv.bs (I:Inv X pins σ H s):∀ b o,X.base.get? b=some o→s.heap.get? b=some o∧H b=none:=fun b o e =>
 ⟨I.base.keep b o (I.ok.bs b o e).1 (I.ok.bs b o e).2 (I.ok.nofr e) (I.ok.noex b o e),I.base.free b o (I.ok.bs b o e).1 (I.ok.bs b o e).2 (I.ok.noex b o e)⟩
theorem Inv.bk (I:Inv X pins σ H s):∀ b o,X.base.get? b=some o→s.heap.get? b=some o:=fun b o e=>(I.bs b o e).1
theorem Inv.mod (I:Inv X pins σ H s):Mod X.K X.mg X.base:=I.ok.mod
theorem Inv.kIn (I:Inv X pins σ H s):X.K.In s.heap:=I.ok.mod.kin.keeps I.bk
theorem Inv.lt (I:Inv X pins σ H s):X.env.locals < s.heap.objs.size:=let ⟨_,hn,_⟩:=I.loc; hn.lt
theorem Inv.sz (I:Inv X pins σ H s):X.s₀.heap.objs.size≤s.heap.objs.size:=Nat.le_trans I.ok.above (Nat.le_of_lt I.lt)
theorem Inv.nofs (I:Inv X pins σ H s) {a:Addr} (h:s.heap.objs.size≤a):a ∉ X.fs:=fun hb=>by
 obtain ⟨_,o,ho,_⟩:=I.ok.funs.mem hb
 exact absurd (Nat.lt_of_lt_of_le (Heap.lt_size ho) (Nat.le_trans I.sz h)) (Nat.lt_irrefl _)
theorem Inv.cne (I:Inv X pins σ H s):∀ x c,X.env.cells.lookup x=some c→c≠X.env.locals:=fun x c e z=>by
 obtain ⟨v,o,ho,hd⟩:=I.cell x c e
 obtain ⟨m,⟨o',es,ep,ho',hd',_⟩,_⟩:=I.loc
 rw [z,ho'] at ho; cases ho; rw [hd'] at hd; cases hd
theorem Inv.funs (I:Inv X pins σ H s):s.heap.FunFrames X.base X.outer:=by
 have all:∀ (l:List Env),(∀ b∈frs l,b∈X.fs)→X.s₀.heap.FunFrames X.base l→s.heap.FunFrames X.base l:=by
  intro l
  induction l with
  | nil=>intro _ _; trivial
  | cons env r ih =>
    intro hs hl
    obtain ⟨hk,⟨L,o,hf,hn,ho,hd⟩,hr⟩:=hl
    have hL:L∈X.fs:=hs L (by unfold frs; rw [List.filterMap_cons,hf]; exact List.mem_cons_self)
    obtain ⟨sl,e⟩:=I.base.slot L o ho (I.ok.frf L hL) hL fun z=>I.ok.exfs L z hL
    exact ⟨hk,⟨L,_,hf,hn,e,hd⟩,ih (fun b hb=>hs b (by unfold frs; rw [List.filterMap_cons,hf]; exact List.mem_cons_of_mem _ hb)) hr⟩
 exact all X.outer (fun _ hb=>hb) I.ok.funs
theorem Inv.stack (I:Inv X pins σ H s):s.heap.FunFrames X.base X.stack:=by
 rcases I.ok.stk with e | ⟨e,hf⟩
 · rw [e]; exact I.funs
 · rw [e]
   obtain ⟨m,hn,_⟩:=I.loc
   refine .cons (by rw [I.ok.kind]; decide) hf hn ?_ I.funs
   exact Heap.get?_none_of_le (Nat.le_trans I.ok.bsz I.ok.above)
theorem Inv.stkSub (I:Inv X pins σ H s):∀ b∈frs X.stack,b∈X.env.locals :: X.fs:=fun b hb=>by
 rcases I.ok.stk with e | ⟨e,hf⟩
 · rw [e] at hb; exact List.mem_cons_of_mem _ hb
 · rw [e] at hb
   unfold frs at hb
   rw [List.filterMap_cons,hf] at hb
   exact hb
theorem Inv.stkFree (I:Inv X pins σ H s):∀ b∈frs X.stack,H b=none:=fun b hb=>by
 rcases List.mem_cons.mp (I.stkSub b hb) with e | hb
 · rw [e]; exact I.free
 · obtain ⟨_,o,ho,_⟩:=I.ok.funs.mem hb
   exact I.base.free b o ho (I.ok.frf b hb) fun z=>I.ok.exfs b z hb
theorem Inv.step {g':Array GenState} {t':Nat} {d':Drawn} {ch:List Addr} (I:Inv X pins σ H s)
 (hch:∀ b∈ch,(b∈X.ex∨X.s₀.heap.objs.size≤b)∧b≠X.env.locals∧(∀ x c,X.env.cells.lookup x=some c→c≠b)∧∀ p∈X.pn++pins,p.1≠b)
 (keep:∀ b o,b≠X.env.locals→b ∉ X.fs→b ∉ ch→s.heap.get? b=some o→H b=none→h'.get? b=some o)
 (slot:∀ b o,b≠X.env.locals→b∈X.fs→b ∉ ch→s.heap.get? b=some o→H b=none→∃ sl,h'.get? b=some { o with slots:=sl }) (free:∀ b o,b ∉ ch→s.heap.get? b=some o→H b=none→H' b=none)
 (there:∀ b o,b ∉ ch→s.heap.get? b=some o→∃ o',h'.get? b=some o')
 (tups:∀ b xs,H b=some (.tup xs)→H' b=some (.tup xs)) (frzs:∀ b o u,H b=some (.frz o u)→H' b=some (.frz o u)) (tbls:∀ b ps,H b=some (.tbl ps)→∃ more,H' b=some (.tbl (ps++more)))
 (ns:∀ m,s.heap.Ns X.env.locals m→h'.Ns X.env.locals m) (hok:HOk X.prog X.w H' h') (hg:AllBare g') :
 Inv X pins σ H' { s with heap:=h',gens:=g',drawn:=d',toks:=t' }:=by
 have neL:∀ b o,X.s₀.heap.get? b=some o→b≠X.env.locals:=fun b o e=>Nat.ne_of_lt (Nat.lt_of_lt_of_le (Heap.lt_size e) I.ok.above)
 have neC:∀ b o,X.s₀.heap.get? b=some o→b ∉ X.ex→b ∉ ch:=fun b o e hx hb=>by
  rcases (hch b hb).1 with z | z
  · exact hx z
  · exact absurd (Nat.lt_of_lt_of_le (Heap.lt_size e) z) (Nat.lt_irrefl _)
 have cellK:∀ x c,X.env.cells.lookup x=some c→∀ v,s.heap.IsCell c v→h'.IsCell c v:=fun x c e v ⟨o,ho,hd⟩=>by
  have nch:c ∉ ch:=fun z=>(hch c z).2.2.1 x c e rfl
  by_cases hc:c∈X.fs
  · obtain ⟨sl,q⟩:=slot c o (I.cne x c e) hc nch ho (I.freeC x c e)
    exact ⟨_,q,hd⟩
  · exact ⟨o,keep c o (I.cne x c e) hc nch ho (I.freeC x c e),hd⟩
 refine ⟨I.ok,I.os,hg,⟨fun b o e n hb hx=>?_,fun b o e n hb hx=>?_,fun b o e n hx=>?_,fun b o e hx=>?_,fun b xs e=>tups b xs (I.base.tups b xs e),fun b o xs e=>frzs b o xs (I.base.frzs b o xs e),fun b ps e=>?_⟩,?_,fun x c e=>?_,?_,fun x c e=>?_,fun p hp=>?_,hok,I.len⟩
 · exact keep b o (neL b o e) hb (neC b o e hx) (I.base.keep b o e n hb hx) (I.base.free b o e n hx)
 · obtain ⟨sl,e1⟩:=I.base.slot b o e n hb hx
   obtain ⟨sl',e2⟩:=slot b _ (neL b o e) hb (neC b o e hx) e1 (I.base.free b o e n hx)
   exact ⟨sl',e2⟩
 · obtain ⟨o',e1⟩:=I.base.there b o e hx
   exact free b o' (neC b o e hx) e1 (I.base.free b o e n hx)
 · obtain ⟨o',e1⟩:=I.base.there b o e hx
   exact there b o' (neC b o e hx) e1
 · obtain ⟨m1,e1⟩:=I.base.tbls b ps e
   obtain ⟨m2,e2⟩:=tbls b _ e1
   exact ⟨m1++m2,by rw [e2,Array.append_assoc]⟩
 · obtain ⟨m,hn,hl⟩:=I.loc
   refine ⟨m,ns m hn,fun i x v e1 e2 e3=>?_⟩
   obtain ⟨u,r,l⟩:=hl i x v e1 e2 e3
   refine ⟨u,r,?_⟩
   rcases l with l | ⟨k,c,e,z⟩
   · exact .inl l
   · exact .inr ⟨k,c,e,cellK x c e _ z⟩
 · obtain ⟨v,z⟩:=I.cell x c e
   exact ⟨v,cellK x c e v z⟩
 · obtain ⟨m,⟨o,_,_,ho,_⟩,_⟩:=I.loc
   exact free _ o (fun z=>(hch _ z).2.1 rfl) ho I.free
 · obtain ⟨v,o,ho,hd⟩:=I.cell x c e
   exact free c o (fun z=>(hch c z).2.2.1 x c e rfl) ho (I.freeC x c e)
 · obtain ⟨e,n,ne,nf,d⟩:=I.pin p hp
   have nch:p.1 ∉ ch:=fun z=>(hch p.1 z).2.2.2 p hp rfl
   exact ⟨keep p.1 p.2 ne nf nch e n,free p.1 p.2 nch e n,ne,nf,d⟩
theorem Inv.un {t':Nat} (I:Inv X pins σ H s) (u:Un X.fs [] H H' s.heap h') (hok:HOk X.prog X.w H' h'):Inv X pins σ H' { s with heap:=h',toks:=t' }:=by
 obtain ⟨m,⟨o,es,ep,ho,r⟩,_⟩:=id I.loc
 obtain ⟨sl,hL⟩:=u.any ho I.free (by simp)
 exact I.step (g':=s.gens) (d':=s.drawn) (ch:=[]) (fun _ z=>nomatch z) (fun b o _ hb _ e n=>u.keep b o e n hb (by simp)) (fun b o _ hb _ e n=>u.slot b o e n hb (by simp)) (fun b o _ e n=>u.free b o e n (by simp)) (fun b o _ e=>u.there b o e (by simp)) u.tups u.frzs u.tbls (fun m' hm=>by
  obtain ⟨o',es',ep',ho',r'⟩:=hm
  rw [ho] at ho'; cases ho'
  exact ⟨_,es',ep',hL,r'⟩) hok I.bare
theorem Inv.call {g':Array GenState} {t':Nat} {d':Drawn} {ch:List Addr} (I:Inv X pins σ H s) (u:Un (frs X.stack) ch H H' s.heap h') (hok:HOk X.prog X.w H' h') (hg:AllBare g')
 (hch:∀ b∈ch,(b∈X.ex∨X.s₀.heap.objs.size≤b)∧b≠X.env.locals∧(∀ x c,X.env.cells.lookup x=some c→c≠b)∧∀ p∈X.pn++pins,p.1≠b) :
 Inv X pins σ H' { s with heap:=h',gens:=g',drawn:=d',toks:=t' }:=by
 obtain ⟨m,⟨o,es,ep,ho,r⟩,_⟩:=id I.loc
 obtain ⟨sl,hL⟩:=u.any ho I.free fun z=>(hch _ z).2.1 rfl
 exact I.step (ch:=ch) hch (fun b o hL hb hc e n=>u.keep b o e n (fun z=>(List.mem_cons.mp (I.stkSub b z)).elim hL hb) hc) (fun b o _ _ hc e n=>u.any e n hc) (fun b o hc e n=>u.free b o e n hc) (fun b o hc e=>u.there b o e hc) u.tups u.frzs u.tbls (fun m' hm=>by
  obtain ⟨o',es',ep',ho',r'⟩:=hm
  rw [ho] at ho'; cases ho'
  exact ⟨_,es',ep',hL,r'⟩) hok hg
theorem Inv.turned {t':Nat} {it:Addr} (I:Inv X pins σ H s) (k:∀ b o,b≠it→s.heap.get? b=some o→h'.get? b=some o) (hn:H it=none) (hL:it≠X.env.locals)
 (h1:it∈X.ex∨X.s₀.heap.objs.size≤it) (h2:∀ x c,X.env.cells.lookup x=some c→c≠it) (h3:∀ p∈X.pn++pins,p.1≠it):Inv X pins σ H { s with heap:=h',toks:=t' }:=by
 have nit:∀ b u,H b=some u→b≠it:=fun b u e z=>by rw [z,hn] at e; cases e
 refine I.step (g':=s.gens) (d':=s.drawn) (ch:=[it]) (fun b hb=>?_) (fun b o _ _ hc e _=>k b o (fun z=>hc (by simp [z])) e) (fun b o _ _ hc e _=>⟨o.slots,k b o (fun z=>hc (by simp [z])) e⟩) (fun _ _ _ _ n=>n)
  (fun b o hc e=>⟨o,k b o (fun z=>hc (by simp [z])) e⟩) (fun _ _ e=>e) (fun _ _ _ e=>e) (fun b ps e=>⟨#[],by rw [e]; simp⟩) (fun m hm=>?_) (fun b u e=>?_) I.bare
 · have e:b=it:=by simpa using hb
   subst e
   exact ⟨h1,hL,h2,h3⟩
 · obtain ⟨o,es,ep,ho,r⟩:=hm
   exact ⟨o,es,ep,k _ o (Ne.symm hL) ho,r⟩
 · refine (I.hok b u e).stay (fun c v hc q=>k c v ?_ q) (fun _ q=>q) fun _ _ q=>q
   rcases hc with z | z
   · rw [z]; exact nit b u e
   · exact nit c _ z
theorem Inv.tok (I:Inv X pins σ H s) (t:Nat):Inv X pins σ H { s with toks:=t }:=I.un (h':=s.heap) (t':=t) Un.refl I.hok
theorem Inv.kept {t':Nat} (I:Inv X pins σ H s) (k:∀ b u,s.heap.get? b=some u→h'.get? b=some u):Inv X pins σ H { s with heap:=h',toks:=t' }:=I.un (Un.kept k) (I.hok.kept k)
theorem Inv.laid {a:Addr} {o:HO} {t':Nat} (I:Inv X pins σ H s) (k:∀ b u,s.heap.get? b=some u→h'.get? b=some u) (hp:s.heap.objs.size≤a) (new:ObjOk X.prog X.w (upd H a o) h' a o) :
 Inv X pins σ (upd H a o) { s with heap:=h',toks:=t' }:=I.un (Un.laid k hp (I.hok.fresh hp)) (I.hok.laid k hp new)
theorem Inv.write {x e:Addr} {o:HO} {t':Nat} (I:Inv X pins σ H s) (mu:Mut (H x)) (he:e=x∨H e=some (.own x)) (k:∀ b u,b≠e→s.heap.get? b=some u→h'.get? b=some u) (heo:∃ u,h'.get? e=some u)
 (new:ObjOk X.prog X.w (upd H x o) h' x o):Inv X pins σ (upd H x o) { s with heap:=h',toks:=t' }:=I.un (Un.write mu he k heo) (I.hok.write mu he k heo new)
theorem Inv.pins_of {pins':List (Addr × Obj)} (I:Inv X pins σ H s) (h:∀ p∈pins',s.heap.get? p.1=some p.2∧H p.1=none∧p.1≠X.env.locals∧p.1 ∉ X.fs∧∀ v,p.2.data≠.cell v):Inv X pins' σ H s :=
 ⟨I.ok,I.os,I.bare,I.base,I.loc,I.cell,I.free,I.freeC,fun p hp=>(List.mem_append.mp hp).elim (fun z=>I.pin p (List.mem_append_left _ z)) (h p),I.hok,I.len⟩
theorem nodup_ix {N:List Str} (hN:N.Nodup) {i j:Nat} {x:Str} (a:N[i]?=some x) (b:N[j]?=some x):i=j:=by
 obtain ⟨h1,e1⟩:=List.getElem?_eq_some_iff.mp a
 obtain ⟨h2,e2⟩:=List.getElem?_eq_some_iff.mp b
 exact (List.getElem_inj hN).mp (e1.trans e2.symm)
theorem store_ok2 {M:Model} {A:Around} {E:Value→Shared→Prop} {i:Nat} {x:Str} {v:V} {u:Value} {Q:Unit→Shared→Prop} (I:Inv X pins σ H s) (hN:X.N.Nodup) (hi:X.N[i]?=some x) (hx:Loc X.env.scope x) (r:RelV v u)
 (h:∀ s',Inv X pins (σ.set i (some v)) H s'→(∃ a,Heap.SameBut a s.heap s'.heap∧(a=X.env.locals∨X.env.cells.lookup x=some a))→Q () s') (hf:X.fn x=true∨X.env.scope.names.lookup x=some .local:=by first | exact .inl rfl | exact .inr rfl | assumption):wpAny M A (storeName X.env x u) Q E s:=by
 obtain ⟨m,hn,hl⟩:=id I.loc
 have hcls:(X.env.scope.kind == .class || (X.env.scope.kind == .module && X.env.locals != X.env.globals))=false:=by rw [I.ok.kind]; rfl
 have hiσ:i < σ.length:=by rw [I.len]; exact (List.getElem?_eq_some_iff.mp hi).1
 have cne:=I.cne
 have tracked:∀ {a:Addr} {h':Heap},(∃ o,s.heap.get? a=some o∧H a=none)→Heap.SameBut a s.heap h'→HOk X.prog X.w H h':=fun {a h'} ha hs b ob e=>by
  obtain ⟨_,_,hfree⟩:=ha
  refine (I.hok b ob e).stay (fun c w' hc q=>(hs.2 c ?_).trans q) (fun _ q=>q) fun _ _ q=>q
  rintro rfl
  rcases hc with rfl | hc
  · rw [hfree] at e; cases e
  · rw [hfree] at hc; cases hc
 rcases hx with hk | hk
 · refine wpAny_storeName_local hk hn (fun h' hn' hs=>?_) hcls
   obtain ⟨oL,_,_,hoL,_⟩:=id hn
   refine h _ ⟨I.ok,I.os,I.bare,⟨fun b o e n hb hx=>?_,fun b o e n hb hx=>?_,I.base.free,fun b o e hx=>?_,I.base.tups,I.base.frzs,I.base.tbls⟩,⟨_,hn',fun j y v' e1 e2 e3=>?_⟩,fun y c e=>?_,I.free,I.freeC,fun p hp=>?_,tracked ⟨oL,hoL,I.free⟩ hs,by simpa using I.len⟩ ⟨_,hs,.inl rfl⟩
   · exact (hs.2 b (Nat.ne_of_lt (Nat.lt_of_lt_of_le (Heap.lt_size e) I.ok.above))).trans (I.base.keep b o e n hb hx)
   · obtain ⟨sl,e1⟩:=I.base.slot b o e n hb hx
     exact ⟨sl,(hs.2 b (Nat.ne_of_lt (Nat.lt_of_lt_of_le (Heap.lt_size e) I.ok.above))).trans e1⟩
   · obtain ⟨o',e1⟩:=I.base.there b o e hx
     exact ⟨o',(hs.2 b (Nat.ne_of_lt (Nat.lt_of_lt_of_le (Heap.lt_size e) I.ok.above))).trans e1⟩
   · by_cases hj:j=i
     · subst hj
       rw [hi] at e1; cases e1
       rw [List.getElem?_set_self hiσ] at e2
       cases e2
       exact ⟨u,r,.inl ⟨hk,by simp⟩⟩
     · rw [List.getElem?_set_ne (Ne.symm hj)] at e2
       obtain ⟨u',r',q⟩:=hl j y v' e1 e2 e3
       refine ⟨u',r',?_⟩
       rcases q with ⟨k,e⟩ | ⟨k,c,e,z⟩
       · refine .inl ⟨k,?_⟩
         have:y≠x:=fun e=>hj (nodup_ix hN e1 (e ▸ hi))
         simp [this,e]
       · exact .inr ⟨k,c,e,z.sameBut hs (cne y c e)⟩
   · obtain ⟨w',z⟩:=I.cell y c e
     exact ⟨w',z.sameBut hs (cne y c e)⟩
   · obtain ⟨e,n,ne,nf,d⟩:=I.pin p hp
     exact ⟨(hs.2 p.1 ne).trans e,n,ne,nf,d⟩
 · have hfn:X.fn x=true:=by
    rcases hf with z | z
    · exact z
    · rw [z] at hk; cases hk
   obtain ⟨c,hc⟩:=I.ok.has x (.inl hk)
   obtain ⟨w',z⟩:=I.cell x c hc
   refine wpAny_storeName_cell I.ok.kind hk hc z (fun h' hc' hs=>?_)
   obtain ⟨oc,hoc,hocd⟩:=id z
   refine h { s with heap:=h' } ⟨I.ok,I.os,I.bare,⟨fun b o e n hb hx=>?_,fun b o e n hb hx=>?_,I.base.free,fun b o e hx=>?_,I.base.tups,I.base.frzs,I.base.tbls⟩,⟨m,hn.sameBut hs (Ne.symm (cne x c hc)),fun j y v' e1 e2 e3=>?_⟩,fun y c' e=>?_,I.free,I.freeC,fun p hp=>?_,tracked ⟨oc,hoc,I.freeC x c hc⟩ hs,by simpa using I.len⟩ ⟨c,hs,.inr hc⟩
   · exact (hs.2 b (Nat.ne_of_lt (Nat.lt_of_lt_of_le (Heap.lt_size e) (I.ok.cab x c hfn hc)))).trans (I.base.keep b o e n hb hx)
   · obtain ⟨sl,e1⟩:=I.base.slot b o e n hb hx
     exact ⟨sl,(hs.2 b (Nat.ne_of_lt (Nat.lt_of_lt_of_le (Heap.lt_size e) (I.ok.cab x c hfn hc)))).trans e1⟩
   · obtain ⟨o',e1⟩:=I.base.there b o e hx
     exact ⟨o',(hs.2 b (Nat.ne_of_lt (Nat.lt_of_lt_of_le (Heap.lt_size e) (I.ok.cab x c hfn hc)))).trans e1⟩
   · by_cases hj:j=i
     · subst hj
       rw [hi] at e1; cases e1
       rw [List.getElem?_set_self hiσ] at e2
       cases e2
       exact ⟨u,r,.inr ⟨.inl hk,c,hc,hc'⟩⟩
     · rw [List.getElem?_set_ne (Ne.symm hj)] at e2
       obtain ⟨u',r',q⟩:=hl j y v' e1 e2 e3
       refine ⟨u',r',?_⟩
       rcases q with q | ⟨k,c',e,z'⟩
       · exact .inl q
       · refine .inr ⟨k,c',e,z'.sameBut hs ?_⟩
         rintro rfl
         exact hj (nodup_ix hN e1 (I.ok.inj _ _ _ e hc ▸ hi))
   · by_cases hcc:c'=c
     · subst hcc; exact ⟨_,hc'⟩
     · obtain ⟨w2,z2⟩:=I.cell y c' e
       exact ⟨w2,z2.sameBut hs hcc⟩
   · obtain ⟨e,n,ne,nf,d⟩:=I.pin p hp
     refine ⟨(hs.2 p.1 ?_).trans e,n,ne,nf,d⟩
     intro q
     rw [q,hoc] at e
     have q':oc=p.2:=Option.some.inj e
     exact d w' (by rw [←q']; exact hocd)
theorem store_ok {M:Model} {A:Around} {E:Value→Shared→Prop} {i:Nat} {x:Str} {v:V} {u:Value} {Q:Unit→Shared→Prop} (I:Inv X pins σ H s) (hN:X.N.Nodup) (hi:X.N[i]?=some x) (hx:Loc X.env.scope x) (r:RelV v u)
 (h:∀ s',Inv X pins (σ.set i (some v)) H s'→Q () s') (hf:X.fn x=true∨X.env.scope.names.lookup x=some .local:=by first | exact .inl rfl | exact .inr rfl | assumption):wpAny M A (storeName X.env x u) Q E s :=
 store_ok2 I hN hi hx r (fun s' I' _=>h s' I') hf
theorem Inv.call' {s':Shared} {ch:List Addr} (I:Inv X pins σ H s) (ho:s'.os=s.os) (u:Un (frs X.stack) ch H H' s.heap s'.heap) (hok:HOk X.prog X.w H' s'.heap) (hg:AllBare s'.gens)
 (hch:∀ b∈ch,(b∈X.ex∨X.s₀.heap.objs.size≤b)∧b≠X.env.locals∧(∀ x c,X.env.cells.lookup x=some c→c≠b)∧∀ p∈X.pn++pins,p.1≠b):Inv X pins σ H' s':=by
 obtain ⟨h',g',d',t',o'⟩:=s'
 have e:o'=s.os:=ho
 subst e
 exact I.call (g':=g') (t':=t') (d':=d') u hok hg hch
end
abbrev XK:=Value→Option Addr→Hp→Prop
abbrev St:=List (Option V)
abbrev VK:=V→Hp→Prop
abbrev TE:=St→Hp→VK→Prop
abbrev TT:=St→Hp→(Bool→Hp→Prop)→Prop
abbrev TA:=St→Hp→(List V→Hp→Prop)→Prop
structure Ends where
 nx:St→Hp→Prop
 rt:VK
 bk:St→Hp→Prop:=fun _ _=>False
 ct:St→Hp→Prop:=fun _ _=>False
abbrev TS:=Ends→St→Hp→Prop
def EP (X:Cx) (pins:List (Addr × Obj)) (σ:St) (Q:VK) (u:Value) (s':Shared):Prop:=∃ v H',Inv X pins σ H' s'∧RelV v u∧Q v H'
def TP (X:Cx) (pins:List (Addr × Obj)) (σ:St) (Q:Bool→Hp→Prop) (b:Bool) (s':Shared):Prop:=∃ H',Inv X pins σ H' s'∧Q b H'
def AP (X:Cx) (pins:List (Addr × Obj)) (σ:St) (Q:List V→Hp→Prop) (us:List Value) (s':Shared):Prop:=∃ vs H',Inv X pins σ H' s'∧Vals vs us∧Q vs H'
def SP (X:Cx) (pins:List (Addr × Obj)) (D:Ends) (f:Flow) (s':Shared):Prop :=
 match f with
 | .next=>∃ σ' H',Inv X pins σ' H' s'∧D.nx σ' H'
 | .brk=>∃ σ' H',Inv X pins σ' H' s'∧D.bk σ' H'
 | .cont=>∃ σ' H',Inv X pins σ' H' s'∧D.ct σ' H'
 | .ret u=>∃ v σ' H',Inv X pins σ' H' s'∧RelV v u∧D.rt v H'
def PE (X:Cx) (e:Expr) (t:TE):Prop :=
 ∀ (pins:List (Addr × Obj)) (s:Shared) (σ:St) (H:Hp) (Q:VK),Inv X pins σ H s→t σ H Q→wpAny (model X.prog X.w) X.A (eval e X.env) (EP X pins σ Q) X.xe s
def PT (X:Cx) (e:Expr) (t:TT):Prop :=
 ∀ (pins:List (Addr × Obj)) (s:Shared) (σ:St) (H:Hp) (Q:Bool→Hp→Prop),Inv X pins σ H s→t σ H Q→wpAny (model X.prog X.w) X.A (isTrue e X.env (eval e X.env)) (TP X pins σ Q) X.xe s
def PW (X:Cx) (e:Expr) (t:TT):Prop :=
 ∀ (whole:Sem Value) (pins:List (Addr × Obj)) (s:Shared) (σ:St) (H:Hp) (Q:Bool→Hp→Prop),Inv X pins σ H s→t σ H Q→wpAny (model X.prog X.w) X.A (isTrue e X.env whole) (TP X pins σ Q) X.xe s
theorem PW.pt {X:Cx} {e:Expr} {t:TT} (h:PW X e t):PT X e t:=h _
def PA (X:Cx) (es:List Expr) (t:TA):Prop :=
 ∀ (pos:Pos) (pins:List (Addr × Obj)) (s:Shared) (σ:St) (H:Hp) (Q:List V→Hp→Prop),Inv X pins σ H s→t σ H Q→wpAny (model X.prog X.w) X.A (spliced (backTo pos (starEach es X.env))) (AP X pins σ Q) X.xe s
def PS (X:Cx) (st:Stmt) (t:TS):Prop :=
 ∀ (pins:List (Addr × Obj)) (s:Shared) (σ:St) (H:Hp) (D:Ends),Inv X pins σ H s→t D σ H→wpAny (model X.prog X.w) X.A (exec st X.env) (SP X pins D) X.xe s
def PSs (X:Cx) (st:List Stmt) (t:TS):Prop :=
 ∀ (pins:List (Addr × Obj)) (s:Shared) (σ:St) (H:Hp) (D:Ends),Inv X pins σ H s→t D σ H→wpAny (model X.prog X.w) X.A (execs st X.env) (SP X pins D) X.xe s
theorem thn {α:Type} {t:Sem α} {Q Q':α→Shared→Prop} {M:Model} {A:Around} {E:Value→Shared→Prop} {s:Shared} (h:wpAny M A t Q E s) (hQ:∀ a s,Q a s→Q' a s):wpAny M A t Q' E s:=wpAny_mono h hQ fun _ _ x=>x
end L2
namespace L2
open PySem PySem.Spec PyProof.Rows
section
variable {X:Cx}
def tVar (i:Nat):TE:=fun σ H Q=>∃ v,σ[i]?=some (some v)∧Q v H
def tC (v:V):TE:=fun _ H Q=>Q v H
theorem pe_var {i:Nat} {x:Str} {pos:Pos} (hN:X.N[i]?=some x) (hv:Vis X.env.scope x) (hd:(x == ("__debug__" : Str))=false:=by decide) (hcd:(x == ("__classdict__" : Str))=false:=by decide):PE X (.Name x pos) (tVar i):=by
 intro pins s σ H Q I h
 obtain ⟨v,e,h⟩:=h
 obtain ⟨m,hn,hl⟩:=I.loc
 obtain ⟨u,r,l⟩:=hl i x v hN e hv
 have fin:EP X pins σ Q u s:=⟨v,H,I,r,h⟩
 rcases l with ⟨hk,hm⟩ | ⟨hk,c,hc,hcell⟩
 · exact wpAny_Name (wpAny_loadName_local I.ok.kind hk hn hm fin) hd
 · rcases hk with hk | hk
   · exact wpAny_Name (wpAny_loadName_cell I.ok.kind hk hc hcell fin) hd
   · exact wpAny_Name (wpAny_loadName_free I.ok.kind hk hc hcell fin hcd) hd
theorem pe_int {i j pos}:PE X (.Constant (.int i) j pos) (tC (.int i)):=fun _ _ _ H _ I h=>wpAny_Constant_int ⟨.int i,H,I.tok _,⟨_,rfl⟩,h⟩
theorem pe_bl {b j pos}:PE X (.Constant (.bool b) j pos) (tC (.bl b)):=fun _ _ _ H _ I h=>Constant_bool ⟨.bl b,H,I,rfl,h⟩
theorem pe_non {j pos}:PE X (.Constant .none j pos) (tC .non):=fun _ _ _ H _ I h=>Constant_none ⟨.non,H,I,rfl,h⟩
theorem pe_str {x j pos}:PE X (.Constant (.str x) j pos) (tC (.str x)):=fun _ _ _ H _ I h=>Calls.Constant_str ⟨.str x,H,I.tok _,⟨_,rfl⟩,h⟩
def Gl (X:Cx) (x:Str):Prop:=X.env.kindOf x=some .globalImplicit
theorem ld_glob {E:Value→Shared→Prop} {pins:List (Addr × Obj)} {s:Shared} {σ:St} {H:Hp} {x:Str} {u:Value} {pos:Pos} {Q:Value→Shared→Prop} (I:Inv X pins σ H s) (hg:Gl X x) (hm:X.mg x=some u) (h:Q u s)
 (hd:(x == ("__debug__" : Str))=false:=by decide):wpAny (model X.prog X.w) X.A (eval (.Name x pos) X.env) Q E s :=
 Calls.Name_function_global I.ok.kind hg (Calls.loadGlobal_global (by rw [I.ok.glob]; exact I.mod.glob.keeps I.bk) hm h) hd
theorem ld_blt {E:Value→Shared→Prop} {pins:List (Addr × Obj)} {s:Shared} {σ:St} {H:Hp} {x:Str} {u:Value} {pos:Pos} {Q:Value→Shared→Prop} (I:Inv X pins σ H s) (hg:Gl X x) (hm:X.mg x=none) (hv:bootBuiltins x=some u) (h:Q u s)
 (hn:x ≠ "__name__" := by decide) (hd:(x == ("__debug__" : Str))=false:=by decide):wpAny (model X.prog X.w) X.A (eval (.Name x pos) X.env) Q E s:=by
 obtain ⟨mb,h1,h2⟩:=I.mod.blt
 exact Calls.Name_function_global I.ok.kind hg (Calls.loadGlobal_builtin (by rw [I.ok.glob]; exact I.mod.glob.keeps I.bk) hm (by rw [I.ok.blt]; exact h1.keeps I.bk) ((h2 x hn).trans hv) h) hd
theorem pe_glob {x:Str} {v:V} {u:Value} {pos:Pos} (hg:Gl X x) (hm:X.mg x=some u) (r:RelV v u) (hd:(x == ("__debug__" : Str))=false:=by decide):PE X (.Name x pos) (tC v) :=
 fun _ _ _ H _ I h=>ld_glob I hg hm ⟨v,H,I,r,h⟩ hd
theorem pe_bltn {x:Str} {v:V} {u:Value} {pos:Pos} (hg:Gl X x) (hm:X.mg x=none) (hv:bootBuiltins x=some u) (r:RelV v u) (hn:x ≠ "__name__" := by decide) (hd:(x == ("__debug__" : Str))=false:=by decide):PE X (.Name x pos) (tC v) :=
 fun _ _ _ H _ I h=>ld_blt I hg hm hv ⟨v,H,I,r,h⟩ hn hd
variable {a b:Expr} {ta tb:TE} {pos:Pos}
def PC (X:Cx) (op:CmpOp) (a b:Expr) (t:TE):Prop :=
 ∀ (pins:List (Addr × Obj)) (s:Shared) (σ:St) (H:Hp) (Q:VK),Inv X pins σ H s→t σ H Q →
  wpAny (model X.prog X.w) X.A (eval a X.env) (fun v s₁=>wpAny (model X.prog X.w) X.A (eval b X.env) (fun u s₂=>wpAny (model X.prog X.w) X.A (compareOp op v u) (EP X pins σ Q) X.xe s₂) X.xe s₁) X.xe s
theorem nobehind (b:Expr) {op:CmpOp} (h:op≠.In) (h2:op≠.NotIn):behindInMarks op b=false:=by
 have e1:(op == CmpOp.In)=false:=by cases op <;> first | rfl | exact absurd rfl h
 have e2:(op == CmpOp.NotIn)=false:=by cases op <;> first | rfl | exact absurd rfl h2
 cases b <;> simp [behindInMarks,e1,e2]
def tIsN (ta:TE):TE:=fun σ H Q=>ta σ H fun x H1=>Q (.bl (decide (x=.non))) H1
theorem RelV.none_iff {x:V} {v:Value} (r:RelV x v):(v == Value.none)=decide (x=.non):=by
 cases x with
 | non=>cases r; rfl
 | bl _=>cases r; rfl
 | int _=>obtain ⟨t,rfl⟩:=r; rfl
 | str _=>obtain ⟨t,rfl⟩:=r; rfl
 | byt _=>obtain ⟨t,rfl⟩:=r; rfl
 | flt _=>obtain ⟨t,rfl⟩:=r; rfl
 | ref _=>cases r; rfl
 | ty _=>cases r; rfl
theorem pc_isN {j pos'} (ha:PE X a ta):PC X .Is a (.Constant .none j pos') (tIsN ta):=by
 intro pins s σ H Q I h
 refine thn (ha pins s σ H _ I h) fun v s1 ⟨x,H1,I1,r1,q1⟩=>?_
 exact Constant_none (is_none_gen ⟨.bl _,H1,I1,by rw [r1.none_iff]; rfl,q1⟩)
def tB (t:TE):TT:=fun σ H Q=>t σ H fun x H1=>∃ c,x=.bl c∧Q c H1
theorem pt_cmp {op:CmpOp} {t:TE} (h:PC X op a b t) (h1:behindInMarks op b=false:=by first | exact nobehind _ (by decide) (by decide) | rfl):PT X (.Compare a [op] [b] pos) (tB t):=by
 intro pins s σ H Q I hw
 refine wpAny_isTrue_Compare1 (thn (h pins s σ H _ I hw) fun v s1 h1=>thn h1 fun u s2 h2=>thn h2 fun c s3 ⟨x,H1,I1,r1,q1⟩=>?_) h1
 obtain ⟨d,rfl,q⟩:=q1
 cases r1
 exact wpAny_truthy_bool ⟨H1,I1,q⟩
theorem pt_val {e:Expr} {t:TE} (h:PE X e t) (he:∀ whole,isTrue e X.env whole=(do let v ←whole; standAt e.pos; holding [v] (truthy v)):=by intro _; rfl):PT X e (tB t):=by
 intro pins s σ H Q I hw
 refine isTrue_plain (thn (h pins s σ H _ I hw) fun v s1 ⟨x,H1,I1,r1,q1⟩=>?_) (he _)
 obtain ⟨d,rfl,q⟩:=q1
 cases r1
 exact wpAny_truthy_bool ⟨H1,I1,q⟩
variable {tA tB':TT} {rest:List Expr}
def tAnd (t u:TT):TT:=fun σ H Q=>t σ H fun c H1=>if c=true then u σ H1 Q else Q false H1
def tOr (t u:TT):TT:=fun σ H Q=>t σ H fun c H1=>if c=true then Q true H1 else u σ H1 Q
def tNot (t:TT):TT:=fun σ H Q=>t σ H fun c H1=>Q (!c) H1
theorem pw_and1 (ha:PT X a tA):PW X (.BoolOp .And [a] pos) tA:=by
 intro wh pins s σ H Q I h
 refine isTrue_and (thn (ha pins s σ H Q I h) fun c s1 e=>?_)
 cases c with
 | true=>exact isTrue_and_nil e
 | false=>exact e
theorem pw_or1 (ha:PT X a tA):PW X (.BoolOp .Or [a] pos) tA:=by
 intro wh pins s σ H Q I h
 refine isTrue_or (thn (ha pins s σ H Q I h) fun c s1 e=>?_)
 cases c with
 | false=>exact isTrue_or_nil e
 | true=>exact e
theorem pw_and (ha:PT X a tA) (hb:PW X (.BoolOp .And (b :: rest) pos) tB'):PW X (.BoolOp .And (a :: b :: rest) pos) (tAnd tA tB'):=by
 intro wh pins s σ H Q I h
 refine isTrue_and (thn (ha pins s σ H _ I h) fun c s1 ⟨H1,I1,q1⟩=>?_)
 cases c with
 | true=>exact hb wh pins s1 σ H1 Q I1 q1
 | false=>exact ⟨H1,I1,q1⟩
theorem pw_or (ha:PT X a tA) (hb:PW X (.BoolOp .Or (b :: rest) pos) tB'):PW X (.BoolOp .Or (a :: b :: rest) pos) (tOr tA tB'):=by
 intro wh pins s σ H Q I h
 refine isTrue_or (thn (ha pins s σ H _ I h) fun c s1 ⟨H1,I1,q1⟩=>?_)
 cases c with
 | true=>exact ⟨H1,I1,q1⟩
 | false=>exact hb wh pins s1 σ H1 Q I1 q1
theorem pt_not (ha:PT X a tA):PT X (.UnaryOp .Not a pos) (tNot tA):=by
 intro pins s σ H Q I h
 exact isTrue_not (ha pins s σ H (fun c H1=>Q (!c) H1) I h)
def tAndV (ta tb:TE):TE:=fun σ H Q=>ta σ H fun x H1=>∃ c,x=.bl c∧if c=true then tb σ H1 Q else Q (.bl false) H1
def tNotV (ta:TE):TE:=fun σ H Q=>ta σ H fun x H1=>∃ c,x=.bl c∧Q (.bl (!c)) H1
theorem pe_one {op} {t:TE} (h:PE X a t):PE X (.BoolOp op [a] pos) t:=fun pins s σ H Q I hw=>BoolOp_one (h pins s σ H Q I hw)
theorem pe_and (ha:PE X a ta) (hb:PE X (.BoolOp .And (b :: rest) pos) tb):PE X (.BoolOp .And (a :: b :: rest) pos) (tAndV ta tb):=by
 intro pins s σ H Q I h
 refine BoolOp_and (thn (ha pins s σ H _ I h) fun v s1 ⟨x,H1,I1,r1,q1⟩=>?_)
 obtain ⟨c,rfl,q1⟩:=q1
 cases r1
 refine wpAny_truthy_bool ?_
 cases c with
 | true=>exact hb pins s1 σ H1 Q I1 q1
 | false=>exact ⟨.bl false,H1,I1,rfl,q1⟩
theorem pe_not (ha:PE X a ta):PE X (.UnaryOp .Not a pos) (tNotV ta):=by
 intro pins s σ H Q I h
 refine UnaryOp_ (thn (ha pins s σ H _ I h) fun v s1 ⟨x,H1,I1,r1,q1⟩=>?_)
 obtain ⟨c,rfl,q1⟩:=q1
 cases r1
 exact not_of (wpAny_truthy_bool ⟨.bl (!c),H1,I1,rfl,q1⟩)
def tIf (t:TT) (ta tb:TE):TE:=fun σ H Q=>t σ H fun c H1=>if c=true then ta σ H1 Q else tb σ H1 Q
theorem pe_ifExp {c:Expr} (hc:PT X c tA) (ha:PE X a ta) (hb:PE X b tb):PE X (.IfExp c a b pos) (tIf tA ta tb):=by
 intro pins s σ H Q I h
 refine wpAny_IfExp (thn (hc pins s σ H _ I h) fun d s1 ⟨H1,I1,q1⟩=>?_)
 cases d with
 | true=>exact ha pins s1 σ H1 Q I1 q1
 | false=>exact hb pins s1 σ H1 Q I1 q1
end
end L2
namespace L2
open PySem PySem.Spec PyProof.Rows
def SqL (K:PySem.W.Frag) (H:Hp) (a:Addr) (xs:List V):Prop :=
 Rd H a (.lst xs) ∨
  ∃ (o:Obj) (its:Array Value) (n:Nat),K.lookup a=some o∧o.cls=.type "list" ∧ o.dict=none∧o.data=.seq its n∧its.size≤sizeLine∧Vals xs its.toList
def SqT (K:PySem.W.Frag) (H:Hp) (a:Addr) (xs:List V):Prop :=
 Rd H a (.tup xs) ∨
  ∃ (o:Obj) (its:Array Value) (n:Nat),K.lookup a=some o∧o.cls=.type "tuple" ∧ o.data=.seq its n∧its.size≤sizeLine∧Vals xs its.toList
def absV:Value→Option V
 | .none=>some .non
 | .bool b=>some (.bl b)
 | .int i _=>some (.int i)
 | .str x _=>some (.str x)
 | .bytes b _=>some (.byt b)
 | .float b _=>some (.flt b)
 | .ref a=>some (.ref a)
 | .type n=>some (.ty n)
 | _=>none
theorem RelV.abs {x:V} {u:Value} (r:RelV x u):absV u=some x:=by
 cases x with
 | non=>cases r; rfl
 | bl _=>cases r; rfl
 | int _=>obtain ⟨t,rfl⟩:=r; rfl
 | str _=>obtain ⟨t,rfl⟩:=r; rfl
 | byt _=>obtain ⟨t,rfl⟩:=r; rfl
 | flt _=>obtain ⟨t,rfl⟩:=r; rfl
 | ref _=>cases r; rfl
 | ty _=>cases r; rfl
theorem RelV.inj {x y:V} {u:Value} (r:RelV x u) (q:RelV y u):x=y:=Option.some.inj (r.abs.symm.trans q.abs)
theorem Vals.inj:∀ {xs ys:List V} {us:List Value},Vals xs us→Vals ys us→xs=ys
 | _,_,_,.nil,.nil=>rfl
 | _,_,_,.cons r t,.cons r' t'=>by rw [r.inj r',Vals.inj t t']
section
variable {X:Cx} {pins:List (Addr × Obj)} {σ:St} {H:Hp} {s:Shared} {a:Addr} {xs ys:List V}
theorem SqL.of {K:PySem.W.Frag} (h:H a=some (.lst xs)):SqL K H a xs:=.inl (.inl h)
theorem SqT.of {K:PySem.W.Frag} (h:H a=some (.tup xs)):SqT K H a xs:=.inl (.inl h)
theorem Inv.list (I:Inv X pins σ H s) (h:SqL X.K H a xs):∃ its:List Value,Vals xs its∧PlainL s.heap a its.toArray∧xs.length≤sizeLine:=by
 rcases h with h | ⟨o,its,n,hk,hc,hd,hs,hz,r⟩
 · obtain ⟨z,its,n,r,e⟩:=h.ok I.hok
   exact ⟨its,r,⟨_,n,e,rfl,rfl,rfl⟩,z⟩
 · refine ⟨its.toList,r,⟨o,n,I.kIn a o hk,hc,hd,by simpa using hs⟩,?_⟩
   have e:=r.length
   simp only [Array.length_toList] at e
   omega
theorem Inv.tuple (I:Inv X pins σ H s) (h:SqT X.K H a xs):∃ its:List Value,Vals xs its∧IsTup s.heap a its.toArray∧xs.length≤sizeLine:=by
 rcases h with h | ⟨o,its,n,hk,hc,hs,hz,r⟩
 · obtain ⟨z,its,r,p⟩:=h.ok I.hok
   exact ⟨its,r,p,z⟩
 · refine ⟨its.toList,r,⟨o,I.kIn a o hk,hc,n,by simpa using hs⟩,?_⟩
   have e:=r.length
   simp only [Array.length_toList] at e
   omega
theorem Inv.list_inj (I:Inv X pins σ H s) (h:SqL X.K H a xs) (h':SqL X.K H a ys):xs=ys:=by
 obtain ⟨its,r,⟨o,n,e,_,_,d⟩,_⟩:=I.list h
 obtain ⟨its',r',⟨o',n',e',_,_,d'⟩,_⟩:=I.list h'
 rw [e] at e'; cases e'
 rw [d] at d'
 injection d' with d1 _
 have:its=its':=by simpa using congrArg Array.toList d1
 subst this
 exact r.inj r'
end
abbrev Cx.wish (X:Cx) (E:Value→Shared→Prop):Cx:={ X with xe:=E }
abbrev Cx.nox (X:Cx):Cx:=X.wish fun _ _=>False
theorem Cx.Ok.wish {X:Cx} (ok:X.Ok) (E:Value→Shared→Prop):(X.wish E).Ok :=
 ⟨ok.mod,ok.kind,ok.glob,ok.blt,ok.above,ok.inj,ok.has,ok.cab,ok.hd,ok.frames,ok.stk,ok.exf,ok.bs,ok.bsz,ok.noex,ok.exfs,ok.funs,ok.frf⟩
theorem Cx.Ok.unwish {X:Cx} {E:Value→Shared→Prop} (ok:(X.wish E).Ok):X.Ok :=
 ⟨ok.mod,ok.kind,ok.glob,ok.blt,ok.above,ok.inj,ok.has,ok.cab,ok.hd,ok.frames,ok.stk,ok.exf,ok.bs,ok.bsz,ok.noex,ok.exfs,ok.funs,ok.frf⟩
section
variable {X:Cx} {pins:List (Addr × Obj)} {σ:St} {H:Hp} {s:Shared} {E:Value→Shared→Prop}
theorem Inv.wish (I:Inv X pins σ H s) (E:Value→Shared→Prop):Inv (X.wish E) pins σ H s:=⟨I.ok.wish E,I.os,I.bare,I.base,I.loc,I.cell,I.free,I.freeC,I.pin,I.hok,I.len⟩
theorem Inv.unwish (I:Inv (X.wish E) pins σ H s):Inv X pins σ H s:=⟨I.ok.unwish,I.os,I.bare,I.base,I.loc,I.cell,I.free,I.freeC,I.pin,I.hok,I.len⟩
theorem SP.unwish {D:Ends} {f:Flow} {s':Shared} (h:SP (X.wish E) pins D f s'):SP X pins D f s':=by
 cases f with
 | next=>obtain ⟨σ',H',I,q⟩:=h; exact ⟨σ',H',I.unwish,q⟩
 | brk=>obtain ⟨σ',H',I,q⟩:=h; exact ⟨σ',H',I.unwish,q⟩
 | cont=>obtain ⟨σ',H',I,q⟩:=h; exact ⟨σ',H',I.unwish,q⟩
 | ret u=>obtain ⟨v,σ',H',I,r,q⟩:=h; exact ⟨v,σ',H',I.unwish,r,q⟩
theorem PSs.nox {st:List Stmt} {t:TS} (h:PSs X.nox st t):PSs X st t:=fun pins s σ H D I hw =>
 wpAny_mono (h pins s σ H D (I.wish _) hw) (fun _ _ q=>q.unwish) fun _ _ z=>False.elim z
end
section
variable {X:Cx} {st:Stmt} {rest:List Stmt} {t u:TS} {e:Expr} {te:TE} {pos:Pos}
def tNext:TS:=fun D σ H=>D.nx σ H
def tSeq (t u:TS):TS:=fun D σ H=>t { D with nx:=u D } σ H
theorem pss_nil:PSs X [] tNext:=fun _ _ σ H _ I h=>wpAny_execs_nil ⟨σ,H,I,h⟩
theorem pss_cons (h1:PS X st t) (h2:PSs X rest u):PSs X (st :: rest) (tSeq t u):=by
 intro pins s σ H D I h
 refine wpAny_execs_cons (thn (h1 pins s σ H { D with nx:=u D } I h) fun f s1 q=>?_)
 cases f with
 | next =>
   obtain ⟨σ',H',I',q⟩:=q
   exact h2 pins s1 σ' H' D I' q
 | ret v=>exact q
 | brk=>exact q
 | cont=>exact q
theorem pss_one (h1:PS X st t):PSs X [st] t:=by
 intro pins s σ H D I h
 refine wpAny_execs_cons (thn (h1 pins s σ H D I h) fun f s1 q=>?_)
 cases f with
 | next=>exact wpAny_execs_nil q
 | ret v=>exact q
 | brk=>exact q
 | cont=>exact q
theorem Inv.quiet {pins:List (Addr × Obj)} {σ:St} {H:Hp} {s:Shared} (I:Inv X pins σ H s):interactive X.env=false:=by simp [interactive,I.ok.kind]
def tDrop (te:TE):TS:=fun D σ H=>te σ H fun _ H1=>D.nx σ H1
theorem ps_expr (he:PE X e te) (hs:swapsWith e none pos.line X.env=pure false:=by rfl):PS X (.Expr e pos) (tDrop te):=by
 intro pins s σ H D I h
 exact wpAny_Expr_any (thn (he pins s σ H _ I h) fun v s1 ⟨x,H1,I1,r1,q1⟩=>⟨σ,H1,I1,q1⟩) I.quiet hs
def tRet (te:TE):TS:=fun D σ H=>te σ H D.rt
theorem ps_ret (he:PE X e te):PS X (.Return (some e) pos) (tRet te):=by
 intro pins s σ H D I h
 exact wpAny_Return_some (thn (he pins s σ H _ I h) fun v s1 ⟨x,H1,I1,r1,q1⟩=>⟨x,σ,H1,I1,r1,q1⟩)
def tIfS (c:TT) (t u:TS):TS:=fun D σ H=>c σ H fun b H1=>if b=true then t D σ H1 else u D σ H1
theorem ps_if {c:Expr} {a b:List Stmt} {tc:TT} (hc:PT X c tc) (ha:PSs X a t) (hb:PSs X b u):PS X (.If c a b pos) (tIfS tc t u):=by
 intro pins s σ H D I h
 refine wpAny_If (thn (hc pins s σ H _ I h) fun d s1 ⟨H1,I1,q1⟩=>?_)
 cases d with
 | true=>exact ha pins s1 σ H1 D I1 q1
 | false=>exact hb pins s1 σ H1 D I1 q1
end
abbrev TG:=V→St→Hp→(St→Hp→Prop)→Prop
abbrev TGs:=List V→St→Hp→(St→Hp→Prop)→Prop
def PG (X:Cx) (target:Expr) (t:TG):Prop :=
 ∀ (pins:List (Addr × Obj)) (s:Shared) (σ:St) (H:Hp) (v:V) (u:Value) (Q:St→Hp→Prop),Inv X pins σ H s→RelV v u→t v σ H Q →
  wpAny (model X.prog X.w) X.A (assign target X.env u) (fun _ s'=>∃ σ' H',Inv X pins σ' H' s'∧Q σ' H') X.xe s
def PGs (X:Cx) (ts:List Expr) (t:TGs):Prop :=
 ∀ (pins:List (Addr × Obj)) (s:Shared) (σ:St) (H:Hp) (vs:List V) (us:List Value) (Q:St→Hp→Prop),Inv X pins σ H s→Vals vs us→t vs σ H Q →
  wpAny (model X.prog X.w) X.A (assignInOrder ((assignEach ts X.env).map (·.2)) us) (fun _ s'=>∃ σ' H',Inv X pins σ' H' s'∧Q σ' H') X.xe s
abbrev TSet:=V→V→V→Hp→(Hp→Prop)→Prop
def PSet (X:Cx) (t:TSet):Prop :=
 ∀ (pins:List (Addr × Obj)) (s:Shared) (σ:St) (H:Hp) (o i v:V) (ov iv u:Value) (Q:Hp→Prop),Inv X pins σ H s→RelV o ov→RelV i iv→RelV v u→t o i v H Q →
  wpAny (model X.prog X.w) X.A (setItem ov iv u) (fun _ s'=>∃ H',Inv X pins σ H' s'∧Q H') X.xe s
abbrev TIp:=V→V→Hp→VK→Prop
def PIp (X:Cx) (op:Operator) (t:TIp):Prop :=
 ∀ (pins:List (Addr × Obj)) (s:Shared) (σ:St) (H:Hp) (x y:V) (v u:Value) (Q:VK),Inv X pins σ H s→RelV x v→RelV y u→t x y H Q →
  wpAny (model X.prog X.w) X.A (inplaceOp op v u) (EP X pins σ Q) X.xe s
section
variable {X:Cx} {pos:Pos}
def gName (i:Nat):TG:=fun v σ H Q=>Q (σ.set i (some v)) H
theorem pg_name {i:Nat} {x:Str} (hN:X.N.Nodup) (hi:X.N[i]?=some x:=by rfl) (hx:Loc X.env.scope x:=by first | exact .inl rfl | exact .inr rfl) (hf:X.fn x=true∨X.env.scope.names.lookup x=some .local:=by first | exact .inl rfl | exact .inr rfl | assumption):PG X (.Name x pos) (gName i):=by
 intro pins s σ H v u Q I r h
 exact wpAny_assign_Name (store_ok I hN hi hx r (fun s' I'=>⟨_,H,I',h⟩) hf)
def gNil:TGs:=fun vs σ H Q=>vs=[]∧Q σ H
def gCons (t:TG) (u:TGs):TGs:=fun vs σ H Q=>∃ v r,vs=v :: r∧t v σ H fun σ' H'=>u r σ' H' Q
theorem pgs_nil:PGs X [] gNil:=by
 intro pins s σ H vs us Q I r h
 obtain ⟨e,h⟩:=h
 subst e
 cases r
 exact assignInOrder_nil ⟨σ,H,I,h⟩
theorem pgs_cons {e:Expr} {es:List Expr} {t:TG} {u:TGs} (h1:PG X e t) (h2:PGs X es u)
 (hs:(assignEach (e :: es) X.env).map (·.2)=assign e X.env :: (assignEach es X.env).map (·.2):=by rfl):PGs X (e :: es) (gCons t u):=by
 intro pins s σ H vs us Q I r h
 obtain ⟨v,vr,e1,h⟩:=h
 subst e1
 cases r with
 | cons r rr =>
   rw [hs]
   refine assignInOrder_cons (thn (h1 pins s σ H _ _ _ I r h) fun _ s1 ⟨σ1,H1,I1,q1⟩=>?_)
   exact h2 pins s1 σ1 H1 _ _ Q I1 rr q1
def gTup (K:PySem.W.Frag) (n:Nat) (t:TGs):TG:=fun v σ H Q=>∃ a xs,v=.ref a∧SqT K H a xs∧xs.length=n∧t xs σ H Q
theorem pg_tup {es:List Expr} {k:Nat} {t:TGs} {n:Nat} (hc:X.calm=true) (h:PGs X es t)
 (hn:(assignEach es X.env).length=n:=by rfl) (hst:(assignEach es X.env).findIdx? (·.1)=none:=by rfl):PG X (.Tuple es k pos) (gTup X.K n t):=by
 intro pins s σ H v u Q I r hw
 obtain ⟨a,xs,e1,hq,hl,hw⟩:=hw
 subst e1
 cases r
 obtain ⟨its,rv,ht,hz⟩:=I.tuple hq
 refine assign_Tuple_tuple (I.ok.hd hc) ht (by simp [hn,←hl,rv.length]) hst fun h' hx=>?_
 have I1:Inv X pins σ H { s with heap:=h' }:=I.kept (t':=s.toks) fun b o e=>hx b o (Nat.ne_of_lt (Heap.lt_size e)) e
 exact h pins _ σ H xs _ Q I1 (by simpa using rv) hw
def gSub (to ti:TE) (t:TSet):TG:=fun v σ H Q=>to σ H fun o H1=>ti σ H1 fun i H2=>t o i v H2 fun H3=>Q σ H3
theorem pg_sub {o i:Expr} {to ti:TE} {t:TSet} (ho:PE X o to) (hi:PE X i ti) (hs:PSet X t)
 (ha:∀ v,assign (.Subscript o i pos) X.env v=(do
  let ov ←holding [v] (eval o X.env)
  let iv ←holding [v,ov] (eval i X.env)
  standAt pos
  holding [v,ov,iv] (setItem ov iv v)
  release [v,ov,iv] []):=by intro _; rfl):PG X (.Subscript o i pos) (gSub to ti t):=by
 intro pins s σ H v u Q I r h
 rw [ha]
 refine wpAny_bind (wpAny_holding (thn (ho pins s σ H _ I h) fun ov s1 ⟨x,H1,I1,r1,q1⟩=>?_))
 refine wpAny_bind (wpAny_holding (thn (hi pins s1 σ H1 _ I1 q1) fun iv s2 ⟨y,H2,I2,r2,q2⟩=>?_))
 refine wpAny_bind (wpAny_standAt (wpAny_bind (wpAny_holding (thn (hs pins s2 σ H2 x y v ov iv u _ I2 r1 r2 r q2) fun _ s3 ⟨H3,I3,q3⟩=>?_))))
 exact wpAny_release ⟨σ,H3,I3,q3⟩
def tAsg (te:TE) (g:TG):TS:=fun D σ H=>te σ H fun x H1=>g x σ H1 D.nx
theorem ps_asg {tg e:Expr} {te:TE} {g:TG} (he:PE X e te) (hg:PG X tg g) (hs:swapsWithSole [tg] e pos.line X.env=pure false:=by rfl) (hw:swappedStores [tg] e X.env=pure none:=by rfl)
 (h1:(assignEach [tg] X.env).map (·.2)=[assign tg X.env]:=by rfl):PS X (.Assign [tg] e pos) (tAsg te g):=by
 intro pins s σ H D I h
 refine wpAny_Assign_stores (thn (he pins s σ H _ I h) fun v s1 ⟨x,H1,I1,r1,q1⟩=>?_) hs hw
 rw [h1]
 exact thn (hg pins s1 σ H1 x v _ I1 r1 q1) fun _ s2 q=>q
theorem ps_set {i:Nat} {x:Str} {e:Expr} {te:TE} {pos':Pos} (hN:X.N.Nodup) (he:PE X e te) (hi:X.N[i]?=some x:=by rfl) (hx:Loc X.env.scope x:=by first | exact .inl rfl | exact .inr rfl) (hs:swapsWith e (some (.Name x pos')) pos.line X.env=pure false:=by rfl) (hf:X.fn x=true∨X.env.scope.names.lookup x=some .local:=by first | exact .inl rfl | exact .inr rfl | assumption) :
 PS X (.Assign [.Name x pos'] e pos) (tAsg te (gName i)):=by
 intro pins s σ H D I h
 refine wpAny_Assign_Name (thn (he pins s σ H _ I h) fun v s1 ⟨y,H1,I1,r1,q1⟩=>?_) hs
 exact store_ok I1 hN hi hx r1 (fun s2 I2=>⟨_,H1,I2,q1⟩) hf
def tAug (i:Nat) (te:TE) (ti:TIp):TS:=fun D σ H=>∃ x,σ[i]?=some (some x)∧te σ H fun y H1=>ti x y H1 fun z H2=>D.nx (σ.set i (some z)) H2
theorem ps_aug {i:Nat} {x:Str} {e:Expr} {te:TE} {op:Operator} {ti:TIp} {pos':Pos} (hN:X.N.Nodup) (hi:X.N[i]?=some x) (hx:Loc X.env.scope x) (he:PE X e te) (ho:PIp X op ti) (hf:X.fn x=true∨X.env.scope.names.lookup x=some .local:=by first | exact .inl rfl | exact .inr rfl | assumption) :
 PS X (.AugAssign (.Name x pos') op e pos) (tAug i te ti):=by
 intro pins s σ H D I h
 obtain ⟨v,e1,h⟩:=h
 obtain ⟨m,hn,hl⟩:=I.loc
 have vis:Vis X.env.scope x:=by rcases hx with k | k; exact .inl k; exact .inr (.inl k)
 obtain ⟨u,r,l⟩:=hl i x v hi e1 vis
 refine wpAny_AugAssign_Name ?_
 have go:wpAny (model X.prog X.w) X.A (eval e X.env) (fun w s₂=>wpAny (model X.prog X.w) X.A (inplaceOp op u w) (fun r s₃=>wpAny (model X.prog X.w) X.A (storeName X.env x r) (fun _=>SP X pins D .next) X.xe s₃) X.xe s₂) X.xe s:=by
  refine thn (he pins s σ H _ I h) fun w s1 ⟨y,H1,I1,r1,q1⟩=>?_
  refine thn (ho pins s1 σ H1 v y u w _ I1 r r1 q1) fun z s2 ⟨zv,H2,I2,r2,q2⟩=>?_
  exact store_ok I2 hN hi hx r2 (fun s3 I3=>⟨_,H2,I3,q2⟩) hf
 rcases l with ⟨hk,hm⟩ | ⟨hk,c,hc,hcell⟩
 · exact wpAny_loadName_local I.ok.kind hk hn hm go
 · rcases hk with hk | hk
   · exact wpAny_loadName_cell I.ok.kind hk hc hcell go
   · rcases hx with k | k
     · have:X.env.scope.names.lookup x=some .free:=hk
       rw [k] at this; cases this
     · have:X.env.scope.names.lookup x=some .free:=hk
       rw [k] at this; cases this
end
section
variable {X:Cx} {pos:Pos}
def tWhile (c:TT) (tb:TS):TS:=fun D σ H=>∃ W:Nat→St→Hp→Prop,(∃ m,W m σ H)∧∀ m σ H,W m σ H →
 c σ H fun b H1=>if b=true then ∃ N:St→Hp→Prop,(∀ σ' H',N σ' H'→∃ m',m' < m∧W m' σ' H')∧tb { D with nx:=N,ct:=N,bk:=D.nx } σ H1 else D.nx σ H1
theorem ps_while {c:Expr} {body:List Stmt} {tc:TT} {tb:TS} (hp:PassesOwn (model X.prog X.w) X.A X.env X.xe) (hc:PT X c tc) (hb:PSs X body tb):PS X (.While c body [] pos) (tWhile tc tb):=by
 intro pins s σ H D I h
 obtain ⟨W,⟨m0,w0⟩,turn⟩:=h
 refine wpAny_While (codeAny_whileLoop (fun n s'=>∃ σ' H',Inv X pins σ' H' s'∧W n σ' H') ?_ m0 ⟨σ,H,I,w0⟩)
 rintro n s1 ⟨σ1,H1,I1,w1⟩
 refine wpAny_passesOwn hp (thn (hc pins s1 σ1 H1 _ I1 (turn n σ1 H1 w1)) fun b s2 ⟨H2,I2,q2⟩=>?_)
 cases b with
 | true =>
   obtain ⟨N,hN,q2⟩:=q2
   rw [if_pos rfl]
   refine wpAny_passesOwn hp (thn (hb pins s2 σ1 H2 _ I2 q2) fun f s3 q3=>?_)
   cases f with
   | next =>
     obtain ⟨σ3,H3,I3,n3⟩:=q3
     obtain ⟨m',hm,w3⟩:=hN σ3 H3 n3
     exact ⟨m',hm,σ3,H3,I3,w3⟩
   | cont =>
     obtain ⟨σ3,H3,I3,n3⟩:=q3
     obtain ⟨m',hm,w3⟩:=hN σ3 H3 n3
     exact ⟨m',hm,σ3,H3,I3,w3⟩
   | brk=>exact q3
   | ret v=>exact q3
 | false =>
   rw [if_neg Bool.false_ne_true]
   exact wpAny_execs_nil ⟨σ1,H2,I2,q2⟩
end
structure It where
 go:Nat→Hp→Prop
 yld:Nat→Hp→V→Hp→Prop
 stop:Nat→Hp→Prop
def FpOk (X:Cx) (pins:List (Addr × Obj)) (H:Hp) (b:Addr):Prop :=
 H b=none∧b≠X.env.locals∧b ∉ X.fs∧(b∈X.ex∨X.s₀.heap.objs.size≤b)∧(∀ x c,X.env.cells.lookup x=some c→c≠b)∧∀ p∈X.pn++pins,p.1≠b
theorem Inv.fpOk {X:Cx} {pins:List (Addr × Obj)} {σ:St} {H H':Hp} {s:Shared} {b:Addr} (I:Inv X pins σ H s) (hb:s.heap.objs.size≤b) (hn:H' b=none):FpOk X pins H' b:=by
 refine ⟨hn,Nat.ne_of_gt (Nat.lt_of_lt_of_le I.lt hb),I.nofs hb,.inr (Nat.le_trans I.sz hb),fun x c e z=>?_,fun p hp z=>?_⟩
 · obtain ⟨v,q⟩:=I.cell x c e
   exact absurd (Nat.lt_of_lt_of_le q.lt (by rw [z]; exact hb)) (Nat.lt_irrefl _)
 · exact absurd (Nat.lt_of_lt_of_le (Heap.lt_size (I.pin p hp).1) (by rw [z]; exact hb)) (Nat.lt_irrefl _)
structure Turn (P:Program) (w:World) (K:PySem.W.Frag) (tg:Expr) (J:It) (fp:List Addr) (it:Addr) (tn:Nat→Heap→Prop):Prop where
 mem:it∈fp
 obj:∀ i h,tn i h→∀ b∈fp,∃ o,h.get? b=some o∧∀ v,o.data≠.cell v
 keep:∀ i h h',tn i h→(∀ b∈fp,∀ o,h.get? b=some o→h'.get? b=some o)→tn i h'
 item:∀ (X:Cx),X.prog=P→X.w=w→X.K=K→X.calm=true→∀ (i:Nat) (pins:List (Addr × Obj)) (s:Shared) (σ:St) (H:Hp) (E:Value→Shared→Prop),Inv X pins σ H s→(∀ b∈fp,FpOk X pins H b)→tn i s.heap→J.go i H →
  wpAny (model P w) X.A (pyNext (.ref it)) (fun r s1=>∃ u,r=some u ∧
   wpAny (model P w) X.A (letOwnedTupleGo tg (.ref it) u) (fun _ s2=>∃ x H',Inv X pins σ H' s2∧RelV x u∧J.yld i H x H'∧tn (i + 1) s2.heap∧∀ b∈fp,H' b=none) E s1) E s
 done:∀ (X:Cx),X.prog=P→X.w=w→X.K=K→X.calm=true→∀ (i:Nat) (pins:List (Addr × Obj)) (s:Shared) (σ:St) (H:Hp) (E:Value→Shared→Prop),Inv X pins σ H s→(∀ b∈fp,FpOk X pins H b)→tn i s.heap→J.stop i H →
  wpAny (model P w) X.A (pyNext (.ref it)) (fun r s1=>r=none∧Inv X pins σ H s1) E s
 self:∀ (A:Around) (i:Nat) (s:Shared) (Q:Value→Shared→Prop) (E:Value→Shared→Prop),tn i s.heap→Q (.ref it) s→wpAny (model P w) A (pyIter (.ref it)) Q E s
abbrev TI:=St→Hp→(It→Hp→Prop)→Prop
def PIE (X:Cx) (pins:List (Addr × Obj)) (σ:St) (tg:Expr) (R:It→Hp→Prop) (itv:Value) (s2:Shared):Prop :=
 ∃ (it:Addr) (fp:List Addr) (tn:Nat→Heap→Prop) (J:It) (H':Hp),itv=.ref it∧Inv X pins σ H' s2∧Turn X.prog X.w X.K tg J fp it tn∧tn 0 s2.heap∧(∀ b∈fp,FpOk X pins H' b)∧R J H'
def PI (X:Cx) (tg iter:Expr) (wi:TI):Prop :=
 ∀ (pins:List (Addr × Obj)) (s:Shared) (σ:St) (H:Hp) (R:It→Hp→Prop),Inv X pins σ H s→wi σ H R →
  wpAny (model X.prog X.w) X.A (eval iter X.env) (fun v s1=>wpAny (model X.prog X.w) X.A (pyIter v) (PIE X pins σ tg R) X.xe s1) X.xe s
theorem go_of {M:Model} {A:Around} {E:Value→Shared→Prop} {s:Shared} {tg:Expr} {it:Addr} {u:Value} {o:Obj} {n:String} {vs:Array Value} {Q:Unit→Shared→Prop} (ho:s.heap.get? it=some o) (hc:o.cls=.type n) (hd:o.data=.fields vs)
 (hn:["enumerate", "zip", "dict_itemiterator", "dict_reverseitemiterator", "odict_iterator", "itertools.zip_longest", "itertools.pairwise"].contains n=false) (hQ:Q () s):wpAny M A (letOwnedTupleGo tg (.ref it) u) Q E s:=by
 unfold letOwnedTupleGo
 cases tg <;> first
  | exact wpAny_pure hQ
  | (cases u <;> first
   | exact wpAny_pure hQ
   | (refine wpAny_bind (wpAny_load ho ?_)
      rw [hc,hd]
      show wpAny M A (if (["enumerate", "zip", "dict_itemiterator", "dict_reverseitemiterator", "odict_iterator", "itertools.zip_longest", "itertools.pairwise"].contains n && vs[0]? == some (rawInt _))=true then _ else _) Q E s
      rw [if_neg (by intro h; rw [hn,Bool.false_and] at h; cases h)]
      exact wpAny_pure hQ))
def Itl (K:PySem.W.Frag) (a:Addr):It :=
 ⟨fun i H=>∃ xs x,SqL K H a xs∧xs[i]?=some x,fun i H x H'=>H'=H∧∀ xs,SqL K H a xs→xs[i]?=some x,fun i H=>∃ xs,SqL K H a xs∧xs.length≤i⟩
def Itr (lo:Int) (n:Nat):It:=⟨fun i _=>i < n,fun i H x H'=>H'=H∧x=.int (lo + i),fun i _=>n≤i⟩
theorem turn_list {P:Program} {w:World} {K:PySem.W.Frag} {tg:Expr} (a it:Addr):Turn P w K tg (Itl K a) [it] it (fun i h=>h.IsListIter it a i) where
 mem:=by simp
 obj:=fun i h st b hb=>by
  have e:b=it:=by simpa using hb
  subst e
  obtain ⟨o,e,c,d⟩:=st
  exact ⟨o,e,fun v z=>by rw [d] at z; cases z⟩
 keep:=fun i h h' st k=>st.at fun o e=>k it (by simp) o e
 item:=by
  intro X hP hw hK hc i pins s σ H E I hf st hg
  subst hP hw hK
  obtain ⟨xs,x,hq,hx⟩:=hg
  obtain ⟨its,rv,p,hz⟩:=I.list hq
  obtain ⟨u,hu,ru⟩:=rv.get hx
  obtain ⟨f0,f1,f2,f3,f4,f5⟩:=hf it (by simp)
  refine wpAny_pyNext_list_item st p.isList (x:=u) (by simpa using hu) fun h' st' sb=>?_
  have I1:Inv X pins σ H { s with heap:=h' }:=I.turned (t':=s.toks) (fun b o hb e=>(sb.2 b hb).trans e) f0 f1 f3 f4 f5
  obtain ⟨o,e,c,d⟩:=id st'
  exact ⟨u,rfl,go_of (s:={ s with heap:=h' }) e c d (by decide) ⟨x,H,I1,ru,⟨rfl,fun ys hy=>by rw [I.list_inj hy hq]; exact hx⟩,st',fun b hb=>(hf b hb).1⟩⟩
 done:=by
  intro X hP hw hK hc i pins s σ H E I hf st hg
  subst hP hw hK
  obtain ⟨xs,hq,hx⟩:=hg
  obtain ⟨its,rv,p,hz⟩:=I.list hq
  obtain ⟨f0,f1,f2,f3,f4,f5⟩:=hf it (by simp)
  have hl:=rv.length
  exact wpAny_pyNext_list_end (I.ok.hd hc) st p.isList (by simp; omega) fun h' eb=>⟨rfl,I.turned (t':=s.toks) (fun b o hb e=>eb b o hb e) f0 f1 f3 f4 f5⟩
 self:=fun _ _ _ _ _ st h=>wpAny_pyIter_listiter st h
theorem turn_range {P:Program} {w:World} {K:PySem.W.Frag} {tg:Expr} (it:Addr) (lo:Int) (n:Nat):Turn P w K tg (Itr lo n) [it] it (fun i h=>IsRangeIter h it (lo + (i:Nat) * 1) ((n:Int) - (i:Nat)) 1) where
 mem:=by simp
 obj:=fun i h st b hb=>by
  have e:b=it:=by simpa using hb
  subst e
  exact ⟨_,st,fun v z=>by
   have z':Data.fields _=Data.cell v:=z
   cases z'⟩
 keep:=fun i h h' st k=>k it (by simp) _ st
 item:=by
  intro X hP hw hK hc i pins s σ H E I hf st hg
  subst hP hw hK
  obtain ⟨f0,f1,f2,f3,f4,f5⟩:=hf it (by simp)
  have W:=Walks.range (prog:=X.prog) (w:=X.w) (I.ok.hd hc) it lo 1 n
  refine W.item i s _ _ hg st fun v h' tk hv st' kk=>?_
  obtain ⟨t,rfl⟩:=hv
  have I1:Inv X pins σ H { s with heap:=h',toks:=tk }:=I.turned (fun b o hb e=>kk b o (by simpa using hb) e) f0 f1 f3 f4 f5
  refine ⟨_,rfl,go_of (s:={ s with heap:=h',toks:=tk }) (n := "range_iterator") st' rfl rfl (by decide) ⟨.int (lo + i),H,I1,⟨t,?_⟩,⟨rfl,rfl⟩,st',fun b hb=>(hf b hb).1⟩⟩
  rw [Int.mul_one]
 done:=by
  intro X hP hw hK hc i pins s σ H E I hf st hg
  subst hP hw hK
  obtain ⟨f0,f1,f2,f3,f4,f5⟩:=hf it (by simp)
  exact wpAny_pyNext_range_end (I.ok.hd hc) st (by have:n≤i:=hg; omega) fun h' eb=>⟨rfl,I.turned (t':=s.toks) (fun b o hb e=>eb b o hb e) f0 f1 f3 f4 f5⟩
 self:=fun _ _ _ _ _ st h=>wpAny_pyIter_rangeiter st h
end L2
namespace L2
open PySem PySem.Spec PyProof.Rows
section
variable {X:Cx} {tg:Expr}
def iList (K:PySem.W.Frag) (tl:TE):TI:=fun σ H R=>tl σ H fun x H1=>∃ a,x=.ref a∧(∃ xs,SqL K H1 a xs)∧R (Itl K a) H1
theorem pi_list {l:Expr} {tl:TE} (hl:PE X l tl):PI X tg l (iList X.K tl):=by
 intro pins s σ H R I h
 refine thn (hl pins s σ H _ I h) fun v s1 ⟨x,H1,I1,r1,q1⟩=>?_
 obtain ⟨a,e,⟨xs,hq⟩,q⟩:=q1
 subst e
 cases r1
 obtain ⟨its,rv,p,hz⟩:=I1.list hq
 refine wpAny_pyIter_list p.isList ?_
 refine ⟨s1.heap.objs.size,[s1.heap.objs.size],_,_,H1,rfl,I1.kept (t':=s1.toks) fun b o e=>Heap.get?_push_of_some _ e,turn_list a _,⟨_,Heap.get?_push_size _ rfl,rfl,rfl⟩,fun b hb=>?_,q⟩
 have e:b=s1.heap.objs.size:=by simpa using hb
 subst e
 exact I1.fpOk (Nat.le_refl _) (I1.hok.fresh (Nat.le_refl _))
theorem range_it {pins:List (Addr × Obj)} {σ:St} {H:Hp} {s:Shared} {R:It→Hp→Prop} {E:Value→Shared→Prop} {lo hi:Int} {t u v:Tok} {tk:Nat} (I:Inv X pins σ H s) (h1:-(2 ^ 62)≤lo) (h2:lo < 2 ^ 62) (h3:-(2 ^ 62)≤hi) (h4:hi < 2 ^ 62)
 (q:R (Itr lo (hi - lo).toNat) H):wpAny (model X.prog X.w) X.A (pyIter (.ref s.heap.objs.size)) (PIE X pins σ tg R) E { s with heap:=s.heap.push { cls:=.type "range",data:=.fields #[.int lo t,.int hi u,.int 1 v] },toks:=tk }:=by
 refine wpAny_pyIter_range (IsRange.new ..) (small_one h1 h2 h3 h4) ?_
 have I1:Inv X pins σ H { s with heap:=s.heap.push { cls:=.type "range",data:=.fields #[.int lo t,.int hi u,.int 1 v] },toks:=tk }:=I.kept fun b o e=>Heap.get?_push_of_some _ e
 refine ⟨(s.heap.push { cls:=.type "range",data:=.fields #[.int lo t,.int hi u,.int 1 v] }).objs.size,[(s.heap.push { cls:=.type "range",data:=.fields #[.int lo t,.int hi u,.int 1 v] }).objs.size],_,_,H,rfl,
  I1.kept (t':=tk) fun b o e=>Heap.get?_push_of_some _ e,turn_range _ lo (hi - lo).toNat,?_,fun b hb=>?_,q⟩
 · have e1:lo + ((0:Nat):Int) * 1=lo:=by simp
   have e2:(((hi - lo).toNat:Nat):Int) - ((0:Nat):Int)=Builtin.Range.rangeSize lo hi 1:=by rw [rangeSize_one]; split <;> omega
   show IsRangeIter _ _ (lo + ((0:Nat):Int) * 1) ((((hi - lo).toNat:Nat):Int) - ((0:Nat):Int)) 1
   rw [e1,e2]
   exact Heap.get?_push_size _ rfl
 · have e:b=(s.heap.push { cls:=.type "range",data:=.fields #[.int lo t,.int hi u,.int 1 v] }).objs.size:=by simpa using hb
   subst e
   exact I1.fpOk (Nat.le_refl _) (I1.hok.fresh (Nat.le_refl _))
def iRng1 (ta:TA):TI:=fun σ H R=>ta σ H fun vs H1=>∃ j:Int,vs=[.int j]∧-(2 ^ 62)≤j∧j < 2 ^ 62∧R (Itr 0 j.toNat) H1
theorem pi_range1 {a:Expr} {ta:TA} {p pos:Pos} (hg:Gl X "range") (hm:X.mg "range" = none) (ha:PA X [a] ta) (hs:starEach [a] X.env=[(false,eval a X.env)]:=by rfl):PI X tg (.Call (.Name "range" p) [a] [] pos) (iRng1 ta):=by
 intro pins s σ H R I h
 refine Call_ (ld_blt I hg hm boot_range (PyProof.Rows.callWith_type1 (thn (ha pos pins s σ H _ I h) fun us s1 ⟨vs,H1,I1,r1,q1⟩=>?_) hs rfl))
 obtain ⟨j,e,q1,q2,q⟩:=q1
 subst e
 cases r1 with
 | cons r rr =>
   cases rr
   obtain ⟨t,rfl⟩:=r
   exact call_range_1 (range_it I1 (by omega) (by omega) q1 q2 (by simpa using q))
def Loop (J:It) (g:TG) (tb:TS) (D:Ends) (σ:St) (H1:Hp):Prop:=∃ W:Nat→Nat→St→Hp→Prop,(∃ m,W 0 m σ H1)∧∀ i m σ H,W i m σ H →
 (J.stop i H∧D.nx σ H)∨(J.go i H∧∃ N:St→Hp→Prop,(∀ σ' H',N σ' H'→∃ m',m' < m∧W (i + 1) m' σ' H')∧∀ x H',J.yld i H x H'→g x σ H' fun σ2 H2=>tb { D with nx:=N,ct:=N,bk:=D.nx } σ2 H2)
def tFor (wi:TI) (g:TG) (tb:TS):TS:=fun D σ H=>wi σ H fun J H1=>Loop J g tb D σ H1
def pinsAt (fp:List Addr) (h:Heap):List (Addr × Obj):=fp.filterMap fun b=>(h.get? b).map fun o=>(b,o)
theorem mem_pinsAt {fp:List Addr} {h:Heap} {b:Addr} {o:Obj} (hb:b∈fp) (e:h.get? b=some o):(b,o)∈pinsAt fp h:=List.mem_filterMap.mpr ⟨b,hb,by rw [e]; rfl⟩
theorem of_pinsAt {fp:List Addr} {h:Heap} {p:Addr × Obj} (hp:p∈pinsAt fp h):p.1∈fp∧h.get? p.1=some p.2:=by
 obtain ⟨b,hb,e⟩:=List.mem_filterMap.mp hp
 cases q:h.get? b with
 | none=>rw [q] at e; cases e
 | some o =>
   rw [q] at e
   have e':(b,o)=p:=Option.some.inj e
   subst e'
   exact ⟨hb,q⟩
theorem Inv.pinned {pins:List (Addr × Obj)} {σ:St} {H:Hp} {s:Shared} {fp:List Addr} (I:Inv X pins σ H s) (hf:∀ b∈fp,FpOk X pins H b) (ho:∀ b∈fp,∃ o,s.heap.get? b=some o∧∀ v,o.data≠.cell v):Inv X (pins++pinsAt fp s.heap) σ H s :=
 I.pins_of fun p hp=>(List.mem_append.mp hp).elim (fun z=>I.pin p (List.mem_append_right _ z)) fun z=>by
  obtain ⟨hb,e⟩:=of_pinsAt z
  obtain ⟨f0,f1,f2,_⟩:=hf p.1 hb
  obtain ⟨o,e',d⟩:=ho p.1 hb
  rw [e] at e'; cases e'
  exact ⟨e,f0,f1,f2,d⟩
theorem Inv.unpinned {pins pl:List (Addr × Obj)} {σ:St} {H:Hp} {s:Shared} (I:Inv X (pins++pl) σ H s):Inv X pins σ H s:=I.pins_of fun p hp=>I.pin p (List.mem_append_right _ (List.mem_append_left _ hp))
theorem ps_for {iter:Expr} {body:List Stmt} {wi:TI} {g:TG} {tb:TS} {pos:Pos} (hp:PassesOwn (model X.prog X.w) X.A X.env X.xe) (hc:X.calm=true) (hi:PI X tg iter wi) (hg:PG X tg g) (hb:PSs X body tb)
 (hs:∀ x,foldedSetIterable iter X.env x=pure x:=by intro _; rfl):PS X (.For tg iter body [] pos) (tFor wi g tb):=by
 intro pins s σ H D I h
 refine wpAny_For (thn (hi pins s σ H _ I h) fun v s1 h1=>thn h1 fun itv s2 h2=>?_) hs
 obtain ⟨it,fp,tn,J,H2,e,I2,T,st2,f2,W,⟨m0,w0⟩,turn⟩:=h2
 subst e
 have stat:∀ {H':Hp},(∀ b∈fp,H' b=none)→∀ b∈fp,FpOk X pins H' b:=fun hn b hb=>⟨hn b hb,(f2 b hb).2⟩
 refine codeAny_forLoop_any (fun n s'=>∃ i σ' H',Inv X pins σ' H' s'∧tn i s'.heap∧(∀ b∈fp,H' b=none)∧W i n σ' H') ?_ m0 ⟨0,σ,H2,I2,st2,fun b hb=>(f2 b hb).1,w0⟩
 rintro n s3 ⟨i,σ3,H3,I3,st3,fr3,w3⟩
 rcases turn i n σ3 H3 w3 with ⟨stop,qn⟩ | ⟨go,N,hN,step⟩
 · refine wpAny_passesOwn hp (thn (T.done X rfl rfl rfl hc i pins s3 σ3 H3 X.xe I3 (stat fr3) st3 stop) fun r s4 ⟨hr,I4⟩=>?_)
   subst hr
   exact wpAny_execs_nil ⟨σ3,H3,I4,qn⟩
 · refine wpAny_passesOwn hp (thn (T.item X rfl rfl rfl hc i pins s3 σ3 H3 X.xe I3 (stat fr3) st3 go) fun r s4 ⟨u,hr,h4⟩=>?_)
   subst hr
   refine wpAny_passesOwn hp (thn h4 fun _ s5 ⟨x,H5,I5,r5,y5,st5,fr5⟩=>?_)
   have I5':=I5.pinned (stat fr5) (T.obj _ _ st5)
   refine wpAny_passesOwn hp (thn (hg _ s5 σ3 H5 x u _ I5' r5 (step x H5 y5)) fun _ s6 ⟨σ6,H6,I6,q6⟩=>?_)
   refine wpAny_passesOwn hp (thn (hb _ s6 σ6 H6 _ I6 q6) fun f s7 q7=>?_)
   have again:∀ {σ7:St} {H7:Hp},Inv X (pins++pinsAt fp s5.heap) σ7 H7 s7→N σ7 H7→∃ m,m < n∧∃ i σ' H',Inv X pins σ' H' s7∧tn i s7.heap∧(∀ b∈fp,H' b=none)∧W i m σ' H':=fun {σ7 H7} I7 n7=>by
    obtain ⟨m',hm,w7⟩:=hN σ7 H7 n7
    refine ⟨m',hm,i + 1,σ7,H7,I7.unpinned,T.keep _ _ _ st5 fun b hb o e=>(I7.pin (b,o) (List.mem_append_right _ (List.mem_append_right _ (mem_pinsAt hb e)))).1,fun b hb=>?_,w7⟩
    obtain ⟨o,e,d⟩:=T.obj _ _ st5 b hb
    exact (I7.pin (b,o) (List.mem_append_right _ (List.mem_append_right _ (mem_pinsAt hb e)))).2.1
   cases f with
   | next=>obtain ⟨σ7,H7,I7,n7⟩:=q7; exact again I7 n7
   | cont=>obtain ⟨σ7,H7,I7,n7⟩:=q7; exact again I7 n7
   | brk=>obtain ⟨σ7,H7,I7,q7⟩:=q7; exact ⟨σ7,H7,I7.unpinned,q7⟩
   | ret v=>obtain ⟨x7,σ7,H7,I7,r7,q7⟩:=q7; exact ⟨x7,σ7,H7,I7.unpinned,r7,q7⟩
end
theorem for_turns {J:It} {g:TG} {tb:TS} {D:Ends} {σ:St} {H:Hp} (n:Nat) (Pv:Nat→St→Hp→Prop) (h0:Pv 0 σ H) (go:∀ i σ H,Pv i σ H→i < n→J.go i H) (stop:∀ σ H,Pv n σ H→J.stop n H)
 (hs:∀ i v σ H H',Pv i σ H→i < n→J.yld i H v H'→g v σ H' fun σ2 H2=>tb { D with nx:=Pv (i + 1),ct:=Pv (i + 1),bk:=D.nx } σ2 H2) (hd:∀ σ H,Pv n σ H→D.nx σ H):Loop J g tb D σ H:=by
 unfold Loop
 refine ⟨fun i m σ H=>m=n - i∧i≤n∧Pv i σ H,⟨_,rfl,Nat.zero_le _,h0⟩,?_⟩
 rintro i m σ H ⟨rfl,hi,p⟩
 by_cases hlt:i < n
 · exact .inr ⟨go i σ H p hlt,Pv (i + 1),fun σ' H' p'=>⟨n - (i + 1),by omega,rfl,hlt,p'⟩,fun v H' y=>hs i v σ H H' p hlt y⟩
 · obtain rfl:i=n:=by omega
   exact .inl ⟨stop σ H p,hd σ H p⟩
theorem for_list {K:PySem.W.Frag} {a:Addr} {xs:List V} {g:TG} {tb:TS} {D:Ends} {σ:St} {H:Hp} (Pv:Nat→St→Hp→Prop) (h0:Pv 0 σ H) (hl:∀ i σ H,i≤xs.length→Pv i σ H→SqL K H a xs)
 (hs:∀ i x σ H,xs[i]?=some x→Pv i σ H→g x σ H fun σ2 H2=>tb { D with nx:=Pv (i + 1),ct:=Pv (i + 1),bk:=D.nx } σ2 H2) (hd:∀ σ H,Pv xs.length σ H→D.nx σ H):Loop (Itl K a) g tb D σ H:=for_turns xs.length Pv h0 (fun i σ H p hi=>⟨xs,xs[i],hl i σ H (Nat.le_of_lt hi) p,by simp [hi]⟩) (fun σ H p=>⟨xs,hl _ σ H (Nat.le_refl _) p,Nat.le_refl _⟩) (fun i v σ H H' p hi y=>by obtain ⟨rfl,y⟩:=y; exact hs i v σ _ (y xs (hl i σ _ (Nat.le_of_lt hi) p)) p) hd
theorem for_range {lo:Int} {n:Nat} {g:TG} {tb:TS} {D:Ends} {σ:St} {H:Hp} (Pv:Nat→St→Hp→Prop) (h0:Pv 0 σ H)
 (hs:∀ i σ H,i < n→Pv i σ H→g (.int (lo + i)) σ H fun σ2 H2=>tb { D with nx:=Pv (i + 1),ct:=Pv (i + 1),bk:=D.nx } σ2 H2) (hd:∀ σ H,Pv n σ H→D.nx σ H):Loop (Itr lo n) g tb D σ H:=for_turns n Pv h0 (fun i σ H p hi=>hi) (fun σ H p=>Nat.le_refl _) (fun i v σ H H' p hi y=>by obtain ⟨rfl,rfl⟩:=y; exact hs i σ _ hi p) hd
end L2
namespace L2
open PySem PySem.Spec PyProof.Rows
abbrev R2:=V→V→Hp→VK→Prop
def OpR (X:Cx) (f:Value→Value→Sem Value) (r:R2):Prop :=
 ∀ (pins:List (Addr × Obj)) (s:Shared) (σ:St) (H:Hp) (x y:V) (v u:Value) (Q:VK),Inv X pins σ H s→RelV x v→RelV y u→r x y H Q →
  wpAny (model X.prog X.w) X.A (f v u) (EP X pins σ Q) X.xe s
def UnR (X:Cx) (f:Value→Sem Value) (r:V→Hp→VK→Prop):Prop :=
 ∀ (pins:List (Addr × Obj)) (s:Shared) (σ:St) (H:Hp) (x:V) (v:Value) (Q:VK),Inv X pins σ H s→RelV x v→r x H Q →
  wpAny (model X.prog X.w) X.A (f v) (EP X pins σ Q) X.xe s
def CallR (X:Cx) (f:Value) (r:List V→Hp→VK→Prop):Prop :=
 ∀ (pins:List (Addr × Obj)) (s:Shared) (σ:St) (H:Hp) (xs:List V) (us:List Value) (Q:VK),Inv X pins σ H s→Vals xs us→r xs H Q →
  wpAny (model X.prog X.w) X.A (call f us) (EP X pins σ Q) X.xe s
def TruR (X:Cx) (r:V→Hp→(Bool→Hp→Prop)→Prop):Prop :=
 ∀ (pins:List (Addr × Obj)) (s:Shared) (σ:St) (H:Hp) (x:V) (v:Value) (Q:Bool→Hp→Prop),Inv X pins σ H s→RelV x v→r x H Q →
  wpAny (model X.prog X.w) X.A (truthy v) (TP X pins σ Q) X.xe s
def tOp (r:R2) (ta tb:TE):TE:=fun σ H Q=>ta σ H fun x H1=>tb σ H1 fun y H2=>r x y H2 Q
def rI (C:Int→Int→Prop) (g:Int→Int→V):R2:=fun x y H Q=>∃ i j,x=.int i∧y=.int j∧C i j∧Q (g i j) H
def rI0 (g:Int→Int→V):R2:=fun x y H Q=>∃ i j,x=.int i∧y=.int j∧Q (g i j) H
section
variable {X:Cx} {a b c:Expr} {ta tb tc:TE} {pos:Pos}
theorem binT (ha:PE X a ta) (hb:PE X b tb) {pins:List (Addr × Obj)} {s:Shared} {σ:St} {H:Hp} {R:V→V→Hp→Prop} (I:Inv X pins σ H s)
 (h:ta σ H fun x H1=>tb σ H1 fun y H2=>R x y H2) {Q:Value→Shared→Prop} {f:Value→Value→Sem Value}
 (hf:∀ v u s2 x y H2,Inv X pins σ H2 s2→RelV x v→RelV y u→R x y H2→wpAny (model X.prog X.w) X.A (f v u) Q X.xe s2) :
 wpAny (model X.prog X.w) X.A (eval a X.env) (fun v s₁=>wpAny (model X.prog X.w) X.A (eval b X.env) (fun u s₂=>wpAny (model X.prog X.w) X.A (f v u) Q X.xe s₂) X.xe s₁) X.xe s:=by
 refine thn (ha pins s σ H _ I h) fun v s1 ⟨x,H1,I1,r1,q1⟩=>?_
 refine thn (hb pins s1 σ H1 _ I1 q1) fun u s2 ⟨y,H2,I2,r2,q2⟩=>?_
 exact hf v u s2 x y H2 I2 r1 r2 q2
theorem pe_op {op:Operator} {r:R2} (ho:OpR X (binaryOp op) r) (ha:PE X a ta) (hb:PE X b tb):PE X (.BinOp a op b pos) (tOp r ta tb):=by
 intro pins s σ H Q I h
 exact wpAny_BinOp (binT ha hb I h fun v u s2 x y H2 I2 rx ry q=>ho pins s2 σ H2 x y v u Q I2 rx ry q)
theorem opI {f:Value→Value→Sem Value} {C:Int→Int→Prop} {g:Int→Int→Int}
 (rule:∀ (i j:Int) (t u:Tok) (s:Shared) (Q:Value→Shared→Prop) (E:Value→Shared→Prop),C i j→Q (.int (g i j) s.toks) { s with toks:=s.toks + 1 }→wpAny (model X.prog X.w) X.A (f (.int i t) (.int j u)) Q E s) :
 OpR X f (rI C fun i j=>.int (g i j)):=by
 intro pins s σ H x y v u Q I rx ry h
 obtain ⟨i,j,rfl,rfl,hc,q⟩:=h
 obtain ⟨t,rfl⟩:=rx
 obtain ⟨t',rfl⟩:=ry
 exact rule i j t t' s _ _ hc ⟨.int (g i j),H,I.tok _,⟨_,rfl⟩,q⟩
theorem opI0 {f:Value→Value→Sem Value} {g:Int→Int→Int}
 (rule:∀ (i j:Int) (t u:Tok) (s:Shared) (Q:Value→Shared→Prop) (E:Value→Shared→Prop),Q (.int (g i j) s.toks) { s with toks:=s.toks + 1 }→wpAny (model X.prog X.w) X.A (f (.int i t) (.int j u)) Q E s) :
 OpR X f (rI0 fun i j=>.int (g i j)):=by
 intro pins s σ H x y v u Q I rx ry h
 obtain ⟨i,j,rfl,rfl,q⟩:=h
 obtain ⟨t,rfl⟩:=rx
 obtain ⟨t',rfl⟩:=ry
 exact rule i j t t' s _ _ ⟨.int (g i j),H,I.tok _,⟨_,rfl⟩,q⟩
theorem opB0 {f:Value→Value→Sem Value} {g:Int→Int→Bool}
 (rule:∀ (i j:Int) (t u:Tok) (s:Shared) (Q:Value→Shared→Prop) (E:Value→Shared→Prop),Q (.bool (g i j)) s→wpAny (model X.prog X.w) X.A (f (.int i t) (.int j u)) Q E s) :
 OpR X f (rI0 fun i j=>.bl (g i j)):=by
 intro pins s σ H x y v u Q I rx ry h
 obtain ⟨i,j,rfl,rfl,q⟩:=h
 obtain ⟨t,rfl⟩:=rx
 obtain ⟨t',rfl⟩:=ry
 exact rule i j t t' s _ _ ⟨.bl (g i j),H,I,rfl,q⟩
def CDiv (i j:Int):Prop:=0 < j∧j < 1073741824
def CPow (i j:Int):Prop:=0≤j∧j≤1000000∧i.natAbs < 2 ^ 64
theorem op_add:OpR X (binaryOp .Add) (rI0 fun i j=>.int (i + j)):=opI0 fun _ _ _ _ _ _ _ q=>add_int q
theorem op_sub:OpR X (binaryOp .Sub) (rI0 fun i j=>.int (i - j)):=opI0 fun _ _ _ _ _ _ _ q=>sub_int q
theorem op_fdiv:OpR X (binaryOp .FloorDiv) (rI CDiv fun i j=>.int (i / j)):=opI fun i j _ _ _ _ _ hc q=>by
 have h1:(0:Int) < j:=hc.1
 have h2:j < 1073741824:=hc.2
 exact floordiv_int (by omega) (by rw [Int.fdiv_eq_ediv_of_nonneg i (by omega)]; exact q) (.inl (PyProof.noPylong_small (by omega)))
theorem op_mod:OpR X (binaryOp .Mod) (rI (fun _ j=>0 < j) fun i j=>.int (i % j)):=opI fun i j _ _ _ _ _ hc q=>by
 have h1:(0:Int) < j:=hc
 exact mod_int' (by omega) (by rw [Int.fmod_eq_emod_of_nonneg i (by omega)]; exact q)
theorem op_pow:OpR X (binaryOp .Pow) (rI CPow fun i j=>.int (i ^ j.toNat)):=opI fun _ _ _ _ _ _ _ hc q=>pow_int_small hc.1 hc.2.1 hc.2.2 q
theorem iop_add:OpR X (inplaceOp .Add) (rI0 fun i j=>.int (i + j)):=opI0 fun _ _ _ _ _ _ _ q=>iadd_int q
end
def scal:V→V→Bool
 | .non,.non=>true | .non,.int _=>true | .int _,.non=>true | .non,.bl _=>true | .bl _,.non=>true | .non,.str _=>true | .str _,.non=>true
 | .int _,.int _=>true | .bl _,.bl _=>true | .str _,.str _=>true | .byt _,.byt _=>true
 | .int _,.str _=>true | .str _,.int _=>true | .bl _,.str _=>true | .str _,.bl _=>true
 | _,_=>false
def rEq:R2:=fun x y H Q=>scal x y=true∧Q (.bl (decide (x=y))) H
def rNe:R2:=fun x y H Q=>scal x y=true∧Q (.bl (!decide (x=y))) H
theorem dec_int {i j:Int}:decide (V.int i=V.int j)=(i == j):=by
 rw [Bool.eq_iff_iff]
 simp
theorem dec_bl {i j:Bool}:decide (V.bl i=V.bl j)=(i == j):=by
 rw [Bool.eq_iff_iff]
 simp
theorem dec_str {i j:Str}:decide (V.str i=V.str j)=(i == j):=by
 rw [Bool.eq_iff_iff]
 simp
theorem dec_byt {i j:Array UInt8}:decide (V.byt i=V.byt j)=(i.toList == j.toList):=by
 rw [Bool.eq_iff_iff]
 cases i
 cases j
 simp
section
variable {X:Cx} {a b c:Expr} {ta tb tc:TE} {pos:Pos}
theorem fin_bl {pins:List (Addr × Obj)} {σ:St} {H:Hp} {s:Shared} {Q:VK} {k k':Bool} (I:Inv X pins σ H s) (q:Q (.bl k) H) (e:k=k'):EP X pins σ Q (.bool k') s:=by
 subst e
 exact ⟨.bl k,H,I,rfl,q⟩
theorem op_eq:OpR X (compareOp .Eq) rEq:=by
 intro pins s σ H x y v u Q I rx ry h
 obtain ⟨hs,q⟩:=h
 cases x with
 | non =>
   cases rx
   cases y with
   | non=>cases ry; exact PySem.EqNone.eq_none_none (fin_bl I q (by simp))
   | bl j=>cases ry; exact PySem.EqNone.eq_none_bool (fin_bl I q (by simp))
   | int j=>obtain ⟨t',rfl⟩:=ry; exact PySem.EqNone.eq_none_int (fin_bl I q (by simp))
   | str j=>obtain ⟨t',rfl⟩:=ry; exact PySem.EqNone.eq_none_str (fin_bl I q (by simp))
   | _=>exact absurd (show false=true from hs) Bool.false_ne_true
 | bl i =>
   cases rx
   cases y with
   | non=>cases ry; exact PySem.EqNone.eq_bool_none (fin_bl I q (by simp))
   | bl j=>cases ry; exact eq_bool (fin_bl I q dec_bl)
   | str j=>obtain ⟨t',rfl⟩:=ry; exact PySem.EqMixed.eq_bool_str (fin_bl I q (by simp))
   | _=>exact absurd (show false=true from hs) Bool.false_ne_true
 | int i =>
   obtain ⟨t,rfl⟩:=rx
   cases y with
   | non=>cases ry; exact PySem.EqNone.eq_int_none (fin_bl I q (by simp))
   | int j=>obtain ⟨t',rfl⟩:=ry; exact eq_int (fin_bl I q dec_int)
   | str j=>obtain ⟨t',rfl⟩:=ry; exact PySem.EqMixed.eq_int_str (fin_bl I q (by simp))
   | _=>exact absurd (show false=true from hs) Bool.false_ne_true
 | str i =>
   obtain ⟨t,rfl⟩:=rx
   cases y with
   | non=>cases ry; exact PySem.EqNone.eq_str_none (fin_bl I q (by simp))
   | bl j=>cases ry; exact PySem.EqMixed.eq_str_bool (fin_bl I q (by simp))
   | int j=>obtain ⟨t',rfl⟩:=ry; exact PySem.EqMixed.eq_str_int (fin_bl I q (by simp))
   | str j=>obtain ⟨t',rfl⟩:=ry; exact eq_str (fin_bl I q dec_str)
   | _=>exact absurd (show false=true from hs) Bool.false_ne_true
 | byt i =>
   obtain ⟨t,rfl⟩:=rx
   cases y with
   | byt j=>obtain ⟨t',rfl⟩:=ry; exact PySem.W.eq_bytes (fin_bl I q dec_byt)
   | _=>exact absurd (show false=true from hs) Bool.false_ne_true
 | _=>cases y <;> exact absurd (show false=true from hs) Bool.false_ne_true
theorem op_ne:OpR X (compareOp .NotEq) rNe:=by
 intro pins s σ H x y v u Q I rx ry h
 obtain ⟨hs,q⟩:=h
 cases x with
 | non =>
   cases rx
   cases y with
   | non=>cases ry; exact PySem.EqNone.ne_none_none (fin_bl I q (by simp))
   | bl j=>cases ry; exact PySem.EqNone.ne_none_bool (fin_bl I q (by simp))
   | int j=>obtain ⟨t',rfl⟩:=ry; exact PySem.EqNone.ne_none_int (fin_bl I q (by simp))
   | str j=>obtain ⟨t',rfl⟩:=ry; exact PySem.EqNone.ne_none_str (fin_bl I q (by simp))
   | _=>exact absurd (show false=true from hs) Bool.false_ne_true
 | bl i =>
   cases rx
   cases y with
   | non=>cases ry; exact PySem.EqNone.ne_bool_none (fin_bl I q (by simp))
   | bl j=>cases ry; exact ne_bool (fin_bl I q (congrArg not dec_bl))
   | str j=>obtain ⟨t',rfl⟩:=ry; exact PySem.EqMixed.ne_bool_str (fin_bl I q (by simp))
   | _=>exact absurd (show false=true from hs) Bool.false_ne_true
 | int i =>
   obtain ⟨t,rfl⟩:=rx
   cases y with
   | non=>cases ry; exact PySem.EqNone.ne_int_none (fin_bl I q (by simp))
   | int j=>obtain ⟨t',rfl⟩:=ry; exact ne_int (fin_bl I q (congrArg not dec_int))
   | str j=>obtain ⟨t',rfl⟩:=ry; exact PySem.EqMixed.ne_int_str (fin_bl I q (by simp))
   | _=>exact absurd (show false=true from hs) Bool.false_ne_true
 | str i =>
   obtain ⟨t,rfl⟩:=rx
   cases y with
   | non=>cases ry; exact PySem.EqNone.ne_str_none (fin_bl I q (by simp))
   | bl j=>cases ry; exact PySem.EqMixed.ne_str_bool (fin_bl I q (by simp))
   | int j=>obtain ⟨t',rfl⟩:=ry; exact PySem.EqMixed.ne_str_int (fin_bl I q (by simp))
   | str j=>obtain ⟨t',rfl⟩:=ry; exact ne_str (fin_bl I q (congrArg not dec_str))
   | _=>exact absurd (show false=true from hs) Bool.false_ne_true
 | byt i =>
   obtain ⟨t,rfl⟩:=rx
   cases y with
   | byt j=>obtain ⟨t',rfl⟩:=ry; exact PySem.W.ne_bytes (fin_bl I q (congrArg not dec_byt))
   | _=>exact absurd (show false=true from hs) Bool.false_ne_true
 | _=>cases y <;> exact absurd (show false=true from hs) Bool.false_ne_true
theorem op_lt:OpR X (compareOp .Lt) (rI0 fun i j=>.bl (decide (i < j))):=opB0 fun _ _ _ _ _ _ _ q=>lt_int q
theorem op_le:OpR X (compareOp .LtE) (rI0 fun i j=>.bl (decide (i≤j))):=opB0 fun _ _ _ _ _ _ _ q=>le_int q
theorem op_gt:OpR X (compareOp .Gt) (rI0 fun i j=>.bl (decide (j < i))):=opB0 fun _ _ _ _ _ _ _ q=>gt_int q
theorem nomark (b:Expr) {op:CmpOp} (h:op≠.In:=by decide) (h2:op≠.NotIn:=by decide):behindInMarks op b=false:=by
 have e1:(op == CmpOp.In)=false:=by cases op <;> first | rfl | exact absurd rfl h
 have e2:(op == CmpOp.NotIn)=false:=by cases op <;> first | rfl | exact absurd rfl h2
 cases b <;> simp [behindInMarks,e1,e2]
theorem pe_cmpR {op:CmpOp} {r:R2} (ho:OpR X (compareOp op) r) (ha:PE X a ta) (hb:PE X b tb) (hm:behindInMarks op b=false):PE X (.Compare a [op] [b] pos) (tOp r ta tb):=by
 intro pins s σ H Q I h
 exact wpAny_Compare1 (binT ha hb I h fun v u s2 x y H2 I2 rx ry q=>ho pins s2 σ H2 x y v u Q I2 rx ry q) hm
def tTest (t:TE):TT:=fun σ H Q=>t σ H fun x H'=>∃ k,x=.bl k∧Q k H'
theorem pt_cmpR {op:CmpOp} {r:R2} (ho:OpR X (compareOp op) r) (ha:PE X a ta) (hb:PE X b tb) (hm:behindInMarks op b=false):PT X (.Compare a [op] [b] pos) (tTest (tOp r ta tb)):=by
 intro pins s σ H Q I h
 refine wpAny_isTrue_Compare1 (thn (ha pins s σ H _ I h) fun v s1 ⟨x,H1,I1,r1,q1⟩=>thn (hb pins s1 σ H1 _ I1 q1) fun u s2 ⟨y,H2,I2,r2,q2⟩ =>
  thn (ho pins s2 σ H2 x y v u _ I2 r1 r2 q2) fun c s3 ⟨z,H3,I3,r3,k,e,q3⟩=>?_) hm
 subst e
 cases r3
 exact wpAny_truthy_bool ⟨H3,I3,q3⟩
def tChain (r r':R2) (ta tb tc:TE):TE:=fun σ H Q=>ta σ H fun x H1=>tb σ H1 fun y H2=>r x y H2 fun z H3=>∃ k,z=.bl k ∧
 (if k=true then tc σ H3 fun w' H4=>r' y w' H4 Q else Q (.bl false) H3)
theorem pe_chain {op op':CmpOp} {r r':R2} (ho:OpR X (compareOp op) r) (ho':OpR X (compareOp op') r') (ha:PE X a ta) (hb:PE X b tb) (hc:PE X c tc)
 (hm:lastMarks [op,op'] [b,c]=false:=by with_unfolding_all rfl):PE X (.Compare a [op,op'] [b,c] pos) (tChain r r' ta tb tc):=by
 intro pins s σ H Q I h
 refine Compare_chain (thn (ha pins s σ H _ I h) fun v s1 ⟨x,H1,I1,r1,q1⟩=>chain_link (thn (hb pins s1 σ H1 _ I1 q1) fun u s2 ⟨y,H2,I2,r2,q2⟩ =>
  thn (ho pins s2 σ H2 x y v u _ I2 r1 r2 q2) fun d s3 ⟨z,H3,I3,r3,k,e,q3⟩=>?_)) hm
 subst e
 cases r3
 refine wpAny_truthy_bool ?_
 cases k with
 | false=>exact ite_ff ⟨.bl false,H3,I3,rfl,q3⟩
 | true=>exact ite_tt (chain_last (thn (hc pins s3 σ H3 _ I3 q3) fun w' s4 ⟨z',H4,I4,r4,q4⟩=>ho' pins s4 σ H4 y z' u w' Q I4 r2 r4 q4))
theorem pt_chain {op op':CmpOp} {r r':R2} (ho:OpR X (compareOp op) r) (ho':OpR X (compareOp op') r') (ha:PE X a ta) (hb:PE X b tb) (hc:PE X c tc)
 (hm:lastMarks [op,op'] [b,c]=false:=by with_unfolding_all rfl):PT X (.Compare a [op,op'] [b,c] pos) (tTest (tChain r r' ta tb tc)):=by
 intro pins s σ H Q I h
 refine isTrue_chain (thn (ha pins s σ H _ I h) fun v s1 ⟨x,H1,I1,r1,q1⟩=>test_link (thn (hb pins s1 σ H1 _ I1 q1) fun u s2 ⟨y,H2,I2,r2,q2⟩ =>
  thn (ho pins s2 σ H2 x y v u _ I2 r1 r2 q2) fun d s3 ⟨z,H3,I3,r3,k,e,q3⟩=>?_)) hm
 subst e
 cases r3
 refine wpAny_truthy_bool ?_
 cases k with
 | false =>
   obtain ⟨k',e',q'⟩:=q3
   cases e'
   exact ite_ff ⟨H3,I3,q'⟩
 | true =>
   refine ite_tt (test_last (thn (hc pins s3 σ H3 _ I3 q3) fun w' s4 ⟨z',H4,I4,r4,q4⟩=>thn (ho' pins s4 σ H4 y z' u w' _ I4 r2 r4 q4) fun d' s5 ⟨z2,H5,I5,r5,k2,e2,q5⟩=>?_))
   subst e2
   cases r5
   exact wpAny_truthy_bool ⟨H5,I5,q5⟩
def TruV (K:PySem.W.Frag) (x:V) (H:Hp) (k:Bool):Prop :=
 match x with
 | .non=>k=false
 | .bl b=>k=b
 | .int i=>k=(i != 0)
 | .str y=>y.length≤sizeLine∧k=((y.length:Int) != 0)
 | .byt y=>y.size≤sizeLine∧k=((y.size:Int) != 0)
 | .ref p=>(∃ xs,SqL K H p xs∧k=!xs.isEmpty)∨(∃ xs,SqT K H p xs∧k=!xs.isEmpty)∨∃ kvs,H p=some (.dK kvs)∧k=!kvs.isEmpty
 | _=>False
theorem isEmpty_kv {κ:Type} {kvs:List (κ × V)} {vs:List (κ × Value)} (r:KV kvs vs):(!vs.isEmpty)=!kvs.isEmpty:=by
 cases r <;> rfl
theorem isEmpty_of {xs:List V} {its:List Value} (r:Vals xs its):(!its.toArray.isEmpty)=!xs.isEmpty:=by
 cases r <;> simp
theorem line63:(sizeLine:Nat) < 2 ^ 63:=by rw [sizeLine_eq]; decide
theorem tru_ok:TruR X (fun x H Q=>∃ k,TruV X.K x H k∧Q k H):=by
 intro pins s σ H x v Q I rx h
 obtain ⟨k,e,q⟩:=h
 have hl:=line63
 have hs:sizeLine=16777216:=sizeLine_eq
 cases x with
 | non =>
   cases rx
   have e':k=false:=e
   subst e'
   exact truthy_none ⟨H,I,q⟩
 | bl b =>
   cases rx
   have e':k=b:=e
   subst e'
   exact wpAny_truthy_bool ⟨H,I,q⟩
 | int i =>
   obtain ⟨t,rfl⟩:=rx
   have e':k=(i != 0):=e
   subst e'
   exact PySem.P.truthy_int ⟨H,I,q⟩
 | str y =>
   obtain ⟨t,rfl⟩:=rx
   obtain ⟨hy,e'⟩:y.length≤sizeLine∧k=((y.length:Int) != 0):=e
   subst e'
   exact PySem.P.truthy_str (by omega) ⟨H,I.tok _,q⟩
 | byt y =>
   obtain ⟨t,rfl⟩:=rx
   obtain ⟨hy,e'⟩:y.size≤sizeLine∧k=((y.size:Int) != 0):=e
   subst e'
   exact PySem.W.truthy_bytes (by omega) ⟨H,I.tok _,q⟩
 | ref p =>
   cases rx
   have e':(∃ xs,SqL X.K H p xs∧k=!xs.isEmpty)∨(∃ xs,SqT X.K H p xs∧k=!xs.isEmpty)∨∃ kvs,H p=some (.dK kvs)∧k=!kvs.isEmpty:=e
   rcases e' with ⟨xs,hx,e'⟩ | ⟨xs,hx,e'⟩ | ⟨kvs,hx,e'⟩
   · subst e'
     obtain ⟨its,r,pl,hz⟩:=I.list hx
     have hlen:=r.length
     exact wpAny_truthy_list pl.isList (by simp only [List.size_toArray]; omega) ⟨H,I.tok _,by rw [isEmpty_of r]; exact q⟩
   · subst e'
     obtain ⟨its,r,pl,hz⟩:=I.tuple hx
     have hlen:=r.length
     exact truthy_tuple pl (by simp only [List.size_toArray]; omega) ⟨H,I.tok _,by rw [isEmpty_of r]; exact q⟩
   · subst e'
     obtain ⟨hz,hS,vs,r,m⟩:kvs.length≤sizeLine∧(p == sysModules)=false∧∃ vs,KV kvs vs∧s.heap.DictOf (mixKind X.prog X.w) p vs:=I.hok p _ hx
     have hlen:kvs.length=vs.length:=Paired.length r
     exact wpAny_truthy_dict hS m (by omega) ⟨H,I.tok _,by rw [isEmpty_kv r]; exact q⟩
 | _=>exact (show False from e).elim
theorem vals1 {x:V} {us:List Value} (r:Vals [x] us):∃ u,us=[u]∧RelV x u:=by
 cases r with
 | cons r1 r2=>cases r2; exact ⟨_,rfl,r1⟩
theorem vals2 {x y:V} {us:List Value} (r:Vals [x,y] us):∃ u w',us=[u,w']∧RelV x u∧RelV y w':=by
 cases r with
 | cons r1 r2 =>
   cases r2 with
   | cons r3 r4=>cases r4; exact ⟨_,_,rfl,r1,r3⟩
def LenV (K:PySem.W.Frag) (x:V) (H:Hp) (n:Nat):Prop :=
 match x with
 | .str y=>y.length≤sizeLine∧n=y.length
 | .byt y=>y.size≤sizeLine∧n=y.size
 | .ref p=>(∃ xs,SqL K H p xs∧n=xs.length)∨∃ xs,SqT K H p xs∧n=xs.length
 | _=>False
theorem call_len:CallR X (.builtin "len") (fun xs H Q=>∃ x n,xs=[x]∧LenV X.K x H n∧Q (.int n) H):=by
 intro pins s σ H xs us Q I r h
 obtain ⟨x,n,rfl,e,q⟩:=h
 obtain ⟨u,rfl,rx⟩:=vals1 r
 have hl:=line63
 have hs:sizeLine=16777216:=sizeLine_eq
 cases x with
 | str y =>
   obtain ⟨t,rfl⟩:=rx
   obtain ⟨hy,e'⟩:y.length≤sizeLine∧n=y.length:=e
   subst e'
   exact len_str (by omega) ⟨.int _,H,I.tok _,⟨_,rfl⟩,q⟩
 | byt y =>
   obtain ⟨t,rfl⟩:=rx
   obtain ⟨hy,e'⟩:y.size≤sizeLine∧n=y.size:=e
   subst e'
   exact PySem.W.len_bytes (by omega) ⟨.int _,H,I.tok _,⟨_,rfl⟩,q⟩
 | ref p =>
   cases rx
   have e':(∃ xs,SqL X.K H p xs∧n=xs.length)∨∃ xs,SqT X.K H p xs∧n=xs.length:=e
   rcases e' with ⟨xs,hx,e'⟩ | ⟨xs,hx,e'⟩
   · subst e'
     obtain ⟨its,r',pl,hz⟩:=I.list hx
     have hlen:=r'.length
     exact Calls.call_len_list pl.isList (by simp only [List.size_toArray]; omega) ⟨.int xs.length,H,I.tok _,⟨_,by simp only [List.size_toArray]; rw [hlen]⟩,q⟩
   · subst e'
     obtain ⟨its,r',pl,hz⟩:=I.tuple hx
     have hlen:=r'.length
     exact len_tuple pl (by simp only [List.size_toArray]; omega) ⟨.int xs.length,H,I.tok _,⟨_,by simp only [List.size_toArray]; rw [hlen]⟩,q⟩
 | _=>exact (show False from e).elim
end
end L2
namespace L2
open PySem PySem.Spec PyProof.Rows
structure ObjM (h:Heap) (x dx C:Addr) (mA:Str→Option Value):Prop where
 obj:h.get? x=some (PySem.W.instObj C dx)
 ns:h.Ns1 dx mA
 ne:dx≠x
theorem lookIn_ns {h:Heap} {dx:Addr} {mA:Str→Option Value} (n:h.Ns1 dx mA):∃ od,h.get? dx=some od∧∀ name,PySem.W.lookIn name od=some (mA name):=by
 obtain ⟨o,es,ep,ho,hd,hk,_,hm⟩:=n
 refine ⟨o,ho,fun name=>?_⟩
 have e:=hm name
 unfold nsFind findBy at e
 rw [←Array.find?_toList] at e
 unfold PySem.W.lookIn
 rw [hd]
 dsimp only
 split
 · rename_i y q
   rw [q] at e
   exact congrArg some e
 · rename_i q
   rw [q] at e
   have a:es.toList.any (·.refKey)=false:=by
    rw [List.any_eq_false]
    intro y hy
    obtain ⟨z,t,hkey⟩:=hk y (Array.mem_toList_iff.mp hy)
    simp [DictEntry.refKey,hkey]
   have a':¬ es.toList.any (·.refKey)=true:=by rw [a]; exact Bool.false_ne_true
   rw [if_neg a']
   exact congrArg some e
theorem ObjM.look {h:Heap} {x dx C:Addr} {mA:Str→Option Value} (I:ObjM h x dx C mA):∃ od,PySem.W.InstAt h x (PySem.W.instObj C dx) C (some od)∧∀ name,PySem.W.lookIn name od=some (mA name) :=
 let ⟨od,ho,hl⟩:=lookIn_ns I.ns
 ⟨od,⟨I.obj,rfl,rfl,ho⟩,hl⟩
section
variable {prog:Program} {w:World} {A:Around} {E:Value→Shared→Prop} {s:Shared} {K:PySem.W.Frag} {x dx C f:Addr} {mA:Str→Option Value} {name:Str} {v:Value}
theorem get_map {expr:Bool} {Q:Value→Shared→Prop} (X:K.In s.heap) (I:ObjM s.heap x dx C mA) (hg:PySem.W.plainGet K C name=true) (hh:PySem.W.hasDictIn K C=true)
 (ha:PySem.W.findIn K (.ref C) name=some none) (hv:mA name=some v) (hv':PySem.W.handedIn v=true) (h:Q v { s with toks:=s.toks + 1 }) :
 wpAny (model prog w) A (getAttr (.ref x) name expr) Q E s:=by
 obtain ⟨od,J,hl⟩:=I.look
 exact PySem.W.get_value X J (PySem.W.plainGet_of hg).1 (PySem.W.findObj_own hh ha rfl (by rw [hl,hv])) hv' h
theorem get_meth {pl:Sem Bool} {Q:Value × List Value→Shared→Prop} (X:K.In s.heap) (I:ObjM s.heap x dx C mA) (hg:PySem.W.plainGet K C name=true)
 (hf:PySem.W.findIn K (.ref C) name=some (some (.ref f))) (ht:PySem.W.isFn K (.ref f)=true) (hv:mA name=none) (h:Q (.ref f,[.ref x]) s) :
 wpAny (model prog w) A (getMethod (.ref x) name pl) Q E s:=by
 obtain ⟨od,J,hl⟩:=I.look
 exact PySem.W.method_fn X J (PySem.W.plainGet_of hg).1 (PySem.W.plainGet_of hg).2 hf (beq_iff_eq.mp ht) (by show (PySem.W.lookIn name od).map (·.isSome)=some false; rw [hl,hv]; rfl) h
theorem set_map {ns:List Str} {Q:Unit→Shared→Prop} (X:K.In s.heap) (I:ObjM s.heap x dx C mA)
 (hs:PySem.W.findIn K (.ref C) "__setattr__" = some (some (.builtin "object.__setattr__"))) (hp:PySem.W.plainOver K C=true) (ht:PySem.W.takerIn K C name=some none) (hh:PySem.W.hasDictIn K C=true)
 (hw:PySem.Within mA ns) (hsz:ns.length≤sizeLine)
 (h:∀ h',ObjM h' x dx C (fun y=>if y=name then some v else mA y)→Heap.SameBut dx s.heap h'→Q () { s with heap:=h',toks:=s.toks + 2 }) :
 wpAny (model prog w) A (setAttr (.ref x) name v) Q E s:=by
 obtain ⟨od,J,hl⟩:=I.look
 refine PySem.W.set_plain X J hs (PySem.W.osa_open (s:={ s with toks:=s.toks + 1 }) (r:=none) X J hp ht fun b=>?_)
 obtain ⟨cd,hc,hd'⟩:=PySem.W.any_some hh
 have hx:s.heap.get? x=some ⟨.ref C,some dx,.plain,#[]⟩:=I.obj
 refine wpAny_bind (wpAny_pure (wpAny_bind (wpAny_bind (wpAny_loadPart hx (wpAny_bind (PySem.W.Looks.here (s:={ s with toks:=s.toks + 1 }) (PySem.W.looks_clsIn X hc) ?_))))))
 rw [hd']
 refine wpAny_pure (a:=some dx) (wpAny_bind (wpAny_pure (wpAny_bind ?_)))
 refine wpAny_nsSet1 (s:={ s with toks:=s.toks + 1 }) I.ns fun h' hn2 hs2=>?_
 obtain ⟨oD,esD,epD,hoD,hdD,hcD⟩:=hn2.count (PySem.Within.cons name v hw)
 refine wpAny_bind (wpAny_lookBehind hoD (by rw [hdD]; exact pastItsLine_dict (Nat.le_trans hcD (by rw [List.length_cons]; omega))) ?_)
 exact wpAny_pure (h _ ⟨(hs2.2 _ (Ne.symm I.ne)).trans I.obj,hn2,I.ne⟩ hs2)
theorem make_map {R:Result→Shared→Prop} {vs:List Value} {kw:List (Str × Value)} (X:K.In s.heap) (hm:PySem.W.makesIn K C=true)
 (hi:PySem.W.findIn K (.ref C) "__init__" = some (some (.ref f))) (hf:PySem.W.typeIn K (.ref f)=some (.type "function"))
 (h:codeAny (model prog w) (A.under (.builtin "type.__call__" ⟨.ref C :: vs,kw⟩)) (.call (.ref f) ⟨.ref (s.heap.objs.size + 1) :: vs,kw⟩) (PySem.W.InitBack (s.heap.objs.size + 1) R)
  { s with heap:=(s.heap.push PySem.W.emptyDict).push (PySem.W.instObj C s.heap.objs.size) }) :
 codeAny (model prog w) A (.call (.ref C) ⟨vs,kw⟩) R s:=by
 obtain ⟨hh,g,d,t,os⟩:=s
 exact PySem.W.make_core (PySem.W.makes_of X hm) (PySem.W.looks_findIn X hi) (fun self=>PySem.W.bind_fn X self hf) (.inl rfl) h
end
def putF (f:Str) (v:V):List (Str × V)→List (Str × V)
 | []=>[(f,v)]
 | (g,x) :: r=>if g=f then (g,v) :: r else (g,x) :: putF f v r
theorem lookup_putF (f g:Str) (v:V):∀ fs:List (Str × V),(putF f v fs).lookup g=if g=f then some v else fs.lookup g
 | []=>by
   show List.lookup g [(f,v)]=_
   by_cases h:g=f
   · have hb:(g == f)=true:=beq_iff_eq.mpr h
     simp only [List.lookup,hb,if_pos h]
   · have hb:(g == f)=false:=beq_eq_false_iff_ne.mpr h
     simp only [List.lookup,hb,if_neg h]
 | (k, x) :: r => by
   have ih:=lookup_putF f g v r
   rw [show putF f v ((k,x) :: r)=(if k=f then (k,v) :: r else (k,x) :: putF f v r) from rfl]
   by_cases hk:k=f
   · rw [if_pos hk]
     by_cases h:g=k
     · have hb:(g == k)=true:=beq_iff_eq.mpr h
       simp only [List.lookup,hb,if_pos (h.trans hk)]
     · have hb:(g == k)=false:=beq_eq_false_iff_ne.mpr h
       simp only [List.lookup,hb,if_neg (fun e:g=f=>h (e.trans hk.symm))]
   · rw [if_neg hk]
     by_cases h:g=k
     · have hb:(g == k)=true:=beq_iff_eq.mpr h
       simp only [List.lookup,hb,if_neg (fun e:g=f=>hk (h.symm.trans e))]
     · have hb:(g == k)=false:=beq_eq_false_iff_ne.mpr h
       simp only [List.lookup,hb]
       exact ih
theorem keys_putF (f:Str) (v:V):∀ fs:List (Str × V),f∈(putF f v fs).map (·.1)∧∀ g,g∈fs.map (·.1)→g∈(putF f v fs).map (·.1)
 | []=>⟨by simp [putF],fun g h=>by simp at h⟩
 | (k, x) :: r => by
   obtain ⟨i1,i2⟩:=keys_putF f v r
   rw [show putF f v ((k,x) :: r)=(if k=f then (k,v) :: r else (k,x) :: putF f v r) from rfl]
   by_cases hk:k=f
   · rw [if_pos hk]
     subst hk
     exact ⟨by simp,fun g h=>by simpa using h⟩
   · rw [if_neg hk]
     refine ⟨?_,fun g h=>?_⟩
     · rw [List.map_cons]
       exact List.mem_cons_of_mem _ i1
     · rw [List.map_cons] at h ⊢
       rcases List.mem_cons.mp h with e | e
       · exact List.mem_cons.mpr (.inl e)
       · exact List.mem_cons_of_mem _ (i2 g e)
theorem length_putF (f:Str) (v:V):∀ fs:List (Str × V),(putF f v fs).length≤fs.length + 1
 | []=>by simp [putF]
 | (k,x) :: r=>by
   have ih:=length_putF f v r
   rw [show putF f v ((k,x) :: r)=(if k=f then (k,v) :: r else (k,x) :: putF f v r) from rfl]
   by_cases hk:k=f
   · rw [if_pos hk,List.length_cons,List.length_cons]; omega
   · rw [if_neg hk,List.length_cons,List.length_cons]; omega
theorem RelO.some_of {v:V} {o:Option Value} (r:RelO (some v) o):∃ u,o=some u∧RelV v u:=by
 cases o with
 | none=>exact (show False from r).elim
 | some u=>exact ⟨u,rfl,r⟩
theorem RelO.none_of {o:Option Value} (r:RelO none o):o=none:=by
 cases o with
 | none=>rfl
 | some u=>exact (show False from r).elim
theorem handed_of {v:V} {u:Value} (r:RelV v u):PySem.W.handedIn u=true:=by
 cases v with
 | non=>cases (show u=Value.none from r); rfl
 | bl b=>cases (show u=Value.bool b from r); rfl
 | int i=>obtain ⟨t,e⟩:=(show ∃ t,u=Value.int i t from r); cases e; rfl
 | str x=>obtain ⟨t,e⟩:=(show ∃ t,u=Value.str x t from r); cases e; rfl
 | byt b=>obtain ⟨t,e⟩:=(show ∃ t,u=Value.bytes b t from r); cases e; rfl
 | flt b=>obtain ⟨t,e⟩:=(show ∃ t,u=Value.float b t from r); cases e; rfl
 | ref a=>cases (show u=Value.ref a from r); rfl
 | ty n=>cases (show u=Value.type n from r); rfl
section
variable {P:Program} {w:World} {H H':Hp} {h h':Heap} {a C dx:Addr} {fs fs':List (Str × V)}
theorem ins_get (hok:HOk P w H h) (e:H a=some (.ins C dx fs)):∃ mA,ObjM h a dx C mA∧(∀ f,RelO (fs.lookup f) (mA f))∧PySem.Within mA (fs.map (·.1))∧fs.length≤1000∧H dx=some (.own a):=by
 obtain ⟨d,z,ne,ob,mA,n,r,q⟩:=(show ObjOk P w H h a (.ins C dx fs) from hok a _ e)
 exact ⟨mA,⟨ob,n,ne⟩,r,q,z,d⟩
end
structure Cls (K:PySem.W.Frag) (C:Addr):Prop where
 pg:PySem.W.plainGet K C Str.empty=true
 hd:PySem.W.hasDictIn K C=true
 po:PySem.W.plainOver K C=true
 sa:PySem.W.findIn K (.ref C) "__setattr__" = some (some (.builtin "object.__setattr__"))
theorem Cls.get {K:PySem.W.Frag} {C:Addr} (c:Cls K C) (f:Str):PySem.W.plainGet K C f=true:=c.pg
def NoAttr (K:PySem.W.Frag) (C:Addr) (f:Str):Prop:=PySem.W.findIn K (.ref C) f=some none
theorem NoAttr.taker {K:PySem.W.Frag} {C:Addr} {f:Str} (n:NoAttr K C f):PySem.W.takerIn K C f=some none:=by
 unfold PySem.W.takerIn
 rw [show PySem.W.findIn K (.ref C) f=some none from n]
 rfl
structure Meth (K:PySem.W.Frag) (C:Addr) (m:Str) (f:Addr):Prop where
 at_:PySem.W.findIn K (.ref C) m=some (some (.ref f))
 fn:PySem.W.isFn K (.ref f)=true
 kp:PySem.W.keepIn K (.ref f)=true
section
variable {X:Cx} {pins:List (Addr × Obj)} {σ:St} {H:Hp} {s:Shared} {a C dx:Addr} {fs:List (Str × V)} {f:Str} {v:V} {A:Around} {E:Value→Shared→Prop}
theorem getattr_ok {b:Bool} {Q:Value→Shared→Prop} (I:Inv X pins σ H s) (e:H a=some (.ins C dx fs)) (c:Cls X.K C) (n:NoAttr X.K C f) (l:fs.lookup f=some v)
 (h:∀ u s',Inv X pins σ H s'→RelV v u→Q u s'):wpAny (model X.prog X.w) A (getAttr (.ref a) f b) Q E s:=by
 obtain ⟨mA,O,r,_,_,_⟩:=ins_get I.hok e
 obtain ⟨u,hu,ru⟩:=RelO.some_of (v:=v) (o:=mA f) (by rw [←l]; exact r f)
 exact get_map I.kIn O (c.get f) c.hd n hu (handed_of ru) (h u _ (I.tok _) ru)
theorem getmeth_ok {m:Str} {g:Addr} {pl:Sem Bool} {Q:Value × List Value→Shared→Prop} (I:Inv X pins σ H s) (e:H a=some (.ins C dx fs)) (c:Cls X.K C) (k:Meth X.K C m g) (l:fs.lookup m=none)
 (h:Q (.ref g,[.ref a]) s):wpAny (model X.prog X.w) A (getMethod (.ref a) m pl) Q E s:=by
 obtain ⟨mA,O,r,_,_,_⟩:=ins_get I.hok e
 have hn:mA m=none:=RelO.none_of (by rw [←l]; exact r m)
 exact get_meth I.kIn O (c.get m) k.at_ k.fn hn h
theorem setattr_ok {y:V} {u:Value} {Q:Unit→Shared→Prop} (I:Inv X pins σ H s) (e:H a=some (.ins C dx fs)) (c:Cls X.K C) (n:NoAttr X.K C f) (hl:fs.length < 1000) (ry:RelV y u)
 (h:∀ s',Inv X pins σ (upd H a (.ins C dx (putF f y fs))) s'→Q () s'):wpAny (model X.prog X.w) A (setAttr (.ref a) f u) Q E s:=by
 obtain ⟨mA,O,r,wi,_,ho⟩:=ins_get I.hok e
 have hz:(fs.map (·.1)).length≤sizeLine:=by rw [List.length_map,sizeLine_eq]; omega
 refine set_map I.kIn O c.sa c.po n.taker c.hd wi hz fun h' O' sb=>h _ ?_
 have hd:∃ o,h'.get? dx=some o:=let ⟨o,_,_,e',_⟩:=O'.ns; ⟨o,e'⟩
 refine I.write (x:=a) (e:=dx) (by rw [e]; exact True.intro) (.inr ho) (fun b q hb z=>(sb.2 b hb).trans z) hd ?_
 refine ⟨by rw [upd_ne O.ne]; exact ho,?_,O.ne,O'.obj,_,O'.ns,fun g=>?_,fun g hg=>?_⟩
 · have:=length_putF f y fs; omega
 · show RelO ((putF f y fs).lookup g) (if g=f then some u else mA g)
   rw [lookup_putF]
   by_cases q:g=f
   · rw [if_pos q,if_pos q]; exact ry
   · rw [if_neg q,if_neg q]; exact r g
 · by_cases q:g=f
   · rw [q]; exact (keys_putF f y fs).1
   · refine (keys_putF f y fs).2 g (wi g fun z=>hg ?_)
     show (if g=f then some u else mA g)=none
     rw [if_neg q]; exact z
theorem Inv.made (I:Inv X pins σ H s):Inv X pins σ (upd (upd H s.heap.objs.size (.own (s.heap.objs.size + 1))) (s.heap.objs.size + 1) (.ins C s.heap.objs.size []))
 { s with heap:=(s.heap.push PySem.W.emptyDict).push (PySem.W.instObj C s.heap.objs.size) }:=by
 have e1:(s.heap.push PySem.W.emptyDict).get? s.heap.objs.size=some PySem.W.emptyDict:=Heap.get?_push_size s.heap rfl
 have e2:((s.heap.push PySem.W.emptyDict).push (PySem.W.instObj C s.heap.objs.size)).get? (s.heap.objs.size + 1)=some (PySem.W.instObj C s.heap.objs.size):=by
  have:=Heap.get?_push_size (s.heap.push PySem.W.emptyDict) (o:=PySem.W.instObj C s.heap.objs.size) rfl
  rwa [Heap.size_push] at this
 have e3:(s.heap.push PySem.W.emptyDict).Ns s.heap.objs.size (fun _=>none):=⟨PySem.W.emptyDict,#[],_,e1,rfl,(fun e he=>absurd he (by simp)),fun _=>rfl⟩
 have I1:=I.laid (a:=s.heap.objs.size) (o:=.own (s.heap.objs.size + 1)) (h':=s.heap.push PySem.W.emptyDict) (t':=s.toks) (fun b u q=>Heap.get?_push_of_some _ q) (Nat.le_refl _) ⟨_,e1⟩
 refine I1.laid (a:=s.heap.objs.size + 1) (o:=.ins C s.heap.objs.size []) (t':=s.toks) (fun b u q=>Heap.get?_push_of_some _ q) (Nat.le_of_eq (Heap.size_push _ _)) ?_
 have ne:s.heap.objs.size≠s.heap.objs.size + 1:=Nat.ne_of_lt (Nat.lt_succ_self _)
 refine ⟨by rw [upd_ne ne,upd_same],Nat.zero_le _,ne,e2,fun _=>none,(Heap.Ns1.of_empty e3).at fun o q=>Heap.get?_push_of_some _ q,fun _=>True.intro,fun y hy=>absurd rfl hy⟩
theorem attr_of {prog:Program} {w:World} {env:Env} {e:Expr} {f:Str} {pos:Pos} {s:Shared} {Q:Value→Shared→Prop} (hb:attributeBase e f env (eval e env)=eval e env)
 (h:wpAny (model prog w) A (eval e env) (fun o s₁=>wpAny (model prog w) A (getAttr o f true) Q E s₁) E s):wpAny (model prog w) A (eval (.Attribute e f pos) env) Q E s :=
 Attribute_any_ h (by rw [arm_eval_Attribute,hb])
end
def tFld (K:PySem.W.Frag) (ta:TE) (f:Str):TE:=fun σ H Q=>ta σ H fun x H1=>∃ a C dx fs v,x=.ref a∧H1 a=some (.ins C dx fs)∧Cls K C∧NoAttr K C f∧fs.lookup f=some v∧Q v H1
def sFld (K:PySem.W.Frag) (ta tv:TE) (f:Str):TS:=fun D σ H=>tv σ H fun y H1=>ta σ H1 fun x H2=>∃ a C dx fs,x=.ref a∧H2 a=some (.ins C dx fs)∧Cls K C∧NoAttr K C f∧fs.length < 1000 ∧
 D.nx σ (upd H2 a (.ins C dx (putF f y fs)))
section
variable {X:Cx} {o e value:Expr} {f:Str} {pos pos' tpos:Pos} {ta tv:TE}
theorem pe_fld (he:PE X e ta) (hb:attributeBase e f X.env (eval e X.env)=eval e X.env):PE X (.Attribute e f pos) (tFld X.K ta f):=by
 intro pins s σ H Q I h
 refine attr_of hb (thn (he pins s σ H _ I h) fun u s1 ⟨x,H1,I1,rx,a,C,dx,fs,v,ex,ea,c,n,l,q⟩=>?_)
 subst ex
 obtain rfl:u=Value.ref a:=rx
 exact getattr_ok I1 ea c n l fun u' s2 I2 ru=>⟨v,H1,I2,ru,q⟩
theorem ps_fld (ha:PE X o ta) (hv:PE X value tv) (hs:swapsWith value (some (.Attribute o f pos')) pos.line X.env=pure false):PS X (.Assign [.Attribute o f pos'] value pos) (sFld X.K ta tv f):=by
 intro pins s σ H D I h
 refine plainObj_wpAny_Assign_Attribute (thn (hv pins s σ H _ I h) fun u s1 ⟨y,H1,I1,ry,q⟩=>thn (ha pins s1 σ H1 _ I1 q) fun ov s2 ⟨x,H2,I2,rx,a,C,dx,fs,ex,ea,c,n,l,q2⟩=>?_) hs
 subst ex
 obtain rfl:ov=Value.ref a:=rx
 exact setattr_ok I2 ea c n l ry fun s3 I3=>⟨σ,_,I3,q2⟩
end
section
variable {X:Cx} {pins:List (Addr × Obj)} {σ:St} {H:Hp} {s:Shared} {A:Around} {E:Value→Shared→Prop} {Q:Value→Shared→Prop} {c:Value} {b:Bool}
end
end L2
namespace L2
open PySem PySem.Spec PyProof.Rows
structure Room (k:Nat) (A:Around):Prop where
 hd:A.handled=none
 dp:A.depth + 3 * k + 5 < recursionLimit
 un:A.units + 16 * k + 200 < cLine
 gd:A.guards=some []
theorem Room.mono {j k:Nat} {A:Around} (r:Room k A) (h:j≤k):Room j A:=⟨r.hd,by have:=r.dp; omega,by have:=r.un; omega,r.gd⟩
theorem Room.deeper {k:Nat} {A:Around} (r:Room (k + 1) A) (env:Env):Room k (A.deeper env) :=
 ⟨r.hd,by have:=r.dp; show A.depth + 1 + 3 * k + 5 < _; omega,by have:=r.un; show A.units + 3 + 16 * k + 200 < _; omega,by first | exact r.gd | (simpa [Around.deeper] using r.gd)⟩
theorem make_depth {A:Around} {C:Addr} {us:List Value} {kw:List (Str × Value)}:(A.under (.builtin "type.__call__" ⟨.ref C :: us,kw⟩)).depth=A.depth + 1:=by
 first | rfl | simp [Around.under,Code.weight,Code.isCreation,Code.isGuard,Code.isCaller,Code.frames,Code.isFrame,guardIds]
theorem make_units {A:Around} {C:Addr} {us:List Value} {kw:List (Str × Value)}:(A.under (.builtin "type.__call__" ⟨.ref C :: us,kw⟩)).units=A.units + 1:=by
 first | rfl | simp [Around.under,Code.cUnits,Code.frames,Code.isFrame]
theorem Room.make {k:Nat} {A:Around} (r:Room (k + 1) A) (C:Addr) (us:List Value) (kw:List (Str × Value)):Room k (A.under (.builtin "type.__call__" ⟨.ref C :: us,kw⟩)) :=
 ⟨r.hd,by have:=r.dp; rw [make_depth]; omega,by have:=r.un; rw [make_units]; omega,by first | exact r.gd | (simpa [Around.under,Code.isGuard,guardIds] using r.gd)⟩
theorem Room.depth {k:Nat} {A:Around} (r:Room k A):A.depth < recursionLimit:=by have:=r.dp; omega
theorem Room.units {k:Nat} {A:Around} (r:Room k A):A.units + 64 < cLine:=by have:=r.un; omega
def tNil:TA:=fun _ H Q=>Q [] H
def tCons (ta:TE) (tr:TA):TA:=fun σ H Q=>ta σ H fun x H1=>tr σ H1 fun xs H2=>Q (x :: xs) H2
section
variable {X:Cx} {e:Expr} {es:List Expr} {te:TE} {t:TA} {pos:Pos}
theorem pa_nil:PA X [] tNil:=fun _ _ _ _ H Q I h=>Calls.spliced_nil ⟨[],H,I,.nil,h⟩
theorem pa_cons (ha:PE X e te) (hr:PA X es t) (hs:starEach (e :: es) X.env=(false,eval e X.env) :: starEach es X.env:=by rfl):PA X (e :: es) (tCons te t):=by
 intro pos pins s σ H Q I h
 rw [hs]
 show wpAny _ _ (spliced ((false,eval e X.env) :: backTo pos (starEach es X.env))) _ _ s
 refine Calls.spliced_cons (thn (ha pins s σ H _ I h) fun u s1 ⟨x,H1,I1,r1,q1⟩=>?_)
 exact thn (hr pos pins s1 σ H1 _ I1 q1) fun us s2 ⟨xs,H2,I2,r2,q2⟩=>⟨x :: xs,H2,I2,.cons r1 r2,q2⟩
def tTup (t:TA):TE:=fun σ H Q=>t σ H fun xs H1=>xs.length≤sizeLine∧∀ p,H1 p=none→Q (.ref p) (upd H1 p (.tup xs))
def tLst (t:TA):TE:=fun σ H Q=>t σ H fun xs H1=>xs.length≤sizeLine∧∀ p,H1 p=none→Q (.ref p) (upd H1 p (.lst xs))
theorem pe_tup {x1} (h:PA X es t):PE X (.Tuple es x1 pos) (tTup t):=by
 intro pins s σ H Q I hq
 refine wpAny_Tuple_spliced (thn (h pos pins s σ H _ I hq) fun us s1 ⟨xs,H1,I1,r,z,q⟩=>⟨by rw [←r.length]; exact z,?_⟩)
 have hf:H1 s1.heap.objs.size=none:=I1.hok.fresh (Nat.le_refl _)
 refine ⟨.ref s1.heap.objs.size,upd H1 s1.heap.objs.size (.tup xs),I1.laid (t':=s1.toks) (fun b u e=>Heap.get?_push_of_some _ e) (Nat.le_refl _) ?_,rfl,q _ hf⟩
 exact ⟨z,us,r,⟨_,Heap.get?_push_size _ rfl,rfl,_,rfl⟩⟩
theorem pe_lst (h:PA X es t):PE X (.List es pos) (tLst t):=by
 intro pins s σ H Q I hq
 refine wpAny_List_spliced (thn (h pos pins s σ H _ I hq) fun us s1 ⟨xs,H1,I1,r,z,q⟩=>⟨by rw [←r.length]; exact z,?_⟩)
 have hf:H1 s1.heap.objs.size=none:=I1.hok.fresh (Nat.le_refl _)
 refine ⟨.ref s1.heap.objs.size,upd H1 s1.heap.objs.size (.lst xs),I1.laid (t':=s1.toks) (fun b u e=>Heap.get?_push_of_some _ e) (Nat.le_refl _) ?_,rfl,q _ hf⟩
 exact ⟨z,us,0,r,Heap.get?_push_size _ rfl⟩
end
abbrev Sp:=List V→Hp→VK→XK→Prop
abbrev CXT:=List Env→Hp→Shared→XK→Value→Shared→Prop
structure Env0 (P:Program) (w:World) (K:PySem.W.Frag) (mg:Str→Option Value) (base:Heap) (A:Around) (outer:List Env) (s:Shared) (H:Hp):Prop where
 frames:A.frames=some outer
 mod:Mod K mg base
 bs:∀ b o,base.get? b=some o→s.heap.get? b=some o∧H b=none
 bsz:base.objs.size≤s.heap.objs.size
 funs:s.heap.FunFrames base outer
 frf:∀ b∈frs outer,H b=none
 hok:HOk P w H s.heap
 bare:AllBare s.gens
def CE (outer:List Env) (P:Program) (w:World) (H:Hp) (s:Shared) (Q:VK) (u:Value) (s':Shared):Prop :=
 ∃ v H',s'.os=s.os∧AllBare s'.gens∧Un (frs outer) [] H H' s.heap s'.heap∧HOk P w H' s'.heap∧RelV v u∧Q v H'
def CR (CX:CXT) (outer:List Env) (P:Program) (w:World) (H:Hp) (s:Shared) (Q:VK) (E:XK) (r:Result) (s':Shared):Prop :=
 match r with
 | .ok (.ret u)=>CE outer P w H s Q u s'
 | .ok _=>False
 | .error e=>CX outer H s E e s'
structure FnOk (P:Program) (w:World) (K:PySem.W.Frag) (mg:Str→Option Value) (base:Heap) (CX:CXT) (k:Nat) (f:Addr) (fd:FuncData) (ps:List Str) (sp:Sp):Prop where
 len:∀ vs H Q E,sp vs H Q E→vs.length=ps.length
 run:∀ (A:Around) (outer:List Env) (s:Shared) (H:Hp) (args:Args) (us:List Value) (vs:List V) (Q:VK) (E:XK),Room k A→Env0 P w K mg base A outer s H→BindsTo s fd args (ps.zip us)→Vals vs us→sp vs H Q E →
  codeAny (model P w) A (.call (.ref f) args) (CR CX outer P w H s Q E) s
theorem Env0.make {P:Program} {w:World} {K:PySem.W.Frag} {mg:Str→Option Value} {base:Heap} {A:Around} {outer:List Env} {s:Shared} {H:Hp} (e:Env0 P w K mg base A outer s H) (C:Addr) (us:List Value) (kw:List (Str × Value)) :
 Env0 P w K mg base (A.under (.builtin "type.__call__" ⟨.ref C :: us,kw⟩)) outer s H:=⟨by first | exact e.frames | (simpa [Around.under,Code.envs,Code.isFrame,pushEnvs] using e.frames),e.mod,e.bs,e.bsz,e.funs,e.frf,e.hok,e.bare⟩
section
variable {X:Cx} {pins:List (Addr × Obj)} {σ:St} {H:Hp} {s s':Shared}
theorem Inv.env0 (I:Inv X pins σ H s):Env0 X.prog X.w X.K X.mg X.base X.A X.stack s H :=
 ⟨I.ok.frames,I.ok.mod,I.bs,Nat.le_trans I.ok.bsz I.sz,I.stack,I.stkFree,I.hok,I.bare⟩
theorem Inv.after {Q:VK} {u:Value} (I:Inv X pins σ H s) (h:CE X.stack X.prog X.w H s Q u s'):EP X pins σ Q u s':=by
 obtain ⟨v,H',os,bare,un,hok,r,q⟩:=h
 obtain ⟨hh,g,d,t,os'⟩:=s'
 obtain rfl:os'=s.os:=os
 exact ⟨v,H',I.call (h':=hh) (g':=g) (d':=d) (t':=t) (ch:=[]) un hok bare (fun b z=>absurd z (by simp)),r,q⟩
end
def tCall (sp:Sp) (dvs:List V) (E:XK) (t:TA):TE:=fun σ H Q=>t σ H fun vs H1=>sp (vs++dvs) H1 Q E
def tMeth (C:Addr) (m:Str) (sp:Sp) (dvs:List V) (E:XK) (ta:TE) (t:TA):TE:=fun σ H Q=>ta σ H fun x H1=>∃ a dx fs,x=.ref a∧H1 a=some (.ins C dx fs)∧fs.lookup m=none ∧
 t σ H1 fun vs H2=>sp (x :: (vs++dvs)) H2 Q E
def tMake (C:Addr) (sp:Sp) (dvs:List V) (E:XK) (t:TA):TE:=fun σ H Q=>t σ H fun vs H1=>∀ x dx,H1 x=none→H1 dx=none→dx≠x →
 sp (.ref x :: (vs++dvs)) (upd (upd H1 dx (.own x)) x (.ins C dx [])) (fun v H2=>v=.non∧Q (.ref x) H2) E
def Binds (K:PySem.W.Frag) (fd:FuncData) (ps:List Str) (ds:List Value):Prop :=
 ∀ (s:Shared) (us:List Value),K.In s.heap→(us++ds).length=ps.length→BindsTo s fd ⟨us,[]⟩ (ps.zip (us++ds))
theorem Binds.all {K:PySem.W.Frag} {fd:FuncData} {ps:List Str} (h:∀ us:List Value,us.length=ps.length→bindArgs fd ⟨us,[]⟩=pure (ps.zip us)):Binds K fd ps []:=fun s us _ hl=>by
 rw [List.append_nil] at hl ⊢
 exact .of_eq (h us hl)
def Passes (CX:CXT) (X:Cx) (E:XK):Prop:=∀ (pins:List (Addr × Obj)) (σ:St) (H:Hp) (s:Shared) (e:Value) (s':Shared),Inv X pins σ H s→CX X.stack H s E e s'→X.xe e s'
section
variable {X:Cx} {CX:CXT} {k:Nat} {f C:Addr} {fd:FuncData} {ps:List Str} {sp:Sp} {dvs:List V} {ds:List Value} {E:XK} {x m:Str} {p pos apos:Pos} {e o:Expr} {es:List Expr} {ta:TE} {t:TA}
theorem run_fn {pins:List (Addr × Obj)} {σ:St} {H:Hp} {s:Shared} {Q:VK} {us:List Value} {vs:List V} (F:FnOk X.prog X.w X.K X.mg X.base CX k f fd ps sp) (hr:Room k X.A) (hb:Binds X.K fd ps ds) (hd:Vals dvs ds) (hx:Passes CX X E)
 (I:Inv X pins σ H s) (r:Vals vs us) (h:sp (vs++dvs) H Q E):wpAny (model X.prog X.w) X.A (call (.ref f) us) (EP X pins σ Q) X.xe s:=by
 have r2:Vals (vs++dvs) (us++ds):=r.append hd
 have hl:(us++ds).length=ps.length:=by rw [←r2.length]; exact F.len _ _ _ _ h
 refine wpAny_call (codeAny_mono (F.run X.A X.stack s H ⟨us,[]⟩ (us++ds) (vs++dvs) Q E hr I.env0 (hb s us I.kIn hl) r2 h) fun r s' hq=>?_)
 cases r with
 | error e=>exact hx pins σ H s e s' I hq
 | ok fl =>
   cases fl with
   | ret u=>exact I.after hq
   | next=>exact False.elim hq
   | brk=>exact False.elim hq
   | cont=>exact False.elim hq
theorem pe_call (F:FnOk X.prog X.w X.K X.mg X.base CX k f fd ps sp) (hr:Room k X.A) (hg:Gl X x) (hm:X.mg x=some (.ref f)) (hk:PySem.W.keepIn X.K (.ref f)=true) (hb:Binds X.K fd ps ds) (hd:Vals dvs ds) (hx:Passes CX X E)
 (ha:PA X (e :: es) t) (hdb:(x == ("__debug__" : Str))=false:=by decide) (he:starEach (e :: es) X.env=(false,eval e X.env) :: starEach es X.env:=by rfl) (hpl:(backTo pos (starEach es X.env)).any (·.1)=false:=by rfl) :
 PE X (.Call (.Name x p) (e :: es) [] pos) (tCall sp dvs E t):=by
 intro pins s σ H Q I h
 refine wpAny_Call_Name_kw (ld_glob I hg hm ?_ hdb)
 refine PySem.W.callWith_K (h₀:=X.base) I.ok.mod.kin hk (thn (ha pos pins s σ H _ I h) fun us s1 ⟨vs,H1,I1,r,q⟩=>⟨I1.kIn,?_⟩) he hpl
 exact run_fn F hr hb hd hx I1 r q
theorem pe_meth {pl:Sem Bool} (he:PE X o ta) (c:Cls X.K C) (hm:Meth X.K C m f) (F:FnOk X.prog X.w X.K X.mg X.base CX k f fd ps sp) (hr:Room k X.A) (hb:Binds X.K fd ps ds) (hd:Vals dvs ds) (hx:Passes CX X E) (ha:PA X (e :: es) t)
 (hst:starEach (e :: es) X.env=(false,eval e X.env) :: starEach es X.env:=by rfl) (hpl:(backTo pos (starEach es X.env)).any (·.1)=false:=by rfl)
 (ht:eval (.Call (.Attribute o m apos) (e :: es) [] pos) X.env=(do
  let ov ←eval o X.env
  standAt apos.atName
  let (f,first) ←holding [ov] (getMethod ov m pl)
  callWith pos f first (backTo pos (starEach (e :: es) X.env)) (backToKw pos (keywordEach [] X.env))):=by rfl) :
 PE X (.Call (.Attribute o m apos) (e :: es) [] pos) (tMeth C m sp dvs E ta t):=by
 intro pins s σ H Q I h
 refine PySem.W.methodCall_KW (pl:=pl) (thn (he pins s σ H _ I h) fun u s1 ⟨x,H1,I1,rx,a,dx,fs,ex,ea,l,q⟩=>?_) ht
 subst ex
 obtain rfl:u=Value.ref a:=rx
 refine getmeth_ok I1 ea c hm l ?_
 refine PySem.W.callWith_K (first:=[.ref a]) (h₀:=X.base) I.ok.mod.kin hm.kp (thn (ha pos pins s1 σ H1 _ I1 q) fun us s2 ⟨vs,H2,I2,r,q2⟩=>⟨I2.kIn,?_⟩) hst hpl
 exact run_fn (us:=.ref a :: us) (vs:=.ref a :: vs) F hr hb hd hx I2 (.cons rfl r) q2
structure Mk (K:PySem.W.Frag) (C f:Addr):Prop where
 makes:PySem.W.makesIn K C=true
 init:PySem.W.findIn K (.ref C) "__init__" = some (some (.ref f))
 fn:PySem.W.isFn K (.ref f)=true
 kp:PySem.W.keepIn K (.ref C)=true
theorem run_make {pins:List (Addr × Obj)} {σ:St} {H:Hp} {s:Shared} {Q:VK} {us:List Value} {vs:List V} (M:Mk X.K C f) (F:FnOk X.prog X.w X.K X.mg X.base CX k f fd ps sp) (hr:Room (k + 1) X.A) (hb:Binds X.K fd ps ds) (hd:Vals dvs ds)
 (hx:Passes CX X E) (I:Inv X pins σ H s) (r:Vals vs us)
 (h:∀ x dx,H x=none→H dx=none→dx≠x→sp (.ref x :: (vs++dvs)) (upd (upd H dx (.own x)) x (.ins C dx [])) (fun v H2=>v=.non∧Q (.ref x) H2) E) :
 wpAny (model X.prog X.w) X.A (call (.ref C) us) (EP X pins σ Q) X.xe s:=by
 have hq:=h (s.heap.objs.size + 1) s.heap.objs.size (I.hok.fresh (Nat.le_succ _)) (I.hok.fresh (Nat.le_refl _)) (Nat.ne_of_lt (Nat.lt_succ_self _))
 have I2:=Inv.made (C:=C) I
 have r2:Vals (V.ref (s.heap.objs.size + 1) :: (vs++dvs)) (Value.ref (s.heap.objs.size + 1) :: (us++ds)):=.cons rfl (r.append hd)
 have hl:(Value.ref (s.heap.objs.size + 1) :: us++ds).length=ps.length:=by
  have e:=r2.length
  rw [F.len _ _ _ _ hq] at e
  exact e.symm
 refine wpAny_call (make_map (f:=f) I.kIn M.makes M.init (beq_iff_eq.mp M.fn) (codeAny_mono (F.run _ X.stack _ _ ⟨Value.ref (s.heap.objs.size + 1) :: us,[]⟩ (Value.ref (s.heap.objs.size + 1) :: (us++ds)) _ _ E (hr.make C us [])
  (I2.env0.make C us []) (hb _ (Value.ref (s.heap.objs.size + 1) :: us) I2.kIn hl) r2 hq) fun r s' hq'=>?_))
 cases r with
 | error e=>exact hx pins σ _ _ e s' I2 hq'
 | ok fl =>
   cases fl with
   | ret u =>
     obtain ⟨v,H',I3,rv,ev,q3⟩:=I2.after hq'
     subst ev
     exact ⟨rv,⟨V.ref (s.heap.objs.size + 1),H',I3,rfl,q3⟩⟩
   | next=>exact False.elim hq'
   | brk=>exact False.elim hq'
   | cont=>exact False.elim hq'
theorem pe_make (M:Mk X.K C f) (F:FnOk X.prog X.w X.K X.mg X.base CX k f fd ps sp) (hr:Room (k + 1) X.A) (hg:Gl X x) (hm:X.mg x=some (.ref C)) (hb:Binds X.K fd ps ds) (hd:Vals dvs ds) (hx:Passes CX X E)
 (ha:PA X (e :: es) t) (hdb:(x == ("__debug__" : Str))=false:=by decide) (he:starEach (e :: es) X.env=(false,eval e X.env) :: starEach es X.env:=by rfl) (hpl:(backTo pos (starEach es X.env)).any (·.1)=false:=by rfl) :
 PE X (.Call (.Name x p) (e :: es) [] pos) (tMake C sp dvs E t):=by
 intro pins s σ H Q I h
 refine wpAny_Call_Name_kw (ld_glob I hg hm ?_ hdb)
 refine PySem.W.callWith_K (h₀:=X.base) I.ok.mod.kin M.kp (thn (ha pos pins s σ H _ I h) fun us s1 ⟨vs,H1,I1,r,q⟩=>⟨I1.kIn,?_⟩) he hpl
 exact run_make M F hr hb hd hx I1 r q
theorem pe_make0 (M:Mk X.K C f) (F:FnOk X.prog X.w X.K X.mg X.base CX k f fd ps sp) (hr:Room (k + 1) X.A) (hg:Gl X x) (hm:X.mg x=some (.ref C)) (hb:Binds X.K fd ps ds) (hd:Vals dvs ds) (hx:Passes CX X E)
 (hdb:(x == ("__debug__" : Str))=false:=by decide):PE X (.Call (.Name x p) [] [] pos) (tMake C sp dvs E tNil):=by
 intro pins s σ H Q I h
 refine wpAny_Call_Name_kw (ld_glob I hg hm ?_ hdb)
 exact PySem.W.callWith_K0 I.kIn M.kp (run_make (us:=[]) M F hr hb hd hx I .nil h)
end
section
variable {X:Cx} {CX:CXT} {k:Nat} {f C:Addr} {fd:FuncData} {ps ks:List Str} {sp:Sp} {E:XK} {x m:Str} {p pos apos kpos:Pos} {e o:Expr} {es:List Expr} {kws:List Keyword} {te ta:TE} {t tk:TA} {nm:Option Str}
variable {g:List Value→List Value→List Value} {gV:List V→List V→List V}
end
structure FnScope (N P:List Str) (sc:Scope):Prop where
 kind:sc.kind=.function
 co:sc.isCoroutine=false
 gen:sc.isGenerator=false
 nd:N.Nodup
 pre:N.take P.length=P
 par:∀ x∈P,sc.names.lookup x=some .local∨sc.names.lookup x=some .cell
 nofree:∀ y∈sc.names,y.2≠.free
theorem bindL_out {kindOf:Str→Option NameKind} {x:Str}:∀ {binds:List (Str × Value)} {m:Str→Option Value},(∀ v,(x,v) ∉ binds)→bindL kindOf binds m x=m x
 | [],_,_=>rfl
 | (n,v) :: r,m,h=>by
   unfold bindL
   rw [bindL_out fun w hw=>h w (List.mem_cons_of_mem _ hw)]
   split
   · have:x≠n:=by rintro rfl; exact h v List.mem_cons_self
     simp [this]
   · rfl
theorem bindC_out {kindOf:Str→Option NameKind} {x:Str}:∀ {binds:List (Str × Value)} {m:Str→Option Value},(∀ v,(x,v) ∉ binds)→bindC kindOf binds m x=m x
 | [],_,_=>rfl
 | (n,v) :: r,m,h=>by
   unfold bindC
   rw [bindC_out fun w hw=>h w (List.mem_cons_of_mem _ hw)]
   split
   · rfl
   · have:x≠n:=by rintro rfl; exact h v List.mem_cons_self
     simp [this]
theorem bindL_get {kindOf:Str→Option NameKind} {x:Str} {v:Value}:∀ {P:List Str} {vs:List Value} {i:Nat} {m:Str→Option Value},P.Nodup→P[i]?=some x→vs[i]?=some v→kindOf x=some .local →
 bindL kindOf (P.zip vs) m x=some v
 | [],_,_,_,_,h,_,_=>by simp at h
 | _ :: _,[],_,_,_,_,h,_=>by simp at h
 | p :: P,w :: vs,0,m,nd,h1,h2,hk=>by
   simp at h1 h2; subst h1; subst h2
   show bindL kindOf ((p,w) :: P.zip vs) m p=_
   unfold bindL
   rw [bindL_out fun v hv=>(List.nodup_cons.mp nd).1 (List.of_mem_zip hv).1,if_pos hk]
   simp
 | p :: P,w :: vs,i + 1,m,nd,h1,h2,hk=>by
   show bindL kindOf ((p,w) :: P.zip vs) m x=_
   unfold bindL
   exact bindL_get (i:=i) (List.nodup_cons.mp nd).2 (by simpa using h1) (by simpa using h2) hk
theorem bindC_get {kindOf:Str→Option NameKind} {x:Str} {v:Value}:∀ {P:List Str} {vs:List Value} {i:Nat} {m:Str→Option Value},P.Nodup→P[i]?=some x→vs[i]?=some v→kindOf x≠some .local →
 bindC kindOf (P.zip vs) m x=some v
 | [],_,_,_,_,h,_,_=>by simp at h
 | _ :: _,[],_,_,_,_,h,_=>by simp at h
 | p :: P,w :: vs,0,m,nd,h1,h2,hk=>by
   simp at h1 h2; subst h1; subst h2
   show bindC kindOf ((p,w) :: P.zip vs) m p=_
   unfold bindC
   rw [bindC_out fun v hv=>(List.nodup_cons.mp nd).1 (List.of_mem_zip hv).1,if_neg hk]
   simp
 | p :: P,w :: vs,i + 1,m,nd,h1,h2,hk=>by
   show bindC kindOf ((p,w) :: P.zip vs) m x=_
   unfold bindC
   exact bindC_get (i:=i) (List.nodup_cons.mp nd).2 (by simpa using h1) (by simpa using h2) hk
def start (N:List Str) (vs:List V):St:=vs.map some++List.replicate (N.length - vs.length) none
def cxOf (CX:CXT) (P:Program) (w:World) (K:PySem.W.Frag) (mg:Str→Option Value) (base:Heap) (N:List Str) (qual:Str) (scope:Scope) (f:Addr) (cd:Value) (A:Around) (outer:List Env) (s:Shared) (H:Hp) (E:XK):Cx where
 prog:=P
 w:=w
 K:=K
 mg:=mg
 base:=base
 A:=A.deeper (envOfC qual scope s.heap.objs.size f cd)
 N:=N
 s₀:=s
 H₀:=H
 env:=envOfC qual scope s.heap.objs.size f cd
 outer:=outer
 stack:=envOfC qual scope s.heap.objs.size f cd :: outer
 ex:=[]
 calm:=true
 fn:=fun _=>true
 pn:=[]
 xe:=fun e s'=>wpAny (model P w) (A.deeper (envOfC qual scope s.heap.objs.size f cd)) («leaving» (envOfC qual scope s.heap.objs.size f cd) e) (fun _ s''=>CX outer H s E e s'') (fun e' s''=>CX outer H s E e' s'') s'
theorem cell_has {sc:Scope} {n:Nat} {x:Str} (h:sc.names.lookup x=some .cell):∃ c,(cellsFrom n sc.names []).lookup x=some c:=by
 have q:=PySem.W.cellsFrom_some sc.names n [] (.inl h)
 exact Option.isSome_iff_exists.mp q
theorem inv_start {CX:CXT} {P:Program} {w:World} {K:PySem.W.Frag} {mg:Str→Option Value} {base:Heap} {N ps:List Str} {qual:Str} {scope:Scope} {f:Addr} {cd:Value} {A:Around} {outer:List Env} {s s1:Shared} {H:Hp} {E:XK} {us:List Value} {vs:List V}
 (S:FnScope N ps scope) (hd:A.handled=none) (e0:Env0 P w K mg base A outer s H) (hl:vs.length=ps.length) (r:Vals vs us)
 (x:InCallC s s.heap.objs.size (bindL (envOfC qual scope s.heap.objs.size f cd).kindOf (ps.zip us) fun _=>none) (cellsFrom (s.heap.objs.size + 1) scope.names []) (bindC (envOfC qual scope s.heap.objs.size f cd).kindOf (ps.zip us) fun _=>none) s1) :
 Inv (cxOf CX P w K mg base N qual scope f cd A outer s H E) [] (start N vs) H s1:=by
 have hpl:ps.length≤N.length:=by have:=congrArg List.length S.pre; rw [List.length_take] at this; omega
 obtain ⟨h1,tk,rfl,hk⟩:=x.done
 have noA:∀ b:Addr,b ∉ (cxOf CX P w K mg base N qual scope f cd A outer s H E).ex:=fun b z=>absurd (show b∈([]:List Addr) from z) (by simp)
 refine ⟨⟨e0.mod,S.kind,rfl,rfl,Nat.le_refl _,fun y z c h1 h2=>?_,fun y hy=>?_,fun y c _ h=>?_,fun _=>hd,Around.frames_deeper e0.frames,.inr ⟨rfl,rfl⟩,fun b z=>absurd z (noA b),e0.bs,e0.bsz,fun b _ _=>noA b,fun b z=>absurd z (noA b),e0.funs,e0.frf⟩,
  rfl,e0.bare,Un.kept hk,⟨_,x.toInCall.ns,fun i y v h1 h2 h3=>?_⟩,fun y c h=>⟨_,x.cell y c h⟩,e0.hok.fresh (Nat.le_refl _),fun y c h=>?_,fun p hp=>absurd (show p∈([]:List (Addr × Obj)) from hp) (by simp),e0.hok.kept hk,?_⟩
 · exact name_of_addr x.apart (PySem.mem_of_lookup h1) (PySem.mem_of_lookup h2)
 · have hy:scope.names.lookup y=some .cell∨scope.names.lookup y=some .free:=hy
   rcases hy with hy | hy
   · exact cell_has hy
   · exact absurd rfl (S.nofree _ (PySem.mem_of_lookup hy))
 · exact Nat.le_of_lt (x.above y c (PySem.mem_of_lookup h))
 · have hi:i < vs.length:=by
    unfold start at h2
    by_cases hi:i < vs.length
    · exact hi
    · rw [List.getElem?_append_right (by simpa using hi)] at h2
      rw [List.getElem?_replicate] at h2
      split at h2 <;> cases h2
   have ha:vs[i]?=some v:=by
    unfold start at h2
    rw [List.getElem?_append_left (by simpa using hi),List.getElem?_map] at h2
    cases e:vs[i]? with
    | none=>rw [e] at h2; cases h2
    | some a=>rw [e] at h2; cases h2; rfl
   obtain ⟨u,hu,rv⟩:=r.get ha
   have hp:ps[i]?=some y:=by
    rw [←S.pre,List.getElem?_take_of_lt (by omega)]; exact h1
   have ndP:ps.Nodup:=by rw [←S.pre]; exact S.nd.sublist (List.take_sublist _ _)
   refine ⟨u,rv,?_⟩
   rcases S.par y (List.mem_of_getElem? hp) with k | k
   · exact .inl ⟨k,bindL_get ndP hp hu k⟩
   · obtain ⟨c,e⟩:=cell_has (n:=s.heap.objs.size + 1) k
     refine .inr ⟨.inl k,c,e,?_⟩
     have q:=x.cell y c e
     rw [bindC_get ndP hp hu (by show scope.names.lookup y≠_; rw [k]; decide)] at q
     exact q
 · exact e0.hok.fresh (Nat.le_of_lt (x.above y c (PySem.mem_of_lookup h)))
 · unfold start
   show _=N.length
   rw [List.length_append,List.length_map,List.length_replicate]
   omega
theorem fn_of {CX:CXT} {P:Program} {w:World} {K:PySem.W.Frag} {mg:Str→Option Value} {base:Heap} {k:Nat} {f:Addr} {name qual:Str} {params:Arguments} {body:List Stmt} {scope:Scope} {dV kV doc pm cdv ct oc:Value} {an od:Option Addr}
 {osl:Array (Option Value)} {N ps:List Str} {sp:Sp} (lk:K.lookup f=some ⟨oc,od,.func (PySem.W.fnOf name qual params body scope dV kV doc pm an cdv ct),osl⟩) (hcd:PySem.W.codeIn K cdv qual=true) (S:FnScope N ps scope)
 (len:∀ vs H Q E,sp vs H Q E→vs.length=ps.length)
 (hbody:∀ (A:Around) (outer:List Env) (s:Shared) (H:Hp) (vs:List V) (Q:VK) (E:XK),Room k (A.deeper (envOfC qual scope s.heap.objs.size f cdv))→sp vs H Q E →
  ∃ t,PSs (cxOf CX P w K mg base N qual scope f cdv A outer s H E) body t∧t { nx:=fun _ H'=>Q .non H',rt:=Q } (start N vs) H) :
 FnOk P w K mg base CX (k + 1) f (PySem.W.fnOf name qual params body scope dV kV doc pm an cdv ct) ps sp:=by
 refine ⟨len,fun A outer s H args us vs Q E hr e0 hb r hsp=>?_⟩
 have hl:=len _ _ _ _ hsp
 have KX:K.In s.heap:=e0.mod.kin.keeps fun b o e=>(e0.bs b o e).1
 have lim:s.heap.NoLimit:=e0.mod.nolimit.keeps fun b o e=>(e0.bs b o e).1
 have hkind:∀ y∈ps.zip us,scope.names.lookup y.1=some .local∨(scope.names.lookup y.1=some .cell∧((cellsFrom (s.heap.objs.size + 1) scope.names []).lookup y.1).isSome=true):=fun ⟨n,v⟩ hy=>by
  rcases S.par n (List.of_mem_zip hy).1 with q | q
  · exact .inl q
  · exact .inr ⟨q,PySem.W.cellsFrom_some _ _ _ (.inl q)⟩
 refine codeAny_call_function hr.depth (KX _ _ lk) rfl S.co S.gen rfl (PySem.W.codeRec_of KX hcd) (hb _ _ _ _ ?_)
 refine wpAny_newFunctionEnv_cells S.kind hkind fun env he s1 x=>?_
 subst he
 refine ⟨lim.keeps x.toInCall.keep,codeAny_func ?_⟩
 obtain ⟨t,ht,hq⟩:=hbody A outer s H vs Q E (hr.deeper _) hsp
 have I:Inv (cxOf CX P w K mg base N qual scope f cdv A outer s H E) [] (start N vs) H s1:=inv_start S hr.hd e0 hl r x
 refine wpAny_mono (ht [] s1 (start N vs) H _ I hq) (fun fl s' hs=>?_) fun e s' hs=>hs
 have fin:∀ {σ':St} {H':Hp} {v:V} {u:Value},Inv (cxOf CX P w K mg base N qual scope f cdv A outer s H E) [] σ' H' s'→RelV v u→Q v H'→CE outer P w H s Q u s' :=
  fun {σ' H' v u} J rv q=>⟨v,H',J.os,J.bare,J.base,J.hok,rv,q⟩
 cases fl with
 | ret u =>
   obtain ⟨v,σ',H',J,rv,q⟩:=hs
   exact fin J rv q
 | next =>
   obtain ⟨σ',H',J,q⟩:=hs
   exact fin (v:=V.non) (u:=Value.none) J rfl q
 | brk =>
   obtain ⟨_,_,_,q⟩:=hs
   exact False.elim q
 | cont =>
   obtain ⟨_,_,_,q⟩:=hs
   exact False.elim q
end L2
namespace L2
open PySem PySem.Spec PyProof.Rows
section
variable {X:Cx} {x:Str} {p pos:Pos} {e:Expr} {es:List Expr} {t:TA} {id T:String} {r:List V→Hp→VK→Prop}
def tCB (r:List V→Hp→VK→Prop) (t:TA):TE:=fun σ H Q=>t σ H fun vs H1=>r vs H1 Q
theorem pe_callB (hc:CallR X (.builtin id) r) (hm:X.mg x=none) (ha:PA X (e :: es) t) (hg:Gl X x:=by rfl) (hv:bootBuiltins x=some (.builtin id):=by decide +kernel) (hn:x ≠ "__name__" := by decide) (hdb:(x == ("__debug__" : Str))=false:=by decide)
 (he:starEach (e :: es) X.env=(false,eval e X.env) :: starEach es X.env:=by rfl) (hpl:(backTo pos (starEach es X.env)).any (·.1)=false:=by rfl):PE X (.Call (.Name x p) (e :: es) [] pos) (tCB r t):=by
 intro pins s σ H Q I h
 refine wpAny_Call_Name_kw (ld_blt I hg hm hv ?_ hn hdb)
 exact PyProof.Rows.callWith_builtin1 (thn (ha pos pins s σ H _ I h) fun us s1 ⟨vs,H1,I1,r1,q1⟩=>hc pins s1 σ H1 vs us Q I1 r1 q1) he hpl
theorem pe_callTy (hc:CallR X (.type T) r) (hm:X.mg x=none) (ha:PA X (e :: es) t) (hg:Gl X x:=by rfl) (hv:bootBuiltins x=some (.type T):=by decide +kernel) (hn:x ≠ "__name__" := by decide) (hdb:(x == ("__debug__" : Str))=false:=by decide)
 (he:starEach (e :: es) X.env=(false,eval e X.env) :: starEach es X.env:=by rfl) (hpl:(backTo pos (starEach es X.env)).any (·.1)=false:=by rfl):PE X (.Call (.Name x p) (e :: es) [] pos) (tCB r t):=by
 intro pins s σ H Q I h
 refine wpAny_Call_Name_kw (ld_blt I hg hm hv ?_ hn hdb)
 exact PyProof.Rows.callWith_type1 (thn (ha pos pins s σ H _ I h) fun us s1 ⟨vs,H1,I1,r1,q1⟩=>hc pins s1 σ H1 vs us Q I1 r1 q1) he hpl
end
end L2
namespace HT
open PySem PyProof.Rows
section
open PySem.SeqAt
open PySem.AutoSeq1 (wpAny_loadPart')
open PySem.MeetsSeq PySem.MeetsSeq2 PySem.MeetsSeq3
end
section
variable {prog:Program} {w:World} {A:Around} {E:Value→Shared→Prop} {s:Shared}
def sIx (n d:Nat):Option Int→Nat
 | none=>d
 | some v=>if v < 0 then (v + (n:Int)).toNat else min v.toNat n
theorem sIx_none (n d:Nat):sIx n d none=d:=rfl
theorem sIx_nat (n d k:Nat):sIx n d (some (k:Int))=min k n:=by
 show (if (k:Int) < 0 then ((k:Int) + (n:Int)).toNat else min (k:Int).toNat n)=min k n
 rw [if_neg (by omega),Int.toNat_natCast]
end
end HT
namespace L2
open PySem PySem.Spec PyProof.Rows
abbrev TO:=St→Hp→(Option Int→Hp→Prop)→Prop
def PO (X:Cx) (e:Option Expr) (t:TO):Prop :=
 ∀ (pins:List (Addr × Obj)) (s:Shared) (σ:St) (H:Hp) (Q:Option Int→Hp→Prop),Inv X pins σ H s→t σ H Q →
  wpAny (model X.prog X.w) X.A (evalPart e X.env) (fun u s'=>∃ o H',Inv X pins σ H' s'∧IsPart u o∧Q o H') X.xe s
def tNoPart:TO:=fun _ H Q=>Q none H
def tPart (t:TE):TO:=fun σ H Q=>t σ H fun x H1=>∃ i,x=.int i∧Q (some i) H1
section
variable {X:Cx} {e:Expr} {te:TE} {lo hi:Option Expr} {tl th:TO} {pos p2:Pos}
theorem po_none:PO X none tNoPart:=by
 intro pins s σ H Q I h
 rw [evalPart_none]
 exact wpAny_pure ⟨none,H,I,.none,h⟩
theorem po_some (h:PE X e te):PO X (some e) (tPart te):=by
 intro pins s σ H Q I hw
 rw [evalPart_some]
 refine thn (h pins s σ H _ I hw) fun u s1 ⟨x,H1,I1,r1,q1⟩=>?_
 obtain ⟨i,rfl,q⟩:=q1
 obtain ⟨t,rfl⟩:=r1
 exact ⟨some i,H1,I1,.int i t,q⟩
def SlR (X:Cx) (r:V→Option Int→Option Int→Hp→VK→Prop):Prop :=
 ∀ (pins:List (Addr × Obj)) (s:Shared) (σ:St) (H:Hp) (x:V) (v vl vu:Value) (lo hi:Option Int) (sl:Addr) (Q:VK),Inv X pins σ H s→RelV x v→s.heap.IsSliceOf sl vl vu .none→IsPart vl lo→IsPart vu hi→r x lo hi H Q →
  ∃ T id,typeLookup (.type T) "__getitem__" = pure (some (.builtin id))∧s.TypeIs v T∧wpAny (model X.prog X.w) X.A (getItem v (.ref sl)) (EP X pins σ Q) X.xe s
def tSl (r:V→Option Int→Option Int→Hp→VK→Prop) (te:TE) (tl th:TO):TE:=fun σ H Q=>te σ H fun x H1=>tl σ H1 fun l H2=>th σ H2 fun u H3=>r x l u H3 Q
theorem pe_slice {r:V→Option Int→Option Int→Hp→VK→Prop} (hr:SlR X r) (he:PE X e te) (hl:PO X lo tl) (hu:PO X hi th):PE X (.Subscript e (.Slice lo hi none p2) pos) (tSl r te tl th):=by
 intro pins s σ H Q I h
 refine Subscript_ (thn (he pins s σ H _ I h) fun v s1 ⟨x,H1,I1,r1,q1⟩=>?_)
 refine wpAny_Slice (thn (hl pins s1 σ H1 _ I1 q1) fun vl s2 ⟨l,H2,I2,pl,q2⟩=>thn (hu pins s2 σ H2 _ I2 q2) fun vu s3 ⟨u,H3,I3,pu,q3⟩=>?_)
 rw [evalPart_none]
 refine wpAny_pure ?_
 have I4:Inv X pins σ H3 { s3 with heap:=s3.heap.push { cls:=.type "slice",data:=.fields #[vl,vu,.none] } }:=I3.kept (t':=s3.toks) fun b ob q=>Heap.get?_push_of_some _ q
 obtain ⟨T,id,hT,ht,hg⟩:=hr pins { s3 with heap:=s3.heap.push { cls:=.type "slice",data:=.fields #[vl,vu,.none] } } σ H3 x v vl vu l u s3.heap.objs.size Q I4 r1 (Heap.IsSliceOf.new ..) pl pu q3
 show wpAny (model X.prog X.w) X.A (subscriptTail e (.Slice lo hi none p2) v (.ref s3.heap.objs.size)) (EP X pins σ Q) X.xe { s3 with heap:=s3.heap.push { cls:=.type "slice",data:=.fields #[vl,vu,.none] } }
 exact tail_any (ops:=[.ref s3.heap.objs.size,v]) ht hT hg (by with_unfolding_all rfl)
def cutV (xs:List V) (lo hi:Option Int):List V:=(xs.drop (HT.sIx xs.length 0 lo)).take (HT.sIx xs.length xs.length hi - HT.sIx xs.length 0 lo)
theorem cutV_length (xs:List V) (lo hi:Option Int):(cutV xs lo hi).length≤xs.length:=by
 unfold cutV
 rw [List.length_take,List.length_drop]
 omega
end
end L2
namespace L2
open PySem PySem.Spec PyProof.Rows
def ixN (n:Nat) (i:Int):Option Nat:=if 0≤i then (if i < n then some i.toNat else none) else if -(n:Int)≤i then some (i + n).toNat else none
def atI {α:Type} (xs:List α) (i:Int):Option α:=(ixN xs.length i).bind fun j=>xs[j]?
theorem ixN_seq {n:Nat} {i:Int} {j:Nat} (h:ixN n i=some j):seqIndex? i n=some j∧j < n∧-(n:Int)≤i∧i < n:=by
 unfold ixN at h
 by_cases h0:0≤i
 · rw [if_pos h0] at h
   by_cases h1:i < n
   · rw [if_pos h1] at h
     have e:i.toNat=j:=Option.some.inj h
     exact ⟨by rw [seqIndex_of h0 h1,e],by omega,by omega,h1⟩
   · rw [if_neg h1] at h; cases h
 · rw [if_neg h0] at h
   by_cases h1:-(n:Int)≤i
   · rw [if_pos h1] at h
     have e:(i + n).toNat=j:=Option.some.inj h
     exact ⟨by rw [seqIndex_neg (by omega) h1,e],by omega,h1,by omega⟩
   · rw [if_neg h1] at h; cases h
theorem atI_get {α:Type} {xs:List α} {i:Int} {v:α} (h:atI xs i=some v):∃ j,seqIndex? i xs.length=some j∧xs[j]?=some v∧j < xs.length∧-(xs.length:Int)≤i∧i < xs.length:=by
 unfold atI at h
 cases e:ixN xs.length i with
 | none=>rw [e] at h; cases h
 | some j =>
   rw [e] at h
   obtain ⟨h1,h2,h3,h4⟩:=ixN_seq e
   exact ⟨j,h1,h,h2,h3,h4⟩
theorem atI_nat {α:Type} {xs:List α} {j:Nat} {v:α} (h:xs[j]?=some v):atI xs (j:Int)=some v:=by
 have hj:j < xs.length:=(List.getElem?_eq_some_iff.mp h).1
 have e:ixN xs.length (j:Int)=some j:=by
  unfold ixN
  rw [if_pos (by omega),if_pos (by omega)]; simp
 unfold atI; rw [e]; exact h
def PlainIx (b:Expr):Prop:=∀ o i,subscripted b false o i=operate [o,i] (getItem o i)
def IxR (X:Cx) (r:R2):Prop :=
 ∀ (value slice:Expr) (pins:List (Addr × Obj)) (s:Shared) (σ:St) (H:Hp) (x y:V) (v u:Value) (Q:VK),Inv X pins σ H s→RelV x v→RelV y u→r x y H Q →
  subscripted slice false v u=operate [v,u] (getItem v u)→wpAny (model X.prog X.w) X.A (subscriptTail value slice v u) (EP X pins σ Q) X.xe s
def MtR (X:Cx) (id:String) (r:V→List V→Hp→VK→Prop):Prop :=
 ∀ (pins:List (Addr × Obj)) (s:Shared) (σ:St) (H:Hp) (x:V) (xs:List V) (v:Value) (us:List Value) (Q:VK),Inv X pins σ H s→RelV x v→Vals xs us→r x xs H Q →
  wpAny (model X.prog X.w) X.A (call (.builtin id) (v :: us)) (EP X pins σ Q) X.xe s
section
variable {X:Cx} {a b:Expr} {ta tb:TE} {pos:Pos}
theorem IxR.or {r r':R2} (h:IxR X r) (h':IxR X r'):IxR X (fun x y H Q=>r x y H Q∨r' x y H Q):=by
 intro value slice pins s σ H x y v u Q I rx ry q hs
 rcases q with q | q
 · exact h value slice pins s σ H x y v u Q I rx ry q hs
 · exact h' value slice pins s σ H x y v u Q I rx ry q hs
theorem pe_ix {r:R2} (hr:IxR X r) (ha:PE X a ta) (hb:PE X b tb) (hs:PlainIx b:=by exact fun _ _=>rfl):PE X (.Subscript a b pos) (tOp r ta tb):=by
 intro pins s σ H Q I h
 exact Subscript_ (binT ha hb I h fun v u s2 x y H2 I2 rx ry q=>hr a b pins s2 σ H2 x y v u Q I2 rx ry q (hs _ _))
def rIxL (K:PySem.W.Frag):R2:=fun x y H Q=>∃ p xs i v,x=.ref p∧y=.int i∧SqL K H p xs∧atI xs i=some v∧Q v H
def rIxT (K:PySem.W.Frag):R2:=fun x y H Q=>∃ p xs i v,x=.ref p∧y=.int i∧SqT K H p xs∧atI xs i=some v∧Q v H
def rIxS:R2:=fun x y H Q=>∃ z i c,x=.str z∧y=.int i∧z.length≤sizeLine∧atI z.cps.toList i=some c∧Q (.str ⟨#[c]⟩) H
theorem ix_list:IxR X (rIxL X.K):=by
 intro value slice pins s σ H x y v u Q I rx ry h hs
 obtain ⟨p,xs,i,z,rfl,rfl,hq,he,q⟩:=h
 cases rx
 obtain ⟨t,rfl⟩:=ry
 obtain ⟨its,r,pl,hz⟩:=I.list hq
 obtain ⟨j,h1,h2,h3,h4,h5⟩:=atI_get he
 obtain ⟨w,ew,rw'⟩:=r.get h2
 have hl:=r.length
 have hn:=line63
 have fin:EP X pins σ Q w s:=⟨z,H,I,rw',q⟩
 by_cases h0:0≤i
 · have hj:i.toNat=j:=by
    rw [seqIndex_of h0 h5] at h1
    exact Option.some.inj h1
   exact item_listR pl.isList h0 (by omega) (by rw [hj]; simpa using ew) fin hs
 · have hj:(i + (its.toArray.size:Int)).toNat=j:=by
    rw [seqIndex_neg (by omega) h4] at h1
    rw [List.size_toArray,←hl]
    exact Option.some.inj h1
   exact subscriptTail_builtinR (x:=w) pl.isList.typeIs slot_list_getitem.lookup
    (wpAny_getItem_list_neg (Q:=fun r s'=>r=w∧EP X pins σ Q r s') pl.isList (by omega) (by rw [List.size_toArray] <;> omega) (by omega) (by rw [hj]; simpa using ew) ⟨rfl,fin⟩) hs
theorem ix_tup:IxR X (rIxT X.K):=by
 intro value slice pins s σ H x y v u Q I rx ry h hs
 obtain ⟨p,xs,i,z,rfl,rfl,hq,he,q⟩:=h
 cases rx
 obtain ⟨t,rfl⟩:=ry
 obtain ⟨its,r,pl,hz⟩:=I.tuple hq
 obtain ⟨j,h1,h2,h3,h4,h5⟩:=atI_get he
 obtain ⟨w,ew,rw'⟩:=r.get h2
 have hl:=r.length
 have hn:=line63
 have fin:EP X pins σ Q w s:=⟨z,H,I,rw',q⟩
 exact subscriptTail_builtinR (x:=w) pl.typeIs slot_tuple_getitem.lookup
  (getItem_tuple (j:=j) (Q:=fun r s'=>r=w∧EP X pins σ Q r s') pl (by omega) (by omega) (by rw [List.size_toArray,←hl]; exact h1) (by simpa using ew) ⟨rfl,fin⟩) hs
theorem ix_str:IxR X rIxS:=by
 intro value slice pins s σ H x y v u Q I rx ry h hs
 obtain ⟨z,i,c,rfl,rfl,hz,he,q⟩:=h
 obtain ⟨t,rfl⟩:=rx
 obtain ⟨t',rfl⟩:=ry
 obtain ⟨j,h1,h2,h3,h4,h5⟩:=atI_get he
 have hl:z.cps.toList.length=z.length:=by simp [Str.length]
 rw [hl] at h1 h4 h5
 have hn:=line63
 exact tail_any (typeIs_str s z t) slot_str_getitem.lookup (getItem_str (c:=c) (by
  have e1:decide (i < -(2 ^ 63:Int))=false:=decide_eq_false (by omega)
  have e2:decide (i ≥ 2 ^ 63)=false:=decide_eq_false (by omega)
  rw [e1,e2,Bool.or_false]) (by rw [h1]; simpa using h2) ⟨.str ⟨#[c]⟩,H,I.tok _,⟨_,rfl⟩,q⟩) hs
def rIx (K:PySem.W.Frag):R2:=fun x y H Q=>rIxL K x y H Q∨rIxT K x y H Q∨rIxS x y H Q
theorem ix_seq:IxR X (rIx X.K):=ix_list.or (ix_tup.or ix_str)
theorem mapSeq_set (its:List Value) (n j:Nat) (u:Value):Obj.mapSeq (·.setIfInBounds j u) { cls:=.type "list",data:=.seq its.toArray n }={ cls:=.type "list",data:=.seq (its.set j u).toArray n }:=by
 simp [Obj.mapSeq]
theorem Inv.lst {pins:List (Addr × Obj)} {σ:St} {H:Hp} {s:Shared} {p:Addr} {xs:List V} (I:Inv X pins σ H s) (h:H p=some (.lst xs)) :
 ∃ (its:List Value) (n:Nat),Vals xs its∧s.heap.get? p=some { cls:=.type "list",data:=.seq its.toArray n }∧xs.length≤sizeLine:=by
 obtain ⟨z,its,n,r,e⟩:=I.hok p _ h
 exact ⟨its,n,r,e,z⟩
theorem Inv.lstUpd {pins:List (Addr × Obj)} {σ:St} {H:Hp} {s:Shared} {p:Addr} {xs ys:List V} {its its':List Value} {n n':Nat} {f:Obj→Obj} (I:Inv X pins σ H s) (h:H p=some (.lst xs))
 (ho:s.heap.get? p=some { cls:=.type "list",data:=.seq its.toArray n }) (hf:f { cls:=.type "list",data:=.seq its.toArray n }={ cls:=.type "list",data:=.seq its'.toArray n' }) (r:Vals ys its') (hz:ys.length≤sizeLine) (t:Nat) :
 Inv X pins σ (upd H p (.lst ys)) { s with heap:=s.heap.update p f,toks:=t }:=by
 have e:(s.heap.update p f).get? p=some { cls:=.type "list",data:=.seq its'.toArray n' }:=by
  rw [Heap.get?_update_self f ho (by rw [hf] <;> rfl),hf]
 refine I.write (x:=p) (e:=p) (by rw [h]; trivial) (.inl rfl) (fun b u hb q=>(Heap.get?_update_other _ _ (Ne.symm hb)).trans q) ⟨_,e⟩ ?_
 exact ⟨hz,its',n',r,e⟩
def rSetL:V→V→V→Hp→(Hp→Prop)→Prop:=fun o i v H Q=>∃ p xs k j,o=.ref p∧i=.int k∧H p=some (.lst xs)∧ixN xs.length k=some j∧Q (upd H p (.lst (xs.set j v)))
theorem set_list:PSet X rSetL:=by
 intro pins s σ H o i v ov iv u Q I ro ri rv h
 obtain ⟨p,xs,k,j,rfl,rfl,hp,hj,q⟩:=h
 cases ro
 obtain ⟨t,rfl⟩:=ri
 obtain ⟨its,n,r,ho,hz⟩:=I.lst hp
 obtain ⟨h1,h2,h3,h4⟩:=ixN_seq hj
 have hl:=r.length
 have hn:=line63
 have I':Inv X pins σ (upd H p (.lst (xs.set j v))) { s with heap:=s.heap.update p (Obj.mapSeq (·.setIfInBounds j u)) } :=
  I.lstUpd hp ho (mapSeq_set its n j u) (r.set rv j) (by rw [List.length_set]; exact hz) s.toks
 by_cases h0:0≤k
 · have hk:k.toNat=j:=by
    rw [seqIndex_of h0 h4] at h1
    exact Option.some.inj h1
   exact PySem.W.ki_setAt ho h0 (by omega) (by rw [List.size_toArray,←hl]; exact h4) (by rw [hk]; exact ⟨_,I',q⟩)
 · have hk:(k + (its.toArray.size:Int)).toNat=j:=by
    rw [seqIndex_neg (by omega) h3] at h1
    rw [List.size_toArray,←hl]
    exact Option.some.inj h1
   exact PySem.W.ki_setBack ho (by omega) (by rw [List.size_toArray,←hl]; exact h3) (by omega) (by rw [hk]; exact ⟨_,I',q⟩)
theorem slice_bounds (lo hi:Option Int) (n:Nat):(sliceBounds lo hi none n).1=((HT.sIx n 0 lo:Nat):Int)∧(sliceBounds lo hi none n).2.1=((HT.sIx n n hi:Nat):Int)∧(sliceBounds lo hi none n).2.2=1:=by
 refine ⟨?_,?_,rfl⟩
 · cases lo with
   | none=>simp [sliceBounds,HT.sIx]
   | some i =>
     simp only [sliceBounds,HT.sIx,Option.getD_none,show (1:Int) > 0 by decide,if_true]
     by_cases h:i < 0
     · simp only [h,if_true] <;> omega
     · simp only [h,if_false] <;> omega
 · cases hi with
   | none=>simp [sliceBounds,HT.sIx]
   | some i =>
     simp only [sliceBounds,HT.sIx,Option.getD_none,show (1:Int) > 0 by decide,if_true]
     by_cases h:i < 0
     · simp only [h,if_true] <;> omega
     · simp only [h,if_false] <;> omega
theorem slicePick_cut (its:List Value) (lo hi:Option Int):slicePick its.toArray lo hi none=((its.drop (HT.sIx its.length 0 lo)).take (HT.sIx its.length its.length hi - HT.sIx its.length 0 lo)).toArray:=by
 obtain ⟨h1,h2,h3⟩:=slice_bounds lo hi its.toArray.size
 unfold slicePick
 rw [h1,h2,h3]
 simp only [sliceRange_one,pick_run,List.size_toArray] <;> rfl
def rSlL (K:PySem.W.Frag):V→Option Int→Option Int→Hp→VK→Prop:=fun x lo hi H Q=>∃ a xs,x=.ref a∧SqL K H a xs∧∀ p,H p=none→Q (.ref p) (upd H p (.lst (cutV xs lo hi)))
theorem sl_list:SlR X (rSlL X.K):=by
 intro pins s σ H x v vl vu lo hi sl Q I rx hs pl pu h
 obtain ⟨a,xs,rfl,hx,q⟩:=h
 cases rx
 obtain ⟨its,r,ht,hz⟩:=I.list hx
 have hlen:=r.length
 refine ⟨"list",_,slot_list_getitem.lookup,ht.isList.typeIs,?_⟩
 refine wpAny_getItem_list_slice ht.isList hs pl pu .none (by simp) ?_ (by rw [List.size_toArray] <;> omega)
 rw [slicePick_cut,←hlen]
 refine ⟨.ref s.heap.objs.size,_,I.laid (t':=s.toks) (o:=.lst (cutV xs lo hi)) (fun b ob q=>Heap.get?_push_of_some _ q) (Nat.le_refl _) ?_,rfl,q _ (I.hok.fresh (Nat.le_refl _))⟩
 exact ⟨Nat.le_trans (cutV_length xs lo hi) hz,_,0,(r.drop (HT.sIx xs.length 0 lo)).take (HT.sIx xs.length xs.length hi - HT.sIx xs.length 0 lo),Heap.get?_push_size _ rfl⟩
def flatV:V→Bool
 | .non=>true
 | .bl _=>true
 | .int _=>true
 | .str _=>true
 | _=>false
def eqV:V→V→Bool
 | .non,.non=>true
 | .bl a,.bl b=>a == b
 | .bl a,.int b=>(if a then 1 else 0) == b
 | .int a,.bl b=>a == (if b then 1 else 0)
 | .int a,.int b=>a == b
 | .str a,.str b=>a == b
 | _,_=>false
theorem eqAt_V {A:Around} {s:Shared} {y x:V} {u v:Value} (ry:RelV y u) (rx:RelV x v) (fy:flatV y=true) (fx:flatV x=true):SeqAt.EqAt A s u v (eqV y x):=by
 cases y with
 | non =>
   cases ry
   cases x with
   | non=>cases rx; exact SeqAt.EqAt.same _
   | bl b=>cases rx; exact SeqAt.EqAt.none_bool b
   | int b=>obtain ⟨t,rfl⟩:=rx; exact SeqAt.EqAt.none_int b t
   | str b=>obtain ⟨t,rfl⟩:=rx; exact SeqAt.EqAt.none_str b t
   | _=>exact absurd (show false=true from fx) Bool.false_ne_true
 | bl a =>
   cases ry
   cases x with
   | non=>cases rx; exact SeqAt.EqAt.bool_none a
   | bl b=>cases rx; exact SeqAt.EqAt.bool_bool a b
   | int b=>obtain ⟨t,rfl⟩:=rx; exact SeqAt.EqAt.bool_int a b t
   | str b=>obtain ⟨t,rfl⟩:=rx; exact SeqAt.EqAt.bool_str a b t
   | _=>exact absurd (show false=true from fx) Bool.false_ne_true
 | int a =>
   obtain ⟨t',rfl⟩:=ry
   cases x with
   | non=>cases rx; exact SeqAt.EqAt.int_none a t'
   | bl b=>cases rx; exact SeqAt.EqAt.int_bool a t' b
   | int b=>obtain ⟨t,rfl⟩:=rx; exact SeqAt.EqAt.int_int a t' b t
   | str b=>obtain ⟨t,rfl⟩:=rx; exact SeqAt.EqAt.int_str a t' b t
   | _=>exact absurd (show false=true from fx) Bool.false_ne_true
 | str a =>
   obtain ⟨t',rfl⟩:=ry
   cases x with
   | non=>cases rx; exact SeqAt.EqAt.str_none a t'
   | bl b=>cases rx; exact SeqAt.EqAt.str_bool a t' b
   | int b=>obtain ⟨t,rfl⟩:=rx; exact SeqAt.EqAt.str_int a t' b t
   | str b=>obtain ⟨t,rfl⟩:=rx; exact SeqAt.EqAt.str_str a t' b t
   | _=>exact absurd (show false=true from fx) Bool.false_ne_true
 | _=>exact absurd (show false=true from fy) Bool.false_ne_true
def eqU (x:V) (u:Value):Bool:=match u with
 | .none=>eqV .non x
 | .bool b=>eqV (.bl b) x
 | .int i _=>eqV (.int i) x
 | .str z _=>eqV (.str z) x
 | _=>false
theorem eqU_of {x y:V} {u:Value} (r:RelV y u) (f:flatV y=true):eqU x u=eqV y x:=by
 cases y with
 | non=>cases r; rfl
 | bl b=>cases r; rfl
 | int i=>obtain ⟨t,rfl⟩:=r; rfl
 | str z=>obtain ⟨t,rfl⟩:=r; rfl
 | _=>exact absurd (show false=true from f) Bool.false_ne_true
theorem any_eqU {x:V}:∀ {xs:List V} {us:List Value},Vals xs us→xs.all flatV=true→us.any (eqU x)=xs.any fun y=>eqV y x
 | _,_,.nil,_=>rfl
 | y :: xs,u :: us,.cons r t,f=>by
   rw [List.all_cons,Bool.and_eq_true] at f
   rw [List.any_cons,List.any_cons,eqU_of r f.1,any_eqU t f.2]
theorem mem_eqAt {A:Around} {s:Shared} {x:V} {v:Value} (rx:RelV x v) (fx:flatV x=true):∀ {xs:List V} {us:List Value},Vals xs us→xs.all flatV=true→∀ u∈us,SeqAt.EqAt A s u v (eqU x u)
 | _,_,.nil,_=>fun u hu=>by cases hu
 | y :: xs,u :: us,.cons r t,f=>fun u' hu=>by
   rw [List.all_cons,Bool.and_eq_true] at f
   rcases List.mem_cons.mp hu with rfl | hu
   · rw [eqU_of r f.1]; exact eqAt_V r rx f.1 fx
   · exact mem_eqAt rx fx t f.2 u' hu
def inV (x:V) (xs:List V):Bool:=xs.any fun y=>eqV y x
def rIn (K:PySem.W.Frag) (neg:Bool):R2:=fun x y H Q=>∃ p xs,y=.ref p∧(SqL K H p xs∨SqT K H p xs)∧flatV x=true∧xs.all flatV=true∧Q (.bl (if neg then !inV x xs else inV x xs)) H
theorem op_in_seq:OpR X (compareOp .In) (rIn X.K false):=by
 intro pins s σ H x y v u Q I rx ry h
 obtain ⟨p,xs,rfl,hq,fx,fs,q⟩:=h
 cases ry
 rcases hq with hq | hq
 · obtain ⟨its,r,pl,hz⟩:=I.list hq
   refine SeqAt.in_listAt (eqU x) pl.isList (fun w hw=>mem_eqAt rx fx r fs w (by simpa using hw)) ⟨.bl _,H,I,rfl,?_⟩
   rw [show its.toArray.any (eqU x)=its.any (eqU x) by simp,any_eqU r fs]
   exact q
 · obtain ⟨its,r,pl,hz⟩:=I.tuple hq
   refine SeqAt.in_tupleAt (eqU x) pl (fun w hw=>mem_eqAt rx fx r fs w (by simpa using hw)) ⟨.bl _,H,I,rfl,?_⟩
   rw [show its.toArray.any (eqU x)=its.any (eqU x) by simp,any_eqU r fs]
   exact q
theorem call_list_of:CallR X (.type "list") (fun xs H Q=>∃ p ys,xs=[.ref p]∧(SqL X.K H p ys∨SqT X.K H p ys)∧∀ l,H l=none→Q (.ref l) (upd H l (.lst ys))):=by
 intro pins s σ H xs us Q I r h
 obtain ⟨p,ys,rfl,hq,q⟩:=h
 obtain ⟨u,rfl,rx⟩:=vals1 r
 cases rx
 have fin:∀ (its:List Value),Vals ys its→ys.length≤sizeLine→∀ (h':Heap) (c':Nat),(∀ b o',s.heap.get? b=some o'→h'.get? b=some o') →
  h'.get? s.heap.objs.size=some { cls:=.type "list",dict:=none,data:=.seq its.toArray c',slots:=#[] }→EP X pins σ Q (.ref s.heap.objs.size) { s with heap:=h' }:=fun its r' hz h' c' kp e =>
  ⟨.ref s.heap.objs.size,_,I.laid (t':=s.toks) kp (Nat.le_refl _) (show ObjOk X.prog X.w _ h' _ (.lst ys) from ⟨hz,its,c',r',e⟩),rfl,q _ (I.hok.fresh (Nat.le_refl _))⟩
 rcases hq with hq | hq
 · obtain ⟨its,r',pl,hz⟩:=I.list hq
   have hlen:=r'.length
   obtain ⟨o,ho,hc,n,hd⟩:=pl.isList
   exact call_list_seq p (.inl rfl) ho hc hd (fun h' c' kp e=>fin its r' hz h' c' kp e) (by simp only [List.size_toArray] <;> omega)
 · obtain ⟨its,r',pl,hz⟩:=I.tuple hq
   have hlen:=r'.length
   obtain ⟨o,ho,hc,n,hd⟩:=pl
   exact call_list_seq p (.inr rfl) ho hc hd (fun h' c' kp e=>fin its r' hz h' c' kp e) (by simp only [List.size_toArray] <;> omega)
theorem call_tuple_of:CallR X (.type "tuple") (fun xs H Q=>∃ p ys,xs=[.ref p]∧((SqL X.K H p ys∧∀ l,H l=none→Q (.ref l) (upd H l (.tup ys)))∨(SqT X.K H p ys∧Q (.ref p) H))):=by
 intro pins s σ H xs us Q I r h
 obtain ⟨p,ys,rfl,h⟩:=h
 obtain ⟨u,rfl,rx⟩:=vals1 r
 cases rx
 rcases h with ⟨hq,q⟩ | ⟨hq,q⟩
 · obtain ⟨its,r',pl,hz⟩:=I.list hq
   have hlen:=r'.length
   refine call_tuple_list pl.isList (fun h' kp=>?_) (by simp only [List.size_toArray] <;> omega)
   have I1:Inv X pins σ H { s with heap:=h' }:=I.kept (t':=s.toks) kp
   have I2:Inv X pins σ (upd H h'.objs.size (.tup ys)) { s with heap:=h'.push { cls:=.type "tuple",data:=.seq its.toArray } } :=
    I1.laid (t':=s.toks) (fun b o e=>Heap.get?_push_of_some _ e) (Nat.le_refl _) (show ObjOk X.prog X.w _ _ _ (.tup ys) from ⟨hz,its,r',IsTup.new _ _⟩)
   exact ⟨.ref h'.objs.size,_,I2,rfl,q _ (I1.hok.fresh (Nat.le_refl _))⟩
 · obtain ⟨its,r',pl,hz⟩:=I.tuple hq
   exact call_tuple_same pl ⟨.ref p,H,I,rfl,q⟩
def tyV (K:PySem.W.Frag) (T:String) (x:V) (H:Hp):Prop:=match x with
 | .str _=>T = "str"
 | .int _=>T = "int"
 | .ref p=>(T = "list" ∧ ∃ xs,SqL K H p xs)∨(T = "tuple" ∧ ∃ o,K.lookup p=some o∧o.cls=.type "tuple" ∧ o.dict=none) ∨
  (T = "dict" ∧ ((∃ kvs,H p=some (.dK kvs))∨∃ kvs,H p=some (.dT kvs)))∨(T = "set" ∧ ∃ S n,H p=some (.set S n))
 | _=>False
theorem tyV_is {pins : List (Addr × Obj)} {σ : St} {H : Hp} {s : Shared} {T : String} {x : V} {v : Value} (I : Inv X pins σ H s) (r : RelV x v) (ty : tyV X.K T x H) :
 s.TypeIs v T∧∀ a,v=.ref a→∃ ob,s.heap.get? a=some ob∧ob.dict=none:=by
 cases x with
 | str z =>
   obtain ⟨t,rfl⟩:=r
   cases (show T = "str" from ty)
   exact ⟨typeIs_str s z t,fun _ e=>nomatch e⟩
 | int i =>
   obtain ⟨t,rfl⟩:=r
   cases (show T = "int" from ty)
   exact ⟨typeIs_int s i t,fun _ e=>nomatch e⟩
 | ref p =>
   cases r
   rcases ty with ⟨rfl,xs,hq⟩ | ⟨rfl,o,hk,hc,hd⟩ | ⟨rfl,hk⟩ | ⟨rfl,S,n,hk⟩
   · obtain ⟨its,_,pl,_⟩:=I.list hq
     refine ⟨pl.isList.typeIs,fun a e=>?_⟩
     cases e
     obtain ⟨o,n,e,c,hd,_⟩:=pl
     exact ⟨o,e,hd⟩
   · refine ⟨⟨o,I.kIn p o hk,hc⟩,fun a e=>?_⟩
     cases e
     exact ⟨o,I.kIn _ o hk,hd⟩
   · have z:∃ o,s.heap.get? p=some o∧o.ExactDict:=by
      rcases hk with ⟨kvs,hk⟩ | ⟨kvs,hk⟩
      · obtain ⟨_,_,_,_,o,_,_,e,ex,_⟩:=I.hok p _ hk
        exact ⟨o,e,ex⟩
      · obtain ⟨_,_,_,_,o,_,_,e,ex,_⟩:=I.hok p _ hk
        exact ⟨o,e,ex⟩
     obtain ⟨o,e,ex⟩:=z
     refine ⟨⟨o,e,ex.1⟩,fun a e2=>?_⟩
     cases e2
     exact ⟨o,e,ex.2.1⟩
   · obtain ⟨o,_,_,_,e,ex,_⟩:=I.hok p _ hk
     refine ⟨⟨o,e,ex.1⟩,fun a e2=>?_⟩
     cases e2
     exact ⟨o,e,ex.2.1⟩
 | _=>exact False.elim ty
def tBM (K:PySem.W.Frag) (T:String) (r:V→List V→Hp→VK→Prop) (to:TE) (t:TA):TE:=fun σ H Q=>to σ H fun x H1=>tyV K T x H1∧t σ H1 fun xs H2=>r x xs H2 Q
variable {o e:Expr} {es:List Expr} {to:TE} {t:TA} {name:Str} {apos cpos:Pos} {T id:String} {r:V→List V→Hp→VK→Prop}
theorem pe_bm (pa:PlainAttrs T) (slot:Slot T name id) (hty:typeOf (.builtin id)=pure (.type "method_descriptor")) (hm:MtR X id r) (ho:PE X o to) (ha:PA X (e :: es) t)
 (hbase:attributeBase o name X.env (eval o X.env)=eval o X.env:=by rfl)
 (hfew:((backTo cpos (starEach (e :: es) X.env)).all (fun x=>!x.1) && (backToKw cpos (keywordEach [] X.env)).all (fun x=>x.1.isSome)
  && decide ((e :: es).length + ([]:List Keyword).length + (if ([]:List Keyword).isEmpty then 0 else 1) < 30))=true:=by rfl)
 (hline:(apos.endLine == cpos.line)=true:=by rfl) (hs:starEach (e :: es) X.env=(false,eval e X.env) :: starEach es X.env:=by rfl) (hplain:(backTo cpos (starEach es X.env)).any (·.1)=false:=by rfl) :
 PE X (.Call (.Attribute o name apos) (e :: es) [] cpos) (tBM X.K T r to t):=by
 intro pins s σ H Q I h
 refine wpAny_Call_method_late hbase hfew hline rfl (thn (ho pins s σ H _ I h) fun v s1 ⟨x,H1,I1,r1,ty,q1⟩=>?_)
 obtain ⟨h1,h2⟩:=tyV_is I1 r1 ty
 refine ⟨T,id,pa,slot,hty,h1,h2,?_⟩
 have hA:=ha cpos pins s1 σ H1 _ I1 q1
 rw [hs] at hA ⊢
 refine Calls.callWith_builtin (by show (false || (backTo cpos (starEach es X.env)).any (·.1))=false; rw [hplain] <;> rfl) (Calls.evalArgs_plain ?_)
 exact thn hA fun us s2 ⟨vs,H2,I2,r2,q2⟩=>hm pins s2 σ H2 x vs v us Q I2 r1 r2 q2
end
end L2
namespace L2
open PySem PySem.Spec PyProof.Rows
def MtM (X:Cx) (id:String) (r:V→List V→Hp→VK→Prop):Prop :=
 ∀ (pins:List (Addr × Obj)) (s:Shared) (σ:St) (H:Hp) (x:V) (xs:List V) (v:Value) (us:List Value) (Q:VK),Inv X pins σ H s→RelV x v→Vals xs us→r x xs H Q →
  wpAny (model X.prog X.w) X.A (call (.builtin id) (v :: us)) (EP X pins σ Q) X.xe s
theorem Vals.one:∀ {x:V} {us:List Value},Vals [x] us→∃ u,us=[u]∧RelV x u
 | _,_,.cons r .nil=>⟨_,rfl,r⟩
section
variable {X:Cx} {pins:List (Addr × Obj)} {σ:St} {H:Hp} {s:Shared} {l b:Addr} {xs ys zs:List V}
theorem Inv.lset {its its':List Value} {n:Nat} {f:Array Value→Array Value} {t':Nat} (I:Inv X pins σ H s) (hH:H l=some (.lst xs))
 (e:s.heap.get? l=some { cls:=.type "list",data:=.seq its.toArray n }) (hf:f its.toArray=its'.toArray) (hv:Vals ys its') (hz:ys.length≤sizeLine) :
 Inv X pins σ (upd H l (.lst ys)) { s with heap:=s.heap.update l (Obj.mapSeq f),toks:=t' }:=by
 have q:=PySem.IsL.update e f
 rw [hf] at q
 refine I.write (x:=l) (e:=l) (by rw [hH]; exact trivial) (.inl rfl) (fun b' u hb hu=>(Heap.get?_update_other s.heap (Obj.mapSeq f) (Ne.symm hb)).trans hu) ⟨_,q⟩ ?_
 exact ⟨hz,its',_,hv,q⟩
theorem Inv.lnew {its:List Value} {t':Nat} (I:Inv X pins σ H s) (hv:Vals ys its) (hz:ys.length≤sizeLine) :
 Inv X pins σ (upd H s.heap.objs.size (.lst ys)) { s with heap:=s.heap.push { cls:=.type "list",data:=.seq its.toArray },toks:=t' } :=
 I.laid (fun _ _ q=>Heap.get?_push_of_some _ q) (Nat.le_refl _) ⟨hz,its,0,hv,Heap.get?_push_size _ rfl⟩
theorem Inv.fresh (I:Inv X pins σ H s):H s.heap.objs.size=none:=I.hok.fresh (Nat.le_refl _)
theorem Inv.lstM (I:Inv X pins σ H s) (hH:H l=some (.lst xs)):xs.length≤sizeLine∧∃ (its:List Value) (n:Nat),Vals xs its∧xs.length=its.length∧s.heap.get? l=some { cls:=.type "list",data:=.seq its.toArray n }:=by
 obtain ⟨z,its,n,r,e⟩:=I.hok l _ hH
 exact ⟨z,its,n,r,r.length,e⟩
theorem notLongL {n:Nat} (h:n≤sizeLine):Builtin.List.listTooLong n=false:=by
 unfold Builtin.List.listTooLong
 exact decide_eq_false (by omega)
end
section
variable {X:Cx}
def rAppend:V→List V→Hp→VK→Prop:=fun x vs H Q=>∃ l xs y,x=.ref l∧vs=[y]∧H l=some (.lst xs)∧xs.length < sizeLine∧Q .non (upd H l (.lst (xs++[y])))
theorem mt_append:MtM X "list.append" rAppend:=by
 intro pins s σ H x vs v us Q I rx rv h
 obtain ⟨l,xs,y,rfl,rfl,hH,hz,q⟩:=h
 cases rx
 obtain ⟨u,rfl,ru⟩:=rv.one
 obtain ⟨z,its,n,r,hl,e⟩:=I.lstM hH
 refine call_meets F.slot_list_append ⟨_,e,rfl⟩ F.entry_list_append (F.args_list_append_2 _ _) (PySem.list_append l its.toArray n u (by rw [List.size_toArray]; omega)) ⟨e,?_⟩
 refine ⟨.non,_,I.lset (its':=its++[u]) hH e (by simp) (r.append (.cons ru .nil)) ?_,rfl,q⟩
 rw [List.length_append,List.length_singleton]
 omega
def rExtend:V→List V→Hp→VK→Prop:=fun x vs H Q=>∃ l b xs zs,x=.ref l∧vs=[.ref b]∧H l=some (.lst xs)∧H b=some (.lst zs)∧xs.length + zs.length≤sizeLine∧Q .non (upd H l (.lst (xs++zs)))
theorem mt_extend:MtM X "list.extend" rExtend:=by
 intro pins s σ H x vs v us Q I rx rv h
 obtain ⟨l,b,xs,zs,rfl,rfl,hH,hB,hz,q⟩:=h
 cases rx
 obtain ⟨u,rfl,ru⟩:=rv.one
 cases ru
 obtain ⟨z,its,n,r,hl,e⟩:=I.lstM hH
 obtain ⟨z2,its2,n2,r2,hl2,e2⟩:=I.lstM hB
 have hsz:its.toArray.size + its2.toArray.size≤sizeLine:=by rw [List.size_toArray,List.size_toArray]; omega
 have hlong:¬ (!its.toArray.isEmpty && Builtin.List.listTooLong (its.toArray.size + its2.toArray.size))=true:=by
  rw [notLongL hsz,Bool.and_false]
  exact Bool.false_ne_true
 refine call_meets F.slot_list_extend ⟨_,e,rfl⟩ F.entry_list_extend (F.args_list_extend_2 _ _)
  (AutoSeq1.list_extend_list_list_0 l its.toArray n b its2.toArray n2 hlong (by rw [List.size_toArray]; omega) (by omega)) ⟨e,e2,?_⟩
 refine ⟨.non,_,I.lset (its':=its++its2) hH e (by simp) (r.append r2) ?_,rfl,q⟩
 rw [List.length_append]
 omega
def rCat:R2:=fun x y H Q=>∃ l b xs zs,x=.ref l∧y=.ref b∧H l=some (.lst xs)∧H b=some (.lst zs)∧xs.length + zs.length≤sizeLine∧∀ p,H p=none→Q (.ref p) (upd H p (.lst (xs++zs)))
theorem op_cat:OpR X (binaryOp .Add) rCat:=by
 intro pins s σ H x y v u Q I rx ry h
 obtain ⟨l,b,xs,zs,rfl,rfl,hH,hB,hz,q⟩:=h
 cases rx
 cases ry
 obtain ⟨z,its,n,r,hl,e⟩:=I.lstM hH
 obtain ⟨z2,its2,n2,r2,hl2,e2⟩:=I.lstM hB
 refine PySem.P.add_list e e2 ?_ (by rw [List.size_toArray,List.size_toArray]; omega)
 have ea:its.toArray++its2.toArray=(its++its2).toArray:=by simp
 rw [ea]
 exact ⟨.ref _,_,I.lnew (t':=s.toks) (r.append r2) (by rw [List.length_append]; omega),rfl,q _ I.fresh⟩
end
section
variable {prog:Program} {w:World} {A:Around} {E:Value→Shared→Prop} {s:Shared}
end
section
variable {X:Cx}
end
end L2
namespace L2
open PySem PySem.Spec PyProof.Rows
section
variable {κ:Type} [DecidableEq κ]
def valV (kvs:List (κ × V)) (k:κ):Option V:=(kvs.find? fun kv=>decide (kv.1=k)).map (·.2)
def putK (kvs:List (κ × V)) (k:κ) (v:V):List (κ × V) :=
 if (kvs.any fun kv=>decide (kv.1=k))=true then kvs.map (fun kv=>if kv.1=k then (kv.1,v) else kv) else kvs++[(k,v)]
theorem valV_pos {p:κ × V} {r:List (κ × V)} {k:κ} (e:p.1=k):valV (p :: r) k=some p.2:=by simp [valV,List.find?_cons,e]
theorem valV_neg {p:κ × V} {r:List (κ × V)} {k:κ} (e:¬ p.1=k):valV (p :: r) k=valV r k:=by simp [valV,List.find?_cons,e]
theorem valV_any (k:κ):∀ kvs:List (κ × V),(kvs.any fun kv=>decide (kv.1=k))=(valV kvs k).isSome
 | []=>rfl
 | p :: r=>by
   rw [List.any_cons]
   by_cases e:p.1=k
   · simp only [valV_pos e,decide_eq_true e,Bool.true_or,Option.isSome_some]
   · rw [valV_neg e,decide_eq_false e,Bool.false_or]; exact valV_any k r
theorem valV_map (k j:κ) (y:V):∀ kvs:List (κ × V),valV (kvs.map fun kv=>if kv.1=k then (kv.1,y) else kv) j=(valV kvs j).map fun x=>if j=k then y else x
 | []=>rfl
 | p :: r => by
   have ih:=valV_map k j y r
   rw [List.map_cons]
   by_cases h:p.1=k
   · rw [if_pos h]
     by_cases e:p.1=j
     · rw [valV_pos (p:=(p.1,y)) e,valV_pos e,Option.map_some,if_pos (e.symm.trans h)]
     · rw [valV_neg (p:=(p.1,y)) e,valV_neg e,ih]
   · rw [if_neg h]
     by_cases e:p.1=j
     · rw [valV_pos (p:=p) e,valV_pos e,Option.map_some,if_neg (fun z=>h (e.trans z))]
     · rw [valV_neg (p:=p) e,valV_neg e,ih]
theorem valV_snoc (k j:κ) (y:V):∀ kvs:List (κ × V),valV kvs k=none→valV (kvs++[(k,y)]) j=if j=k then some y else valV kvs j
 | [],_=>by
   by_cases e:k=j
   · rw [if_pos e.symm]; exact valV_pos (p:=(k,y)) e
   · rw [if_neg (fun z=>e z.symm)]; exact valV_neg (p:=(k,y)) e
 | p :: r,hn=>by
   rw [List.cons_append]
   have hk:¬ p.1=k:=fun z=>by rw [valV_pos z] at hn; cases hn
   rw [valV_neg hk] at hn
   have ih:=valV_snoc k j y r hn
   by_cases e:p.1=j
   · rw [valV_pos e,valV_pos e,if_neg (fun z=>hk (e.trans z))]
   · rw [valV_neg e,valV_neg e,ih]
theorem valV_put (kvs:List (κ × V)) (k j:κ) (y:V):valV (putK kvs k y) j=if j=k then some y else valV kvs j:=by
 unfold putK
 by_cases a:(kvs.any fun kv=>decide (kv.1=k))=true
 · rw [if_pos a,valV_map]
   rw [valV_any] at a
   by_cases e:j=k
   · obtain ⟨x,hx⟩:=Option.isSome_iff_exists.mp a
     rw [if_pos e,e,hx,Option.map_some,if_pos rfl]
   · rw [if_neg e]
     cases valV kvs j with
     | none=>rfl
     | some x=>rw [Option.map_some,if_neg e]
 · rw [if_neg a]
   refine valV_snoc k j y kvs ?_
   rw [valV_any] at a
   cases q:valV kvs k with
   | none=>rfl
   | some x=>rw [q] at a; exact (a rfl).elim
theorem length_putK (kvs:List (κ × V)) (k:κ) (v:V):(putK kvs k v).length≤kvs.length + 1:=by
 unfold putK
 split
 · rw [List.length_map]; omega
 · rw [List.length_append,List.length_cons,List.length_nil]; omega
theorem RelO.isSome_eq {o:Option V} {u:Option Value} (r:RelO o u):o.isSome=u.isSome:=by
 cases o with
 | none=>cases u with
   | none=>rfl
   | some _=>exact (show False from r).elim
 | some _=>cases u with
   | none=>exact (show False from r).elim
   | some _=>rfl
theorem KV.val {kvs:List (κ × V)} {vs:List (κ × Value)} (r:KV kvs vs) (k:κ):RelO (valV kvs k) (valueAt vs k):=by
 unfold KV at r
 induction r with
 | nil=>exact True.intro
 | @cons p q ps qs h t ih =>
   obtain ⟨h1,h2⟩:=h
   by_cases e:p.1=k
   · have e':q.1=k:=h1.symm.trans e
     have b:valueAt (q :: qs) k=some q.2:=by simp [valueAt,List.find?_cons,e']
     rw [valV_pos e,b]; exact h2
   · have e':¬ q.1=k:=fun z=>e (h1.trans z)
     have b:valueAt (q :: qs) k=valueAt qs k:=by simp [valueAt,List.find?_cons,e']
     rw [valV_neg e,b]; exact ih
theorem KV.any {kvs:List (κ × V)} {vs:List (κ × Value)} (r:KV kvs vs) (k:κ):(kvs.any fun kv=>decide (kv.1=k))=vs.any fun kv=>decide (kv.1=k):=by
 unfold KV at r
 induction r with
 | nil=>rfl
 | cons h t ih=>rw [List.any_cons,List.any_cons,ih,h.1]
theorem KV.repl {kvs:List (κ × V)} {vs:List (κ × Value)} (r:KV kvs vs) (k:κ) {y:V} {u:Value} (ry:RelV y u) :
 KV (kvs.map fun kv=>if kv.1=k then (kv.1,y) else kv) (vs.map fun kv=>if kv.1=k then (kv.1,u) else kv):=by
 unfold KV at r ⊢
 induction r with
 | nil=>exact .nil
 | @cons p q ps qs h t ih =>
   rw [List.map_cons,List.map_cons]
   refine .cons ?_ ih
   obtain ⟨h1,h2⟩:=h
   by_cases e:p.1=k
   · rw [if_pos e,if_pos (h1.symm.trans e)]; exact ⟨h1,ry⟩
   · rw [if_neg e,if_neg (fun z=>e (h1.trans z))]; exact ⟨h1,h2⟩
theorem KV.put {kvs:List (κ × V)} {vs:List (κ × Value)} (r:KV kvs vs) (k:κ) {y:V} {u:Value} (ry:RelV y u):KV (putK kvs k y) (stored vs k u):=by
 unfold putK stored
 rw [r.any k]
 by_cases e:(vs.any fun kv=>decide (kv.1=k))=true
 · rw [if_pos e,if_pos e]; exact r.repl k ry
 · rw [if_neg e,if_neg e]; exact Paired.snoc r ⟨rfl,ry⟩
end
theorem kV_is {P:Program} {w:World} {k:Key} {u:Value} (r:RelV (kV k) u):(mixKind P w).is k u=true:=by
 cases k with
 | inl i=>obtain ⟨t,e⟩:=(show ∃ t,u=Value.int i t from r); subst e; exact mixKind_int P w i t
 | inr x=>obtain ⟨t,e⟩:=(show ∃ t,u=Value.str x t from r); subst e; exact mixKind_str P w x t
theorem items_are {P:Program} {w:World}:∀ {ks:List Key} {us:List Value},Vals (ks.map kV) us→ItemsAre (mixKind P w) ks us
 | [],_,r=>by rw [List.map_nil] at r; cases r; exact .nil
 | k :: ks,_,r=>by
   rw [List.map_cons] at r
   cases r with
   | cons h t=>exact .cons (kV_is h) (items_are t)
abbrev KT (H:Hp):List (List Key × V)→List (List Key × Addr × Value)→Prop:=Paired fun p q=>p.1=q.1∧H q.2.1=some (.tup (p.1.map kV))∧RelV p.2 q.2.2
theorem KT.val {H:Hp} {kvs:List (List Key × V)} {xs:List (List Key × Addr × Value)} (r:KT H kvs xs) (k:List Key):RelO (valV kvs k) ((atKey xs k).map (·.2)):=by
 induction r with
 | nil=>exact True.intro
 | @cons p q ps qs h t ih =>
   obtain ⟨h1,_,h2⟩:=h
   by_cases e:p.1=k
   · have e':q.1=k:=h1.symm.trans e
     have b:atKey (q :: qs) k=some q.2:=by simp [atKey,List.find?_cons,e']
     rw [valV_pos e,b]; exact h2
   · have e':¬ q.1=k:=fun z=>e (h1.trans z)
     have b:atKey (q :: qs) k=atKey qs k:=by simp [atKey,List.find?_cons,e']
     rw [valV_neg e,b]; exact ih
section
variable {P:Program} {w:World} {H:Hp} {h:Heap} {a:Addr}
theorem rd_of {u:HO} (ok:HOk P w H h) (e:Rd H a u):ObjOk P w H h a u:=e.ok ok
theorem dk_rd {kvs:List (Key × V)} (ok:HOk P w H h) (e:Rd H a (.dK kvs)):kvs.length≤sizeLine∧(a == sysModules)=false∧∃ vs,KV kvs vs∧h.DictOf (mixKind P w) a vs :=
 show ObjOk P w H h a (.dK kvs) from rd_of ok e
theorem dk_of {kvs:List (Key × V)} (ok:HOk P w H h) (e:H a=some (.dK kvs)):kvs.length≤sizeLine∧(a == sysModules)=false∧∃ vs,KV kvs vs∧h.DictOf (mixKind P w) a vs:=dk_rd ok (.inl e)
theorem key_of {ks:List Key} (ok:HOk P w H h) (e:H a=some (.tup (ks.map kV))):(tupleKind (mixKind P w)).is h ks a:=by
 obtain ⟨_,its,r,o,h1,h2,n,h3⟩:=(show ObjOk P w H h a (.tup (ks.map kV)) from ok a _ e)
 exact ⟨o,its.toArray,n,h1,h2,h3,by simpa using items_are r⟩
theorem dt_rd {kvs:List (List Key × V)} (ok:HOk P w H h) (e:Rd H a (.dT kvs)):kvs.length≤sizeLine∧(a == sysModules)=false ∧
 ∃ xs,KT H kvs xs∧h.DictOfH (tupleKind (mixKind P w)) a xs:=by
 obtain ⟨z,y,xs,r,o,es,ep,h1,h2,h3,h4,h5⟩:=(show ObjOk P w H h a (.dT kvs) from rd_of ok e)
 refine ⟨z,y,xs,r,o,es,ep,h1,h2,h3,h4,fun x hx=>?_,h5⟩
 have all : ∀ {l : List (List Key × V)} {m : List (List Key × Addr × Value)}, KT H l m → ∀ x ∈ m, (tupleKind (mixKind P w)).is h x.1 x.2.1 := by
  intro l m q
  induction q with
  | nil=>intro x hx; exact nomatch hx
  | @cons p q ps qs hq t ih =>
    intro x hx
    rcases List.mem_cons.mp hx with e | hx
    · subst e
      exact key_of ok (by rw [←hq.1]; exact hq.2.1)
    · exact ih x hx
 exact all r x hx
end
def DGet (H:Hp) (a:Addr) (y:V) (r:Option V):Prop :=
 (∃ kvs k,Rd H a (.dK kvs)∧y=kV k∧r=valV kvs k)∨∃ kvs k b,Rd H a (.dT kvs)∧y=.ref b∧H b=some (.tup (k.map kV))∧r=valV kvs k
theorem DGet.k {H:Hp} {a:Addr} {kvs:List (Key × V)} {k:Key} (e:H a=some (.dK kvs)):DGet H a (kV k) (valV kvs k):=.inl ⟨kvs,k,.inl e,rfl,rfl⟩
section
variable {X:Cx} {pins:List (Addr × Obj)} {σ:St} {H:Hp} {s:Shared} {a:Addr} {y v:V} {u r:Value} {o:Option V} {A:Around} {E:Value→Shared→Prop}
theorem Inv.big (I:Inv X pins σ H s):sysModules < s.heap.objs.size:=by
 have h:mainGlobals < s.heap.objs.size:=(I.mod.glob.keeps I.bk).lt
 exact Nat.lt_trans (by decide) h
theorem d_getItem {Q:Value→Shared→Prop} (hu:A.units + 1 < cLine) (I:Inv X pins σ H s) (g:DGet H a y (some v)) (ry:RelV y u) (h:∀ w' s',Inv X pins σ H s'→RelV v w'→Q w' s') :
 wpAny (model X.prog X.w) A (getItem (.ref a) u) Q E s:=by
 rcases g with ⟨kvs,k,e,ey,l⟩ | ⟨kvs,k,b,e,ey,eb,l⟩
 · subst ey
   obtain ⟨z,hd,vs,rel,dd⟩:=dk_rd I.hok e
   obtain ⟨w',hw,rw'⟩:=RelO.some_of (v:=v) (o:=valueAt vs k) (by rw [l]; exact rel.val k)
   exact wpAny_getItem_of (kV_is ry) dd.mapOf hw (h w' _ (I.tok _) rw')
 · subst ey
   cases (show u=Value.ref b from ry)
   obtain ⟨z,hd,xs,rel,dd⟩:=dt_rd I.hok e
   obtain ⟨w',hw,rw'⟩:=RelO.some_of (v:=v) (o:=(atKey xs k).map (·.2)) (by rw [l]; exact rel.val k)
   obtain ⟨p,hp,hp2⟩:=Option.map_eq_some_iff.mp hw
   refine wpAny_getItem_heap (tupleKind_room_in1 hu) (key_of I.hok eb) dd hp ?_
   rw [hp2]
   exact h w' _ (I.tok _) rw'
theorem d_notIn {Q:Value→Shared→Prop} (hu:A.units + 1 < cLine) (I:Inv X pins σ H s) (g:DGet H a y o) (ry:RelV y u) (h:∀ s',Inv X pins σ H s'→Q (.bool (!o.isSome)) s') :
 wpAny (model X.prog X.w) A (compareOp .NotIn u (.ref a)) Q E s:=by
 rcases g with ⟨kvs,k,e,ey,l⟩ | ⟨kvs,k,b,e,ey,eb,l⟩
 · subst ey
   obtain ⟨z,hd,vs,rel,dd⟩:=dk_rd I.hok e
   refine wpAny_notIn_of (kV_is ry) hd dd.mapOf ?_
   rw [←(rel.val k).isSome_eq,←l]
   exact h _ (I.tok _)
 · subst ey
   cases (show u=Value.ref b from ry)
   obtain ⟨z,hd,xs,rel,dd⟩:=dt_rd I.hok e
   refine wpAny_notIn_heap (tupleKind_room_in1 hu) (key_of I.hok eb) hd dd ?_
   have q:=(rel.val k).isSome_eq
   rw [Option.isSome_map] at q
   rw [←q,←l]
   exact h _ (I.tok _)
theorem d_write {h':Heap} {t':Nat} {ob:HO} (I:Inv X pins σ H s) (mu:Mut (H a)) (hs:Heap.SameBut a s.heap h') (he:∃ q,h'.get? a=some q) (new:ObjOk X.prog X.w (upd H a ob) h' a ob) :
 Inv X pins σ (upd H a ob) { s with heap:=h',toks:=t' } :=
 I.write (x:=a) (e:=a) mu (.inl rfl) (fun b q hb z=>(hs.2 b hb).trans z) he new
theorem dk_new {P:Program} {w:World} {H':Hp} {h':Heap} {kvs:List (Key × V)} {vs:List (Key × Value)} (z:kvs.length≤sizeLine) (hd:(a == sysModules)=false) (rel:KV kvs vs) (dd:h'.DictOf (mixKind P w) a vs) :
 ObjOk P w H' h' a (.dK kvs):=⟨z,hd,vs,rel,dd⟩
end
section
variable {X:Cx} {pins:List (Addr × Obj)} {σ:St} {H:Hp} {s:Shared} {a:Addr} {kvs:List (Key × V)} {k:Key} {u:Value} {A:Around} {E:Value→Shared→Prop}
end
def NoSl (i:Expr):Prop:=∀ ov iv,subscripted i false ov iv=operate [ov,iv] (getItem ov iv)
theorem subD_of {prog:Program} {w:World} {A:Around} {E:Value→Shared→Prop} {s:Shared} {env:Env} {value slice:Expr} {pos:Pos} {T id:String} {Q:Value→Shared→Prop}
 (hl:typeLookup (.type T) "__getitem__" = pure (some (.builtin id))) (hs:NoSl slice)
 (h:wpAny (model prog w) A (eval value env) (fun o s₁=>wpAny (model prog w) A (eval slice env) (fun i s₂=>s₂.TypeIs o T∧wpAny (model prog w) A (getItem o i) Q E s₂) E s₁) E s) :
 wpAny (model prog w) A (eval (.Subscript value slice pos) env) Q E s:=by
 refine Subscript_ (wpAny_mono h (fun o s₁ h₁=>wpAny_mono h₁ (fun i s₂ h₂=>?_) fun _ _ x=>x) fun _ _ x=>x)
 obtain ⟨hT,h₂⟩:=h₂
 unfold subscriptTail
 refine wpAny_bind ?_
 rw [getitemInPython_of_ne hT.not_modules]
 refine wpAny_bind (wpAny_specialOf hT hl ?_)
 have fin:wpAny (model prog w) A (subscripted slice false o i) (fun r s₃=>wpAny (model prog w) A (letTemporaryGo value o r >>= fun _=>pure r) Q E s₃) E s₂:=by
  rw [hs o i]
  exact wpAny_operating (wpAny_mono h₂ (fun r s₃ h₃=>wpAny_bind (wpAny_letTemporaryGo (wpAny_pure h₃))) fun _ _ x=>x)
 first
  | exact wpAny_pure (wpAny_bind fin)
  | exact wpAny_bind (wpAny_pure (wpAny_bind fin))
  | exact wpAny_bind fin
theorem dict_typeIs {X:Cx} {pins:List (Addr × Obj)} {σ:St} {H:Hp} {s:Shared} {a:Addr} {y:V} {o:Option V} (I:Inv X pins σ H s) (g:DGet H a y o):s.TypeIs (.ref a) "dict" := by
 rcases g with ⟨kvs,k,e,_,_⟩ | ⟨kvs,k,b,e,_,_,_⟩
 · obtain ⟨_,_,vs,_,dd⟩:=dk_rd I.hok e
   exact dd.typeIs
 · obtain ⟨_,_,xs,_,dd⟩:=dt_rd I.hok e
   exact dd.typeIs
def tDGet (td ty:TE):TE:=fun σ H Q=>td σ H fun x H1=>ty σ H1 fun y H2=>∃ a v,x=.ref a∧DGet H2 a y (some v)∧Q v H2
section
variable {X:Cx} {o i e value:Expr} {pos pos' tpos:Pos} {td ty tv:TE}
theorem pe_dget (hu:X.A.units + 1 < cLine) (ho:PE X o td) (hi:PE X i ty) (hs:NoSl i):PE X (.Subscript o i pos) (tDGet td ty):=by
 intro pins s σ H Q I h
 refine subD_of PySem.F.slot_dict_getitem.lookup hs (thn (ho pins s σ H _ I h) fun u s1 ⟨x,H1,I1,rx,q1⟩=>thn (hi pins s1 σ H1 _ I1 q1) fun iv s2 ⟨y,H2,I2,ry,a,v,ex,g,q2⟩=>?_)
 subst ex
 obtain rfl:u=Value.ref a:=rx
 exact ⟨dict_typeIs I2 g,d_getItem hu I2 g ry fun w' s3 I3 rw'=>⟨v,H2,I3,rw',q2⟩⟩
end
theorem dk_empty {P:Program} {w:World} {H:Hp} (h:Heap) (hb:sysModules < h.objs.size):ObjOk P w H (h.push { cls:=.type "dict",data:=.dict #[] }) h.objs.size (.dK []) :=
 ⟨Nat.zero_le _,beq_eq_false_iff_ne.mpr (Ne.symm (Nat.ne_of_lt hb)),[],.nil,Heap.DictOf.new h⟩
section
variable {X:Cx} {pos:Pos}
end
def tPairs:List (TE × TE)→St→Hp→(List (V × V)→Hp→Prop)→Prop
 | [],_,H,Q=>Q [] H
 | (tk,tv) :: r,σ,H,Q=>tk σ H fun x H1=>tv σ H1 fun y H2=>tPairs r σ H2 fun ps H3=>Q ((x,y) :: ps) H3
abbrev VV:List (V × V)→List (Value × Value)→Prop:=Paired fun p q=>RelV p.1 q.1∧RelV p.2 q.2
def PPs (X:Cx) (pos:Pos) (keys:List (Option Expr)) (values:List Expr) (trs:List (TE × TE)):Prop :=
 ∀ (pins:List (Addr × Obj)) (s:Shared) (σ:St) (H:Hp) (Q:List (V × V)→Hp→Prop),Inv X pins σ H s→tPairs trs σ H Q →
  wpAny (model X.prog X.w) X.A (evalPairs (pairTrees keys values X.env pos)) (fun vs s'=>∃ ps H',Inv X pins σ H' s'∧VV ps vs∧Q ps H') X.xe s
theorem pps_nil {X:Cx} {pos:Pos}:PPs X pos [] [] []:=fun pins s σ H Q I h=>pairTrees_nil_walk ⟨[],H,I,.nil,h⟩
theorem pps_cons {X:Cx} {pos:Pos} {k v:Expr} {ks:List (Option Expr)} {vs:List Expr} {tk tv:TE} {trs:List (TE × TE)} (hk:PE X k tk) (hv:PE X v tv) (hr:PPs X pos ks vs trs) :
 PPs X pos (some k :: ks) (v :: vs) ((tk,tv) :: trs):=fun pins s σ H Q I h =>
 pairTrees_cons_walk (thn (hk pins s σ H _ I h) fun u s1 ⟨x,H1,I1,rx,q1⟩=>thn (hv pins s1 σ H1 _ I1 q1) fun w2 s2 ⟨y,H2,I2,ry,q2⟩ =>
  thn (hr pins s2 σ H2 _ I2 q2) fun ws s3 ⟨ps,H3,I3,rel,q3⟩=>⟨(x,y) :: ps,H3,I3,.cons ⟨rx,ry⟩ rel,q3⟩)
def mergeK (kvs more:List (Key × V)):List (Key × V):=more.foldl (fun acc kv=>putK acc kv.1 kv.2) kvs
theorem KV.merge:∀ {more:List (Key × V)} {rs:List (Key × Value)} {kvs:List (Key × V)} {vs:List (Key × Value)},KV more rs→KV kvs vs→KV (mergeK kvs more) (merged vs rs):=by
 intro more rs kvs vs r
 unfold KV at r
 induction r generalizing kvs vs with
 | nil=>intro q; exact q
 | @cons p q ps qs h t ih =>
   intro r0
   have e:KV (putK kvs p.1 p.2) (stored vs q.1 q.2):=by
    have:=r0.put p.1 h.2
    rw [←h.1]; exact this
   exact ih e
theorem length_mergeK:∀ (more kvs:List (Key × V)),(mergeK kvs more).length≤kvs.length + more.length
 | [],kvs=>by show kvs.length≤kvs.length + 0; omega
 | p :: r,kvs=>by
   have h1:=length_mergeK r (putK kvs p.1 p.2)
   have h2:=length_putK kvs p.1 p.2
   show (mergeK (putK kvs p.1 p.2) r).length≤_
   rw [List.length_cons]; omega
theorem carries_of {P:Program} {w:World}:∀ {kvs:List (Key × V)} {ws:List (Value × Value)},VV (kvs.map fun kv=>(kV kv.1,kv.2)) ws→∃ rs,Carries (mixKind P w) ws rs∧KV kvs rs
 | [],_,r=>by rw [List.map_nil] at r; cases r; exact ⟨[],True.intro,.nil⟩
 | p :: kvs, _, r => by
   rw [List.map_cons] at r
   cases r with
   | @cons a b as bs h t =>
     obtain ⟨rs,c,q⟩:=carries_of (P:=P) (w:=w) t
     obtain ⟨b1,b2⟩:=b
     exact ⟨(p.1,b2) :: rs,⟨kV_is h.1,rfl,c⟩,.cons ⟨rfl,h.2⟩ q⟩
def tDisp (trs:List (TE × TE)):TE:=fun σ H Q=>∀ p,H p=none→tPairs trs σ (upd H p (.dK [])) fun ps H2=>H2 p=some (.dK [])∧∃ kvs:List (Key × V),ps=kvs.map (fun kv=>(kV kv.1,kv.2))∧kvs.length≤15∧Q (.ref p) (upd H2 p (.dK (mergeK [] kvs)))
theorem pe_disp {X:Cx} {pos:Pos} {keys:List (Option Expr)} {values:List Expr} {trs:List (TE × TE)} (h:PPs X pos keys values trs) (hall:keys.all (·.isSome)=true) (hl:keys.length=values.length) (h0:keys≠[])
 (h15:keys.length≤15):PE X (.Dict keys values pos) (tDisp trs):=by
 intro pins s σ H Q I q
 have hn:=I.hok.fresh (Nat.le_refl s.heap.objs.size)
 have I1:=I.laid (a:=s.heap.objs.size) (o:=.dK []) (h':=s.heap.push { cls:=.type "dict",data:=.dict #[] }) (t':=s.toks) (fun _ _ q=>Heap.get?_push_of_some _ q) (Nat.le_refl _) (dk_empty s.heap I.big)
 refine wpAny_Dict_walk (knd:=mixKind X.prog X.w) hall hl h0 h15 (thn (h pins _ σ _ _ I1 (q _ hn)) fun ws s2 ⟨ps,H2,I2,rel,e,kvs,ep,lk,q2⟩=>?_)
 subst ep
 obtain ⟨rs,c,rk⟩:=carries_of (P:=X.prog) (w:=X.w) rel
 obtain ⟨z,hd,vs0,r0,dd⟩:=dk_of I2.hok e
 cases r0
 refine ⟨rs,c,dd,fun h' dd' hs=>⟨.ref s.heap.objs.size,_,?_,rfl,q2⟩⟩
 have hz:(mergeK [] kvs).length≤sizeLine:=by
  have h1:=length_mergeK kvs []
  rw [List.length_nil] at h1
  rw [sizeLine_eq]; omega
 have he:∃ q,h'.get? s.heap.objs.size=some q:=let ⟨q,_,_,hq,_⟩:=dd'; ⟨q,hq⟩
 exact d_write I2 (by rw [e]; exact True.intro) hs he (dk_new hz hd (rk.merge .nil) dd')
section
variable {X:Cx} {pins:List (Addr × Obj)} {σ:St} {H:Hp} {s:Shared} {a:Addr} {y d:V} {u r:Value} {o:Option V} {A:Around} {E:Value→Shared→Prop}
end
section
variable {X:Cx} {o e f:Expr} {apos cpos:Pos} {td ty tx:TE}
end
section
variable {X:Cx} {pins:List (Addr × Obj)} {σ:St} {H:Hp} {s:Shared} {a:Addr} {kvs:List (Key × V)} {A:Around} {E:Value→Shared→Prop}
end
section
variable {X:Cx} {pins:List (Addr × Obj)} {σ:St} {H:Hp} {s:Shared} {a:Addr} {y:V} {u:Value} {A:Around} {E:Value→Shared→Prop}
end
end L2
namespace Att
open PySem PySem.W PySem.Calls PyProof.Rows
theorem ints_of_wellAll {P:Params} {h:Heap}:∀ (ns:List Int) (vs:List Value),WellAll P h vs (ns.map WData.int)→IntsAre vs ns:=by
 intro ns
 induction ns with
 | nil =>
   intro vs w
   rw [List.map_nil] at w
   cases w
   exact .nil
 | cons n ns ih =>
   intro vs w
   rw [List.map_cons] at w
   cases w with
   | cons a b =>
     cases a
     exact .cons _ _ (ih _ b)
theorem script_of {l:OpenLaw} {n:Nat} (hn:l.most=some n) {P:Params} {h:Heap} {args:List WData} {vals:List Value}
 (hpre:l.row.toRowW.claim.pre args=true) (hwl:WellAll P h vals args) :
 ∃ a vs ns,vals=[Value.ref a]∧args=[WData.list (ns.map WData.int)]∧h.get? a=some { cls:=.type "list",data:=.seq vs.toArray }∧IntsAre vs ns∧ns.length≤n:=by
 have hsh:WShape.hasAll [] args [.list .int]=true:=(pre_splitW hpre).1
 have hc:l.pre.holds [] { args:=args }=true:=(pre_splitW hpre).2
 obtain ⟨d,r,rfl,h1,h2⟩:=hasAllW_cons hsh
 obtain rfl:=hasAllW_nil h2
 obtain ⟨xs,rfl,h3⟩:=hasW_list h1
 obtain ⟨ns,rfl⟩:=items_int h3
 have hlen:ns.length≤n:=by
  unfold OpenLaw.pre at hc
  have h4:(WTm.not (.lt (.lit (.int (n:Int))) (.len (.arg 0)))).holds [] { args:=[.list (ns.map .int)] }=true:=by
   have h4:=(holds_andW hc).1
   rw [hn] at h4
   exact h4
  have h5:=condW_of h4 (w_not (w_lt w_lit (w_len_list (w_arg rfl))))
  rw [List.length_map] at h5
  refine Nat.le_of_not_lt fun q=>?_
  have q':(n:Int) < ((ns.length:Nat):Int):=by omega
  first
   | (rw [decide_eq_true q'] at h5; exact absurd h5 (by decide))
   | (simp at h5; omega)
 cases hwl with
 | cons w1 w2 =>
   cases w2
   cases w1 with
   | list ho hall=>exact ⟨_,_,ns,rfl,rfl,ho,ints_of_wellAll ns _ hall,hlen⟩
theorem post_true (l:OpenLaw) (args:List WData):l.row.toRowW.claim.post args (.bool true) args=true :=
 postW_of (r:=l.row.toRowW) (X:=(true == true))
  (show WShape.has [] (.bool true) .bool=true by first | rfl | decide | simp [WShape.has,WShape.arms,WShape.armsAll])
  (show (WTm.eq .res (.lit (.bool true))).value [] { args:=args,res:=some (.bool true),after:=args }=some (.bool (true == true)) from w_eq_bool (w_res rfl) w_lit) rfl
theorem attach_call {l:OpenLaw} {n:Nat} {q:Program} {loose:List Str} {XP:(Str→Option Value)→Heap→Prop} {YP:World→Heap→Prop} {d:DefRec}
 (hn:l.most=some n) (hdf:d.params.defaults=[])
 (call:∀ (w:World) (s₀ s₁:Shared) (mg mb:Str→Option Value) (fa:Addr) (o:Obj) (pm cd doc:Value) (a:Addr) (vs:List Value) (ns:List Int),
  Ground q loose [] XP w s₀ mg mb s₁.heap→YP w s₁.heap →
  s₁.heap.get? fa=some o→o.data=.func (docDef d.name d.params d.body d.scope pm cd doc)→s₁.heap.CodeRec cd d.name→mg d.name=some (.ref fa) →
  s₁.heap.get? a=some { cls:=.type "list",data:=.seq vs.toArray }→IntsAre vs ns→ns.length≤n→s₁.gens=#[] →
  codeAny (model l.prog w) callerA (.call (.ref fa) ⟨[.ref a],[]⟩) (fun r s'=>r=.ok (.ret (.bool true))∧OldK s₁.heap s'.heap∧s'.os=s₁.os∧AllBare s'.gens) s₁) :
 WalkO q loose XP YP l.row.toRowW d [] (fun f vs=>PySem.call f vs):=by
 intro w s₀ s₁ mg mb G Y fa o pm cd doc dV kV ho hd hcd hD hmg hg args vals as hpre hlay hrd hwl hlo
 obtain rfl:dV=.none:=Dflts.none hD hdf
 obtain rfl:kV=.none:=Dflts.noKw hD
 obtain ⟨a,vs,ns,rfl,rfl,hobj,hints,hlen⟩:=script_of hn hpre hwl
 refine enter_call (codeAny_mono (call w s₀ s₁ mg mb fa o pm cd doc a vs ns G Y ho (fd_plain hd) hcd hmg hobj hints hlen hg) fun r s' hq=>?_)
 obtain ⟨rfl,h2,h3,h4⟩:=hq
 exact ⟨.inl ⟨.bool true,.bool true,[],rfl,fun _=>rfl,.bool true,post_true l _,fun _=>⟨List.Pairwise.nil,fun _ hm=>(nomatch hm)⟩⟩,h2,h3,h4⟩
section
variable {prog:Program} {w:World} {A:Around} {E:Value→Shared→Prop} {s:Shared} {K:Frag}
end
end Att
namespace L2
open PySem PySem.Spec PyProof.Rows
theorem vals_ints:∀ {vs:List Value} {ns:List Int},IntsAre vs ns→Vals (ns.map V.int) vs
 | _,_,.nil=>.nil
 | _,_,.cons n t h=>.cons ⟨t,rfl⟩ (vals_ints h)
def Only (H:Hp):Prop:=∀ b,H b=none∨∃ o xs,H b=some (.frz o (.lst xs))
theorem law_call {P : Program} {w : World} {K : PySem.W.Frag} {mg mb : Str → Option Value} {CX : CXT} {k : Nat} {fa a : Addr} {fd : FuncData} {x : Str} {sp : Sp} {s₁ : Shared} {vs : List Value} {ns : List Int}
 (KX:K.In s₁.heap) (hns:s₁.heap.Ns mainGlobals mg) (hb:s₁.heap.Ns builtinsNs mb) (hbb:∀ x:Str,x ≠ "__name__" → mb x=bootBuiltins x) (hlim:s₁.heap.NoLimit) (hg:s₁.gens=#[])
 (ha:s₁.heap.get? a=some { cls:=.type "list",data:=.seq vs.toArray }) (hi:IntsAre vs ns) (hl:ns.length≤sizeLine) (hr:Room k callerA)
 (F:∀ base:Heap,K.In base→base.Ns mainGlobals mg→FnOk P w K mg base CX k fa fd [x] sp) (hbind:∀ (s:Shared) (u:Value),BindsTo s fd ⟨[u],[]⟩ [(x,u)])
 (hsp:∀ H:Hp,Only H→SqL K H a (ns.map V.int)→sp [.ref a] H (fun v _=>v=.bl true) fun _ _ _=>False)
 (hCX:∀ H e s',CX [] H s₁ (fun _ _ _=>False) e s'→False) :
 codeAny (model P w) callerA (.call (.ref fa) ⟨[.ref a],[]⟩) (fun r s'=>r=.ok (.ret (.bool true))∧OldK s₁.heap s'.heap∧s'.os=s₁.os∧AllBare s'.gens) s₁:=by
 have rv:=vals_ints hi
 have lenV:=hi.length
 have core : ∀ H : Hp, Only H → SqL K H a (ns.map V.int) → HOk P w H s₁.heap → (∀ b, H b ≠ none → b = a) → (H a ≠ none → K.lookup a = none) →
  codeAny (model P w) callerA (.call (.ref fa) ⟨[.ref a],[]⟩) (fun r s'=>r=.ok (.ret (.bool true))∧OldK s₁.heap s'.heap∧s'.os=s₁.os∧AllBare s'.gens) s₁:=by
  intro H hO hS hok hA hK
  have base_of:∀ {b:Addr} {o:Obj},s₁.heap.get? b=some o→H b=none→(hidT s₁.heap H).get? b=some o:=fun e n=>hidT_get e n
  have noA:∀ {b:Addr} {o:Obj} {es:Array DictEntry} {ep:Nat},s₁.heap.get? b=some o→o.data=.dict es ep→H b=none:=fun {b o es ep} e d=>by
   cases q:H b with
   | none=>rfl
   | some u =>
     have e':b=a:=hA b (by rw [q]; simp)
     subst e'
     rw [ha] at e; cases e
     have d':Data.seq vs.toArray _=Data.dict es ep:=d
     cases d'
  have nsK:∀ {b:Addr} {m:Str→Option Value},s₁.heap.Ns b m→(hidT s₁.heap H).Ns b m:=fun {b m} ⟨o,es,ep,e,d,r⟩=>⟨o,es,ep,base_of e (noA e d),d,r⟩
  have hKb:K.In (hidT s₁.heap H):=fun b o e=>base_of (KX b o e) (by
   cases q:H b with
   | none=>rfl
   | some u =>
     have e':b=a:=hA b (by rw [q]; simp)
     subst e'
     rw [hK (by rw [q]; simp)] at e; cases e)
  have hM:Mod K mg (hidT s₁.heap H):=⟨hKb,nsK hns,⟨mb,nsK hb,hbb⟩,let ⟨mc,h1,h2⟩:=hlim; ⟨mc,nsK h1,h2⟩⟩
  have e0:Env0 P w K mg (hidT s₁.heap H) callerA [] s₁ H:=⟨rfl,hM,fun b o e=>of_hidT e,Nat.le_of_eq (hidT_size _ _),trivial,fun b hb=>absurd (show b∈([]:List Addr) from hb) (by simp),hok,.of_eq hg⟩
  refine codeAny_mono ((F _ hKb (nsK hns)).run callerA [] s₁ H ⟨[.ref a],[]⟩ [.ref a] [.ref a] _ _ hr e0 (hbind s₁ (.ref a)) (.cons rfl .nil) (hsp H hO hS)) fun r s' h=>?_
  cases r with
  | error e=>exact (hCX H e s' h).elim
  | ok fl =>
    cases fl with
    | next=>exact False.elim h
    | brk=>exact False.elim h
    | cont=>exact False.elim h
    | ret u =>
      obtain ⟨v,H',os,bare,un,hok',r',q⟩:=h
      have q':v=.bl true:=q
      subst q'
      obtain rfl:u=Value.bool true:=r'
      refine ⟨rfl,OldK.of_keep fun b o e=>?_,os,bare⟩
      cases q:H b with
      | none=>exact un.keep b o e q (by intro z; exact absurd (show b∈([]:List Addr) from z) (by simp)) (by simp)
      | some u =>
        rcases hO b with z | ⟨ob,xs,z⟩
        · rw [q] at z; cases z
        · have z2:=un.frzs b ob _ z
          obtain ⟨e1,_⟩:=hok b _ z
          obtain ⟨e2,_⟩:=hok' b _ z2
          rw [e] at e1; cases e1
          exact e2
 cases hk:K.lookup a with
 | some o =>
   have e:=KX a o hk
   rw [ha] at e
   cases e
   refine core (fun _=>none) (fun _=>.inl rfl) (.inr ⟨_,vs.toArray,_,hk,rfl,rfl,rfl,by rw [List.size_toArray,lenV]; exact hl,by simpa using rv⟩) (fun b u z=>by have z':(none:Option HO)=some u:=z; cases z') (fun b z=>absurd rfl z) fun z=>absurd rfl z
 | none =>
   refine core (fun b=>if b=a then some (.frz { cls:=.type "list",data:=.seq vs.toArray } (.lst (ns.map V.int))) else none) (fun b=>?_) (.inl (.inr ⟨{ cls:=.type "list",data:=.seq vs.toArray },if_pos rfl⟩)) (fun b u z=>?_) (fun b z=>?_) fun _=>hk
   · by_cases hb:b=a
     · exact .inr ⟨_,_,if_pos hb⟩
     · exact .inl (if_neg hb)
   · by_cases hb:b=a
     · have z':=(if_pos hb).symm.trans z
       cases z'
       subst hb
       exact ⟨ha,by rw [List.length_map]; exact hl,vs,_,rv,ha⟩
     · have z':=(if_neg hb).symm.trans z
       cases z'
   · by_cases hb:b=a
     · exact hb
     · exact absurd (if_neg hb) z
end L2
namespace L2
open PySem PySem.Spec PyProof.Rows
theorem walk_of {l:PySem.W.OpenLaw} {n k:Nat} {q:Program} {loose:List Str} {XP:(Str→Option Value)→Heap→Prop} {YP:World→Heap→Prop} {d:DefRec} {K:Params→PySem.W.Frag} {CX:World→CXT} {sp:World→Sp} {x:Str}
 (hn:l.most=some n) (hn2:n≤sizeLine) (hdf:d.params.defaults=[]) (hr:Room k callerA)
 (hY:∀ (w:World) (h:Heap),YP w h→(K w.params).In h)
 (F:∀ (w:World) (mg:Str→Option Value) (fa:Addr) (h:Heap),(K w.params).In h→h.Ns mainGlobals mg→mg d.name=some (.ref fa) →
  ∃ fd:FuncData,(∀ (s:Shared) (u:Value),BindsTo s fd ⟨[u],[]⟩ [(x,u)]) ∧
   ∀ base:Heap,(K w.params).In base→base.Ns mainGlobals mg→FnOk l.prog w (K w.params) mg base (CX w) k fa fd [x] (sp w))
 (hsp:∀ (w:World) (H:Hp) (a:Addr) (ns:List Int),ns.length≤n→Only H→SqL (K w.params) H a (ns.map V.int)→sp w [.ref a] H (fun v _=>v=.bl true) fun _ _ _=>False)
 (hCX:∀ (w:World) (H:Hp) (s:Shared) (e:Value) (s':Shared),CX w [] H s (fun _ _ _=>False) e s'→False) :
 PySem.W.WalkO q loose XP YP l.row.toRowW d [] (fun f vs=>PySem.call f vs):=by
 refine Att.attach_call hn hdf fun w s₀ s₁ mg mb fa o pm cd doc a vs ns G Y ho hd hcd hmg hobj hints hlen hg=>?_
 have KX:=hY w _ Y
 obtain ⟨fd,hb,hF⟩:=F w mg fa _ KX G.T.g hmg
 exact law_call KX G.T.g G.T.b G.T.builtins G.T.nolimit hg hobj hints (Nat.le_trans hlen hn2) hr hF hb (fun H hO hS=>hsp w H a ns hlen hO hS) fun H e s'=>hCX w H s₁ e s'
end L2
namespace L2
open PySem PySem.Spec PyProof.Rows
abbrev CX0:CXT:=fun _ _ _ _ _ _=>False
abbrev E0:XK:=fun _ _ _=>False
theorem pass0 {X:Cx}:Passes CX0 X E0:=fun _ _ _ _ _ _ _ h=>h.elim
structure Fun (K:PySem.W.Frag) (x qual:Str) (st:Stmt) (f:Addr) (fd:FuncData):Prop where
 ex:∃ (oc:Value) (od:Option Addr) (kV doc pm:Value) (an:Option Addr) (cdv ct:Value) (osl:Array (Option Value)),
  fd=PySem.W.fnOf x qual (defArgs st) (defBody st) (defScope st) .none kV doc pm an cdv ct∧K.lookup f=some ⟨oc,od,.func fd,osl⟩∧PySem.W.codeIn K cdv qual=true
 kp:PySem.W.keepIn K (.ref f)=true
section
variable {P:Program} {w:World} {K:PySem.W.Frag} {mg:Str→Option Value} {base:Heap}
theorem Fun.ok {x qual:Str} {st:Stmt} {f:Addr} {fd:FuncData} {N ps:List Str} {k:Nat} {sp:Sp} (F:Fun K x qual st f fd) (S:FnScope N ps (defScope st)) (len:∀ vs H Q E,sp vs H Q E→vs.length=ps.length)
 (hbody:∀ (cdv:Value) (A:Around) (outer:List Env) (s:Shared) (H:Hp) (vs:List V) (Q:VK) (E:XK),Room k (A.deeper (envOfC qual (defScope st) s.heap.objs.size f cdv))→sp vs H Q E →
  ∃ t,PSs (cxOf CX0 P w K mg base N qual (defScope st) f cdv A outer s H E).nox (defBody st) t∧t { nx:=fun _ H'=>Q .non H',rt:=Q } (start N vs) H):FnOk P w K mg base CX0 (k + 1) f fd ps sp:=by
 obtain ⟨oc,od,kV,doc,pm,an,cdv,ct,osl,rfl,lk,hcd⟩:=F.ex
 refine fn_of lk hcd S len fun A outer s H vs Q E hr hsp=>?_
 obtain ⟨t,h,q⟩:=hbody cdv A outer s H vs Q E hr hsp
 exact ⟨t,h.nox,q⟩
theorem Fun.binds {x qual:Str} {st:Stmt} {f:Addr} {fd:FuncData} {ps:List Str} (F:Fun K x qual st f fd)
 (h:∀ (kV doc pm:Value) (an:Option Addr) (cdv ct:Value) (us:List Value),us.length=ps.length→bindArgs (PySem.W.fnOf x qual (defArgs st) (defBody st) (defScope st) .none kV doc pm an cdv ct) ⟨us,[]⟩=pure (ps.zip us)):Binds K fd ps []:=by
 obtain ⟨oc,od,kV,doc,pm,an,cdv,ct,osl,rfl,lk,hcd⟩:=F.ex
 exact .all (h kV doc pm an cdv ct)
theorem fun_mk {x qual:Str} {st:Stmt} {f:Addr} {oc:Value} {od an:Option Addr} {osl:Array (Option Value)} {kV doc pm cdv ct:Value} (l:K.lookup f=some ⟨oc,od,.func (PySem.W.fnOf x qual (defArgs st) (defBody st) (defScope st) .none kV doc pm an cdv ct),osl⟩)
 (c:PySem.W.codeIn K cdv qual=true) (k:PySem.W.keepIn K (.ref f)=true):Fun K x qual st f (PySem.W.fnOf x qual (defArgs st) (defBody st) (defScope st) .none kV doc pm an cdv ct):=⟨⟨oc,od,kV,doc,pm,an,cdv,ct,osl,rfl,l,c⟩,k⟩
end
theorem hu_of {A:Around} {k:Nat} (hr:Room k A):A.units + 1 < cLine:=Nat.lt_of_le_of_lt (Nat.add_le_add_left (by decide:1≤64) _) hr.units
theorem small1000 {n:Nat} (h:n≤1000):n < sizeLine:=Nat.lt_of_le_of_lt h (by decide)
section
variable {X:Cx}
theorem pv (i:Nat) {x:Str} {pos:Pos} (hN:X.N[i]?=some x:=by rfl) (hv:Vis X.env.scope x:=by first | exact Or.inl rfl | exact Or.inr (Or.inl rfl) | exact Or.inr (Or.inr rfl)) (hd:(x == ("__debug__" : Str))=false:=by decide)
 (hcd:(x == ("__classdict__" : Str))=false:=by decide):PE X (.Name x pos) (tVar i):=pe_var hN hv hd hcd
end
theorem iteF {A B:Prop} (h:B):if false=true then A else B:=by
 rw [if_neg Bool.false_ne_true]
 exact h
theorem iteT {A B:Prop} (h:A):if true=true then A else B:=by
 rw [if_pos rfl]
 exact h
theorem ite2 {c A B:Prop} [Decidable c] (h1:c→A) (h2:¬ c→B):if c then A else B:=by
 by_cases h:c
 · rw [if_pos h]
   exact h1 h
 · rw [if_neg h]
   exact h2 h
def Same (H H':Hp):Prop:=∀ b o,H b=some o→H' b=some o
theorem Same.refl (H:Hp):Same H H:=fun _ _ h=>h
theorem Same.trans {H H1 H2:Hp} (a:Same H H1) (b:Same H1 H2):Same H H2:=fun c o h=>b c o (a c o h)
theorem Same.free {H H':Hp} (e:Same H H') {l:Addr} (h:H' l=Option.none):H l=Option.none:=by
 cases q:H l with
 | none=>rfl
 | some o =>
   rw [e l o q] at h
   cases h
theorem Same.seq {K:PySem.W.Frag} {H H':Hp} {a:Addr} {xs:List V} (e:Same H H') (h:SqL K H a xs):SqL K H' a xs:=by
 rcases h with (h | ⟨o,h⟩) | h
 · exact .inl (.inl (e _ _ h))
 · exact .inl (.inr ⟨o,e _ _ h⟩)
 · exact .inr h
section
variable {κ:Type} [DecidableEq κ]
end
end L2
namespace L2
open PySem PySem.Spec PyProof.Rows
inductive Ty where
 | int | bool | str | non | lst | tup | dct
 deriving DecidableEq
def Ty.name:Ty→String
 | .int => "int" | .bool => "bool" | .str => "str" | .non => "NoneType" | .lst => "list" | .tup => "tuple" | .dct => "dict"
inductive TyN (K:PySem.W.Frag) (H:Hp):V→Ty→Prop where
 | int (i:Int):TyN K H (.int i) .int
 | bl (b:Bool):TyN K H (.bl b) .bool
 | str (x:Str):TyN K H (.str x) .str
 | non:TyN K H .non .non
 | lst {a:Addr} {xs:List V} (h:SqL K H a xs):TyN K H (.ref a) .lst
 | tup {a:Addr} {xs:List V} (h:SqT K H a xs):TyN K H (.ref a) .tup
 | dk {a:Addr} {kvs:List (Key × V)} (h:H a=some (.dK kvs)):TyN K H (.ref a) .dct
def isiB:Ty→Ty→Bool
 | .int,.int=>true | .bool,.bool=>true | .bool,.int=>true | .str,.str=>true | .non,.non=>true | .lst,.lst=>true | .tup,.tup=>true | .dct,.dct=>true | _,_=>false
def rIsi (K:PySem.W.Frag):List V→Hp→VK→Prop:=fun vs H Q=>∃ x T T',vs=[x,.ty (Ty.name T)]∧TyN K H x T'∧Q (.bl (isiB T' T)) H
theorem call_isi {X:Cx}:CallR X (.builtin "isinstance") (rIsi X.K):=by
 intro pins s σ H vs us Q I r h
 obtain ⟨x,T,T',rfl,ty,q⟩:=h
 obtain ⟨u,u2,rfl,ru,ru2⟩:=vals2 r
 have e2:u2=Value.type (Ty.name T):=ru2
 subst e2
 cases ty with
 | int i =>
   obtain ⟨t,rfl⟩:=ru
   cases T with
   | int=>exact IsiPair.int_int ⟨.bl true,H,I,rfl,q⟩
   | bool=>exact IsiPair.int_bool ⟨.bl false,H,I.tok _,rfl,q⟩
   | str=>exact IsiPair.int_str ⟨.bl false,H,I.tok _,rfl,q⟩
   | non=>exact IsiPair.int_NoneType ⟨.bl false,H,I.tok _,rfl,q⟩
   | lst=>exact IsiPair.int_list ⟨.bl false,H,I.tok _,rfl,q⟩
   | tup=>exact IsiPair.int_tuple ⟨.bl false,H,I.tok _,rfl,q⟩
   | dct=>exact IsiPair.int_dict ⟨.bl false,H,I.tok _,rfl,q⟩
 | bl b =>
   obtain rfl:u=Value.bool b:=ru
   cases T with
   | int=>exact IsiPair.bool_int ⟨.bl true,H,I,rfl,q⟩
   | bool=>exact IsiPair.bool_bool ⟨.bl true,H,I,rfl,q⟩
   | str=>exact IsiPair.bool_str ⟨.bl false,H,I.tok _,rfl,q⟩
   | non=>exact IsiPair.bool_NoneType ⟨.bl false,H,I.tok _,rfl,q⟩
   | lst=>exact IsiPair.bool_list ⟨.bl false,H,I.tok _,rfl,q⟩
   | tup=>exact IsiPair.bool_tuple ⟨.bl false,H,I.tok _,rfl,q⟩
   | dct=>exact IsiPair.bool_dict ⟨.bl false,H,I.tok _,rfl,q⟩
 | str y =>
   obtain ⟨t,rfl⟩:=ru
   cases T with
   | int=>exact IsiPair.str_int ⟨.bl false,H,I.tok _,rfl,q⟩
   | bool=>exact IsiPair.str_bool ⟨.bl false,H,I.tok _,rfl,q⟩
   | str=>exact IsiPair.str_str ⟨.bl true,H,I,rfl,q⟩
   | non=>exact IsiPair.str_NoneType ⟨.bl false,H,I.tok _,rfl,q⟩
   | lst=>exact IsiPair.str_list ⟨.bl false,H,I.tok _,rfl,q⟩
   | tup=>exact IsiPair.str_tuple ⟨.bl false,H,I.tok _,rfl,q⟩
   | dct=>exact IsiPair.str_dict ⟨.bl false,H,I.tok _,rfl,q⟩
 | non =>
   obtain rfl:u=Value.none:=ru
   cases T with
   | int=>exact IsiPair.NoneType_int ⟨.bl false,H,I.tok _,rfl,q⟩
   | bool=>exact IsiPair.NoneType_bool ⟨.bl false,H,I.tok _,rfl,q⟩
   | str=>exact IsiPair.NoneType_str ⟨.bl false,H,I.tok _,rfl,q⟩
   | non=>exact IsiPair.NoneType_NoneType ⟨.bl true,H,I,rfl,q⟩
   | lst=>exact IsiPair.NoneType_list ⟨.bl false,H,I.tok _,rfl,q⟩
   | tup=>exact IsiPair.NoneType_tuple ⟨.bl false,H,I.tok _,rfl,q⟩
   | dct=>exact IsiPair.NoneType_dict ⟨.bl false,H,I.tok _,rfl,q⟩
 | lst hq =>
   obtain rfl:u=Value.ref _:=ru
   obtain ⟨its,rv,⟨o,n,e,hc,hd,hs⟩,hz⟩:=I.list hq
   cases T with
   | int=>exact IsiPair.list_int e hc ⟨.bl false,H,I.tok _,rfl,q⟩
   | bool=>exact IsiPair.list_bool e hc ⟨.bl false,H,I.tok _,rfl,q⟩
   | str=>exact IsiPair.list_str e hc ⟨.bl false,H,I.tok _,rfl,q⟩
   | non=>exact IsiPair.list_NoneType e hc ⟨.bl false,H,I.tok _,rfl,q⟩
   | lst=>exact IsiPair.list_list e hc ⟨.bl true,H,I,rfl,q⟩
   | tup=>exact IsiPair.list_tuple e hc ⟨.bl false,H,I.tok _,rfl,q⟩
   | dct=>exact IsiPair.list_dict e hc ⟨.bl false,H,I.tok _,rfl,q⟩
 | tup hq =>
   obtain rfl:u=Value.ref _:=ru
   obtain ⟨its,rv,⟨o,e,hc,n,hs⟩,hz⟩:=I.tuple hq
   cases T with
   | int=>exact IsiPair.tuple_int e hc ⟨.bl false,H,I.tok _,rfl,q⟩
   | bool=>exact IsiPair.tuple_bool e hc ⟨.bl false,H,I.tok _,rfl,q⟩
   | str=>exact IsiPair.tuple_str e hc ⟨.bl false,H,I.tok _,rfl,q⟩
   | non=>exact IsiPair.tuple_NoneType e hc ⟨.bl false,H,I.tok _,rfl,q⟩
   | lst=>exact IsiPair.tuple_list e hc ⟨.bl false,H,I.tok _,rfl,q⟩
   | tup=>exact IsiPair.tuple_tuple e hc ⟨.bl true,H,I,rfl,q⟩
   | dct=>exact IsiPair.tuple_dict e hc ⟨.bl false,H,I.tok _,rfl,q⟩
 | dk hq =>
   obtain rfl:u=Value.ref _:=ru
   obtain ⟨hz,hm,vs,rel,o,es,ep,e,ex,hr⟩:=I.hok _ _ hq
   have hc:=ex.1
   cases T with
   | int=>exact IsiPair.dict_int e hc ⟨.bl false,H,I.tok _,rfl,q⟩
   | bool=>exact IsiPair.dict_bool e hc ⟨.bl false,H,I.tok _,rfl,q⟩
   | str=>exact IsiPair.dict_str e hc ⟨.bl false,H,I.tok _,rfl,q⟩
   | non=>exact IsiPair.dict_NoneType e hc ⟨.bl false,H,I.tok _,rfl,q⟩
   | lst=>exact IsiPair.dict_list e hc ⟨.bl false,H,I.tok _,rfl,q⟩
   | tup=>exact IsiPair.dict_tuple e hc ⟨.bl false,H,I.tok _,rfl,q⟩
   | dct=>exact IsiPair.dict_dict e hc ⟨.bl true,H,I,rfl,q⟩
theorem truth_bl {P:Program} {w:World} {A:Around} {bs:List Bool} {its:List Value} (r:Vals (bs.map V.bl) its):TruthOf P w A (fun i v=>its.toArray[i]?=some v) (fun i=>bs.getD i false):=by
 intro i v s Q E hv hq
 have hv':its[i]?=some v:=by simpa using hv
 have hl:=r.length
 rw [List.length_map] at hl
 have hi:i < its.length:=(List.getElem?_eq_some_iff.mp hv').1
 have hb:(bs.map V.bl)[i]?=some (V.bl (bs.getD i false)):=by
  rw [List.getElem?_map,List.getD_eq_getElem?_getD]
  have:bs[i]?=some bs[i]:=List.getElem?_eq_getElem (by omega)
  rw [this]; rfl
 obtain ⟨u,hu,ru⟩:=r.get hb
 rw [hv'] at hu
 cases hu
 have e:v=Value.bool (bs.getD i false):=ru
 subst e
 exact wpAny_truthy_bool hq
theorem range_all {bs:List Bool}:(List.range bs.length).all (fun i=>bs.getD i false)=bs.all id:=by
 rw [Bool.eq_iff_iff,List.all_eq_true,List.all_eq_true]
 constructor
 · intro h b hb
   obtain ⟨i,hi,e⟩:=List.mem_iff_getElem.mp hb
   have:=h i (List.mem_range.mpr hi)
   rw [List.getD_eq_getElem?_getD,List.getElem?_eq_getElem hi] at this
   rw [←e]; exact this
 · intro h i hi
   have hi':=List.mem_range.mp hi
   rw [List.getD_eq_getElem?_getD,List.getElem?_eq_getElem hi']
   exact h _ (List.getElem_mem hi')
def rAll (K:PySem.W.Frag):List V→Hp→VK→Prop:=fun vs H Q=>∃ (a:Addr) (bs:List Bool),vs=[.ref a]∧SqL K H a (bs.map V.bl)∧Q (.bl (bs.all id)) H
theorem call_allL {X:Cx} (hc:X.calm=true):CallR X (.builtin "all") (rAll X.K):=by
 intro pins s σ H vs us Q I r h
 obtain ⟨a,bs,rfl,hq,q⟩:=h
 obtain ⟨u,rfl,ru⟩:=vals1 r
 obtain rfl:u=Value.ref a:=ru
 obtain ⟨its,rv,p,hz⟩:=I.list hq
 have hl:=rv.length
 rw [List.length_map] at hl
 have hlt:a < s.heap.objs.size:=by obtain ⟨_,e,_⟩:=p.isList; exact Heap.lt_size e
 refine call_all_walk (wpAny_pyIter_list p.isList ?_)
 refine ⟨s.heap.objs.size,[s.heap.objs.size,a],[s.heap.objs.size],its.toArray.size,(fun i v=>its.toArray[i]?=some v),(fun i h=>h.IsListIter s.heap.objs.size a i∧h.IsList a its.toArray),(fun i=>bs.getD i false),rfl,Walks.list (A:=X.A.in1) (I.ok.hd hc) s.heap.objs.size a (Nat.ne_of_lt hlt) its.toArray,⟨⟨_,Heap.get?_push_size _ rfl,rfl,rfl⟩,p.isList.push _⟩,truth_bl rv,fun h' tk hk=>?_⟩
 refine ⟨.bl (bs.all id),H,I.kept fun b o e=>hk b o (fun z=>?_) (Heap.get?_push_of_some _ e),?_,q⟩
 · have z':b=s.heap.objs.size:=by simpa using z
   exact absurd (Heap.lt_size e) (by rw [z']; exact Nat.lt_irrefl _)
 · have e:its.toArray.size=bs.length:=by rw [List.size_toArray,hl]
   show Value.bool _=Value.bool _
   rw [e,range_all]
def rS (g:Str→Str→Bool):R2:=fun x y H Q=>∃ a b,x=.str a∧y=.str b∧Q (.bl (g a b)) H
theorem op_leS {X:Cx}:OpR X (compareOp .LtE) (rS fun a b=>!decide (b.cps.toList < a.cps.toList)):=by
 intro pins s σ H x y v u Q I rx ry h
 obtain ⟨a,b,rfl,rfl,q⟩:=h
 obtain ⟨t,rfl⟩:=rx
 obtain ⟨t',rfl⟩:=ry
 exact P.le_str ⟨.bl _,H,I,rfl,q⟩
def Its (x:Str):It:=⟨fun i _=>i < x.cps.size,fun i H v H'=>H'=H∧∃ c,x.cps[i]?=some c∧v=.str ⟨#[c]⟩,fun i _=>i=x.cps.size⟩
theorem turn_str {P:Program} {w:World} {K:PySem.W.Frag} {tg:Expr} {x:Str} {t:Tok} {ty:String} (it:Addr) (hn:["enumerate", "zip", "dict_itemiterator", "dict_reverseitemiterator", "odict_iterator", "itertools.zip_longest", "itertools.pairwise"].contains ty=false)
 (W:∀ A:Around,A.handled=none→Walks P w A it [it] [it] x.cps.size (SignAt x) (fun i h=>h.IsStrIter it ty x t i))
 (hself:∀ (A:Around) (i:Nat) (s:Shared) (Q:Value→Shared→Prop) (E:Value→Shared→Prop),s.heap.IsStrIter it ty x t i→Q (.ref it) s→wpAny (model P w) A (pyIter (.ref it)) Q E s):Turn P w K tg (Its x) [it] it (fun i h=>h.IsStrIter it ty x t i) where
 mem:=by simp
 obj:=fun i h st b hb=>by
  have e:b=it:=by simpa using hb
  subst e
  obtain ⟨o,e,c,d⟩:=st
  exact ⟨o,e,fun v z=>by rw [d] at z; cases z⟩
 keep:=fun i h h' st k=>by
  obtain ⟨o,e,r⟩:=st
  exact ⟨o,k it (by simp) o e,r⟩
 item:=by
  intro X hP hw hK hc i pins s σ H E I hf st hg
  subst hP hw hK
  obtain ⟨f0,f1,f2,f3,f4,f5⟩:=hf it (by simp)
  refine (W X.A (I.ok.hd hc)).item i s _ _ hg st fun v h' tk hv st' kk=>?_
  obtain ⟨c,u,hc',rfl⟩:=hv
  have I1:Inv X pins σ H { s with heap:=h',toks:=tk }:=I.turned (fun b o hb e=>kk b o (by simpa using hb) e) f0 f1 f3 f4 f5
  obtain ⟨o,e,c1,d⟩:=id st'
  exact ⟨_,rfl,go_of (s:={ s with heap:=h',toks:=tk }) e c1 d hn ⟨.str ⟨#[c]⟩,H,I1,⟨u,rfl⟩,⟨rfl,c,hc',rfl⟩,st',fun b hb=>(hf b hb).1⟩⟩
 done:=by
  intro X hP hw hK hc i pins s σ H E I hf st hg
  subst hP hw hK
  obtain ⟨f0,f1,f2,f3,f4,f5⟩:=hf it (by simp)
  have hg':i=x.cps.size:=hg
  subst hg'
  exact (W X.A (I.ok.hd hc)).done s _ _ st fun h' tk kk=>⟨rfl,I.turned (fun b o hb e=>kk b o (by simpa using hb) e) f0 f1 f3 f4 f5⟩
 self:=hself
def iStr (te:TE):TI:=fun σ H R=>te σ H fun x H1=>∃ y,x=.str y∧R (Its y) H1
theorem pi_str {X:Cx} {tg e:Expr} {te:TE} (he:PE X e te):PI X tg e (iStr te):=by
 intro pins s σ H R I h
 refine thn (he pins s σ H _ I h) fun v s1 ⟨x,H1,I1,r1,q1⟩=>?_
 obtain ⟨y,rfl,q⟩:=q1
 obtain ⟨t,rfl⟩:=r1
 have fin:∀ b∈[s1.heap.objs.size],FpOk X pins H1 b:=fun b hb=>by
  have e:b=s1.heap.objs.size:=by simpa using hb
  subst e
  exact I1.fpOk (Nat.le_refl _) (I1.hok.fresh (Nat.le_refl _))
 cases ha:y.cps.all (· < 128)
 · refine wpAny_pyIter_wide ha ⟨s1.heap.objs.size,[s1.heap.objs.size],_,_,H1,rfl,I1.kept (t':=s1.toks) fun b o e=>Heap.get?_push_of_some _ e,turn_str (ty := "str_iterator") (t:=t) _ (by decide) (fun A hA=>Walks.strWide hA _ y t) (fun A i s Q E st hQ=>wpAny_pyIter_striter_wide st hQ),⟨_,Heap.get?_push_size _ rfl,rfl,rfl⟩,fin,q⟩
 · refine wpAny_pyIter_ascii ha ⟨s1.heap.objs.size,[s1.heap.objs.size],_,_,H1,rfl,I1.kept (t':=s1.toks) fun b o e=>Heap.get?_push_of_some _ e,turn_str (ty := "str_ascii_iterator") (t:=t) _ (by decide) (fun A hA=>Walks.strAscii hA _ y t) (fun A i s Q E st hQ=>wpAny_pyIter_striter_ascii st hQ),⟨_,Heap.get?_push_size _ rfl,rfl,rfl⟩,fin,q⟩
end L2
namespace L2
open PySem PySem.Spec PyProof.Rows
def closOf (env:Env):List (Str × NameKind)→List (Str × Addr)→List (Str × Addr)
 | [],acc=>acc
 | (n,k) :: r,acc=>if k == .free then closOf env r ((n,(env.cells.lookup n).getD 0) :: acc) else closOf env r acc
theorem forIn_clos {env:Env} (f:Str × NameKind→List (Str × Addr)→Sem (ForInStep (List (Str × Addr))))
 (hf:∀ n k cs,f (n,k) cs=if (k == NameKind.free)=true then (cellOf env n >>= fun a=>pure (.yield ((n,a) :: cs))) else pure (.yield cs)) :
 ∀ (names:List (Str × NameKind)) (acc:List (Str × Addr)),(∀ x∈names,x.2=.free→∃ c,env.cells.lookup x.1=some c)→forIn names acc f=pure (closOf env names acc)
 | [],acc,_=>by rw [List.forIn_nil]; rfl
 | (n,k) :: r,acc,h=>by
   rw [List.forIn_cons,hf]
   unfold closOf
   by_cases hk:(k == NameKind.free)=true
   · rw [if_pos hk,if_pos hk]
     obtain ⟨c,hc⟩:=h (n,k) List.mem_cons_self (beq_iff_eq.mp hk)
     have e:cellOf env n=pure c:=by unfold cellOf; rw [hc]
     rw [e,hc]
     exact forIn_clos f hf r _ fun x hx=>h x (List.mem_cons_of_mem _ hx)
   · rw [if_neg hk,if_neg hk]
     exact forIn_clos f hf r _ fun x hx=>h x (List.mem_cons_of_mem _ hx)
theorem closureFor_of {scope:Scope} {env:Env} (h:∀ x∈scope.names,x.2=.free→∃ c,env.cells.lookup x.1=some c):closureFor scope env=pure (closOf env scope.names []):=by
 simp only [closureFor]
 rw [forIn_clos (env:=env) _ (fun n k cs=>by cases hk:k == NameKind.free <;> simp [hk]) scope.names [] h]
 rfl
theorem closOf_mem {env:Env}:∀ {names:List (Str × NameKind)} {acc:List (Str × Addr)} {x:Str} {c:Addr},(x,c)∈closOf env names acc→(x,c)∈acc∨((x,NameKind.free)∈names∧c=(env.cells.lookup x).getD 0)
 | [],_,_,_,h=>.inl h
 | (n, k) :: r, acc, x, c, h => by
   unfold closOf at h
   by_cases hk:(k == NameKind.free)=true
   · rw [if_pos hk] at h
     rcases closOf_mem h with h | ⟨h,e⟩
     · rcases List.mem_cons.mp h with h | h
       · cases h
         rw [beq_iff_eq.mp hk]
         exact .inr ⟨List.mem_cons_self,rfl⟩
       · exact .inl h
     · exact .inr ⟨List.mem_cons_of_mem _ h,e⟩
   · rw [if_neg hk] at h
     rcases closOf_mem h with h | ⟨h,e⟩
     · exact .inl h
     · exact .inr ⟨List.mem_cons_of_mem _ h,e⟩
theorem closOf_acc {env:Env}:∀ {names:List (Str × NameKind)} {acc:List (Str × Addr)} {p:Str × Addr},p∈acc→p∈closOf env names acc
 | [],_,_,h=>h
 | (n,k) :: r,acc,p,h=>by
   unfold closOf
   by_cases hk:(k == NameKind.free)=true
   · rw [if_pos hk]; exact closOf_acc (List.mem_cons_of_mem _ h)
   · rw [if_neg hk]; exact closOf_acc h
theorem closOf_has {env:Env}:∀ {names:List (Str × NameKind)} {acc:List (Str × Addr)} {x:Str},(x,NameKind.free)∈names→∃ c,(x,c)∈closOf env names acc
 | (n,k) :: r,acc,x,h=>by
   unfold closOf
   rcases List.mem_cons.mp h with h | h
   · cases h
     rw [if_pos (show (NameKind.free == NameKind.free)=true by rfl)]
     exact ⟨_,closOf_acc List.mem_cons_self⟩
   · by_cases hk:(k == NameKind.free)=true
     · rw [if_pos hk]; exact closOf_has h
     · rw [if_neg hk]; exact closOf_has h
theorem look_of_mem {α:Type}:∀ {l:List (Str × α)} {x:Str} {c:α},(x,c)∈l→∃ c',l.lookup x=some c'
 | (n, d) :: r, x, c, h => by
   rw [List.lookup_cons]
   cases hb:x == n with
   | true=>exact ⟨d,rfl⟩
   | false =>
     rcases List.mem_cons.mp h with h | h
     · cases h
       simp at hb
     · exact look_of_mem h
theorem cellsFrom_app:∀ (names:List (Str × NameKind)) (n:Nat) (acc:List (Str × Addr)),cellsFrom n names acc=cellsFrom n names []++acc
 | [],_,_=>rfl
 | (x,k) :: r,n,acc=>by
   unfold cellsFrom
   by_cases hk:(k == NameKind.cell)=true
   · rw [if_pos hk,if_pos hk,cellsFrom_app r (n + 1) ((x,n) :: acc),cellsFrom_app r (n + 1) [(x,n)],List.append_assoc]
     rfl
   · rw [if_neg hk,if_neg hk]; exact cellsFrom_app r n acc
theorem cellsFrom_cell:∀ {names:List (Str × NameKind)} {n:Nat} {acc:List (Str × Addr)} {x:Str} {c:Addr},(x,c)∈cellsFrom n names acc→(x,c)∈acc∨(x,NameKind.cell)∈names
 | [],_,_,_,_,h=>.inl h
 | (y, k) :: r, n, acc, x, c, h => by
   unfold cellsFrom at h
   by_cases hk:(k == NameKind.cell)=true
   · rw [if_pos hk] at h
     rcases cellsFrom_cell h with h | h
     · rcases List.mem_cons.mp h with h | h
       · cases h
         rw [beq_iff_eq.mp hk]
         exact .inr List.mem_cons_self
       · exact .inl h
     · exact .inr (List.mem_cons_of_mem _ h)
   · rw [if_neg hk] at h
     rcases cellsFrom_cell h with h | h
     · exact .inl h
     · exact .inr (List.mem_cons_of_mem _ h)
section
variable {M:Model} {A:Around} {E:Value→Shared→Prop} {s:Shared}
theorem nfe_comp {scope:Scope} {env:Env} {cl:List (Str × Addr)} {Q:Env→Shared→Prop}
 (hQ:Q (newEnv scope s.heap.objs.size env.globals (cellsFrom (s.heap.objs.size + 1) scope.names cl) env.qual none .none (some env) builtinsNs) { s with heap:=pushCells (s.heap.push { cls:=.type "dict",data:=.dict #[] }) scope.names }) :
 wpAny M A (newFunctionEnv scope env.globals cl [] env.qual none .none (some env)) Q E s:=by
 simp only [newFunctionEnv,Option.isSome_some,if_true]
 refine wpAny_bind (wpAny_alloc ?_)
 refine wpAny_bind (wpAny_layCells _ (fun name kind cells=>by cases hkc:kind == NameKind.cell <;> simp [hkc]) _ _ _ _ ?_)
 rw [show ({ s with heap:=s.heap.push { cls:=.type "dict",data:=.dict #[] } }:Shared).heap.objs.size=s.heap.objs.size + 1 from Heap.size_push ..]
 exact wpAny_bind (wpAny_pure (wpAny_pure hQ))
end
abbrev cxComp (X:Cx) (N:List Str) (scope:Scope) (cs:List (Str × Addr)) (C:Addr) (s:Shared) (H:Hp) (ex:List Addr):Cx where
 prog:=X.prog
 w:=X.w
 K:=X.K
 mg:=X.mg
 base:=X.base
 A:=X.A
 N:=N
 s₀:=s
 H₀:=H
 env:=compEnvC scope cs C X.env
 outer:=X.stack
 stack:=X.stack
 ex:=ex
 fn:=fun x=>decide (scope.names.lookup x≠some .free)
 calm:=X.calm
 pn:=[]
 xe:=fun _ _=>False
structure CompScope (psc:Scope) (PN:List Str) (scope:Scope) (N:List Str) (k:Nat) (caps:List Nat):Prop where
 kind:scope.kind=.function
 loc:∀ x∈scope.names,x.2=.local→scope.names.lookup x.1=some .local
 ndn:(scope.names.map (·.1)).Nodup
 nd:N.Nodup
 len:N.length=k + caps.length
 free:∀ x∈scope.names,x.2=.free→psc.names.lookup x.1=some .cell∨psc.names.lookup x.1=some .free
 cap:∀ p∈(N.drop k).zip caps,PN[p.2]?=some p.1∧scope.names.lookup p.1=some .free
def compSt (k:Nat) (caps:List Nat) (σ:St):St:=List.replicate k none++caps.map fun j=>(σ[j]?).getD none
theorem compSt_at {k:Nat} {caps:List Nat} {σ:St} {i:Nat} {v:V} (h:(compSt k caps σ)[i]?=some (some v)):∃ j,k≤i∧caps[i - k]?=some j∧σ[j]?=some (some v):=by
 unfold compSt at h
 by_cases hi:i < k
 · rw [List.getElem?_append_left (by simpa using hi),List.getElem?_replicate,if_pos hi] at h
   cases h
 · rw [List.getElem?_append_right (by simpa using hi),List.length_replicate,List.getElem?_map] at h
   cases e:caps[i - k]? with
   | none=>rw [e] at h; cases h
   | some j =>
     rw [e] at h
     have h':(σ[j]?).getD none=some v:=Option.some.inj h
     refine ⟨j,by omega,rfl,?_⟩
     cases q:σ[j]? with
     | none=>rw [q] at h'; cases h'
     | some o=>rw [q] at h'; exact congrArg some h'
theorem relabel_look {scope:Scope} {env:Env} {x:Str} {k':NameKind} (h:(relabel scope env).names.lookup x=some k'):∃ k,(x,k)∈scope.names∧(k'=k∨(k=.free∧k'=.cell)):=by
 have hm:=PySem.mem_of_lookup h
 have hm':(x,k')∈scope.names.map (fun (n,k)=>if (k == NameKind.free && env.scope.kind == .function && env.kindOf n == some .cell) then (n,NameKind.cell) else (n,k)):=hm
 obtain ⟨⟨n,k⟩,h1,h2⟩:=List.mem_map.mp hm'
 dsimp only at h2
 by_cases hc:(k == NameKind.free && env.scope.kind == .function && env.kindOf n == some .cell)=true
 · rw [if_pos hc] at h2
   cases h2
   simp only [Bool.and_eq_true,beq_iff_eq] at hc
   exact ⟨k,h1,.inr ⟨hc.1.1,rfl⟩⟩
 · rw [if_neg hc] at h2
   cases h2
   exact ⟨k',h1,.inl rfl⟩
theorem map_free {f:Str × NameKind→Str × NameKind} (hf:∀ n k,f (n,k)=(n,k)∨(k=.free∧f (n,k)=(n,NameKind.cell))):∀ {names:List (Str × NameKind)} {x:Str},names.lookup x=some .free→(names.map f).lookup x=some .cell∨(names.map f).lookup x=some .free
 | [],_,h=>by simp at h
 | (n,k) :: r,x,h=>by
   have ih:=@map_free f hf r x
   rw [List.lookup_cons] at h
   rw [List.map_cons]
   cases hx:x == n with
   | true =>
     rw [hx] at h
     cases h
     rcases hf n .free with e | ⟨_,e⟩
     · right; rw [e,List.lookup_cons,hx]
     · left; rw [e,List.lookup_cons,hx]
   | false =>
     rw [hx] at h
     have h':=ih h
     rcases hf n k with e | ⟨_,e⟩
     · rw [e,List.lookup_cons,hx]; exact h'
     · rw [e,List.lookup_cons,hx]; exact h'
theorem relabel_free {scope:Scope} {env:Env} {x:Str} (h:scope.names.lookup x=some .free):(relabel scope env).names.lookup x=some .cell∨(relabel scope env).names.lookup x=some .free:=by
 refine map_free (fun n k=>?_) h
 by_cases hc:(k == NameKind.free && env.scope.kind == .function && env.kindOf n == some .cell)=true
 · right
   refine ⟨?_,if_pos hc⟩
   simp only [Bool.and_eq_true,beq_iff_eq] at hc
   exact hc.1.1
 · left; exact if_neg hc
theorem nodup_key {names:List (Str × NameKind)} (h:(names.map (·.1)).Nodup) {x:Str} {k k':NameKind} (h1:(x,k)∈names) (h2:(x,k')∈names):k=k':=by
 induction names with
 | nil=>simp at h1
 | cons p r ih =>
   rw [List.map_cons] at h
   obtain ⟨ha,hb⟩:=List.nodup_cons.mp h
   rcases List.mem_cons.mp h1 with e1 | h1 <;> rcases List.mem_cons.mp h2 with e2 | h2
   · rw [←e1] at e2; exact (Prod.mk.inj e2).2.symm
   · exact absurd (List.mem_map.mpr ⟨_,h2,by rw [←e1]⟩) ha
   · exact absurd (List.mem_map.mpr ⟨_,h1,by rw [←e2]⟩) ha
   · exact ih hb h1 h2
theorem Un.but {fs ex:List Addr} {H H':Hp} {h h1 h2:Heap} {C:Addr} (u:Un fs ex H H' h h1) (hs:Heap.SameBut C h1 h2) (hC:h.objs.size≤C):Un fs ex H H' h h2:=by
 have ne:∀ b o,h.get? b=some o→b≠C:=fun b o e=>Nat.ne_of_lt (Nat.lt_of_lt_of_le (Heap.lt_size e) hC)
 refine ⟨fun b o e n hb hx=>(hs.2 b (ne b o e)).trans (u.keep b o e n hb hx),fun b o e n hb hx=>?_,u.free,fun b o e hx=>?_,u.tups,u.frzs,u.tbls⟩
 · obtain ⟨sl,q⟩:=u.slot b o e n hb hx
   exact ⟨sl,(hs.2 b (ne b o e)).trans q⟩
 · obtain ⟨o',q⟩:=u.there b o e hx
   exact ⟨o',(hs.2 b (ne b o e)).trans q⟩
theorem HOk.but {P:Program} {w:World} {H:Hp} {h1 h2:Heap} {C:Addr} (x:HOk P w H h1) (hs:Heap.SameBut C h1 h2) (hn:H C=none):HOk P w H h2:=fun b u e=>by
 refine (x b u e).stay (fun c v hc q=>(hs.2 c ?_).trans q) (fun _ q=>q) fun _ _ q=>q
 rintro rfl
 rcases hc with rfl | hc
 · rw [hn] at e; cases e
 · rw [hn] at hc; cases hc
section
variable {X:Cx} {scope:Scope} {N:List Str} {k:Nat} {caps:List Nat} {psc:Scope} {PN:List Str} {pins:List (Addr × Obj)} {σ:St} {H:Hp} {s:Shared}
abbrev cellsC (X:Cx) (scope:Scope) (C:Addr):List (Str × Addr):=cellsFrom (C + 1) scope.names (closOf X.env scope.names [])
theorem cellsC_split {C:Addr} (I:Inv X pins σ H s) (S:CompScope X.env.scope X.N scope N k caps) {x:Str} {c:Addr} (h:(x,c)∈cellsC X scope C) :
 (x,c)∈cellsFrom (C + 1) scope.names []∨X.env.cells.lookup x=some c:=by
 unfold cellsC at h
 rw [cellsFrom_app] at h
 rcases List.mem_append.mp h with h | h
 · exact .inl h
 · rcases closOf_mem h with h | ⟨h,e⟩
   · simp at h
   · obtain ⟨c',hc⟩:=I.ok.has x (S.free _ h rfl)
     rw [hc] at e
     exact .inr (by rw [hc]; exact congrArg some e.symm)
theorem comp_start {fp:List Addr} (I:Inv X pins σ H s) (S:CompScope X.env.scope X.N scope N k caps) (hf:∀ b∈fp,FpOk X pins H b) (hfo:∀ b∈fp,∃ o,s.heap.get? b=some o) {D C:Nat} {h1:Heap} {t':Nat} (hD:D=s.heap.objs.size) (hC:C=D + 1)
 (hh:h1=pushCells ((s.heap.push { cls:=.type "list",data:=.seq #[] }).push { cls:=.type "dict",data:=.dict #[] }) scope.names) :
 Inv (cxComp X N scope (cellsC X scope C) C s H fp) [] (compSt k caps σ) (upd H D (.lst [])) { s with heap:=h1,toks:=t' }:=by
 have hsz1:(s.heap.push { cls:=.type "list",data:=.seq #[] }).objs.size=C:=by rw [Heap.size_push,hC,hD]
 have hsz2:((s.heap.push { cls:=.type "list",data:=.seq #[] }).push { cls:=.type "dict",data:=.dict #[] }).objs.size=C + 1:=by rw [Heap.size_push,hsz1]
 have old:∀ b o,s.heap.get? b=some o→h1.get? b=some o:=fun b o e=>by
  rw [hh]; exact pushCells_keeps _ _ b o (Heap.get?_push_of_some _ (Heap.get?_push_of_some _ e))
 have hacc:h1.get? D=some { cls:=.type "list",data:=.seq #[] }:=by
  rw [hh,hD]; exact pushCells_keeps _ _ _ _ (Heap.get?_push_of_some _ (Heap.get?_push_size _ rfl))
 have hns:h1.Ns C (fun _=>none):=by
  rw [hh,←hsz1]
  exact (Heap.Ns.new _ (.type "dict")).keeps (pushCells_keeps _ _)
 have ok:=cellsFrom_ok scope.names ((s.heap.push { cls:=.type "list",data:=.seq #[] }).push { cls:=.type "dict",data:=.dict #[] }) (C + 1) [] ⟨fun _ _ hm=>(nomatch hm),List.Pairwise.nil⟩ (by rw [hsz2]; exact Nat.le_refl _)
 rw [hsz2] at ok
 have own:∀ x c,(x,c)∈cellsFrom (C + 1) scope.names []→h1.IsCell c none∧C + 1≤c:=fun x c h=>by rw [hh]; exact ok.empty x c h
 have par:∀ x c,X.env.cells.lookup x=some c→c < D:=fun x c e=>by
  obtain ⟨v,q⟩:=I.cell x c e
  rw [hD]; exact q.lt
 have fpD:∀ b∈fp,b < D:=fun b hb=>by
  obtain ⟨o,e⟩:=hfo b hb
  rw [hD]; exact Heap.lt_size e
 have hCfree:H C=none:=I.hok.fresh (by rw [hC,hD]; exact Nat.le_succ _)
 have split:=fun x c (h:(cellsC X scope C).lookup x=some c)=>cellsC_split (C:=C) I S (PySem.mem_of_lookup h)
 have updn:∀ b,b≠D→H b=none→(upd H D (.lst [])) b=none:=fun b hb e=>by rw [upd_ne hb]; exact e
 have capt:∀ x,scope.names.lookup x=some .free→∃ c,X.env.cells.lookup x=some c∧(cellsC X scope C).lookup x=some c:=fun x hx=>by
  have hm:=PySem.mem_of_lookup hx
  obtain ⟨c0,h0⟩:=closOf_has (env:=X.env) (acc:=[]) hm
  obtain ⟨c,hc⟩:=look_of_mem (l:=cellsC X scope C) (x:=x) (c:=c0) (by unfold cellsC; rw [cellsFrom_app]; exact List.mem_append_right _ h0)
  refine ⟨c,?_,hc⟩
  rcases split x c hc with q | q
  · rcases cellsFrom_cell q with z | z
    · simp at z
    · have:=nodup_key S.ndn hm z; cases this
  · exact q
 have okX : (cxComp X N scope (cellsC X scope C) C s H fp).Ok := by
  refine ⟨I.ok.mod,S.kind,I.ok.glob,I.ok.blt,?above,?inj,?has,?cab,I.ok.hd,I.ok.frames,.inl rfl,?exf,fun b o e=>I.bs b o e,Nat.le_trans I.ok.bsz I.sz,?noex,?exfs,I.stack,I.stkFree⟩
  case above =>
   show s.heap.objs.size≤C
   rw [hC,hD]; exact Nat.le_succ _
  case inj =>
   intro x y c e1 e2
   rcases split x c e1 with q1 | q1 <;> rcases split y c e2 with q2 | q2
   · exact name_of_addr ok.apart q1 q2
   · have h1:@LE.le Nat _ (C + 1) c:=(own x c q1).2
     have h2:@LT.lt Nat _ c D:=par y c q2
     exfalso; omega
   · have h1:@LE.le Nat _ (C + 1) c:=(own y c q2).2
     have h2:@LT.lt Nat _ c D:=par x c q1
     exfalso; omega
   · exact I.ok.inj x y c q1 q2
  case has =>
   intro x hx
   have hx':(relabel scope X.env).names.lookup x=some .cell∨(relabel scope X.env).names.lookup x=some .free:=hx
   have hk:∃ k',(x,k')∈scope.names∧(k'=.cell∨k'=.free):=by
    rcases hx' with q | q
    · obtain ⟨k',h1,h2⟩:=relabel_look q
      rcases h2 with h2 | ⟨h2,_⟩
      · exact ⟨k',h1,.inl h2.symm⟩
      · exact ⟨k',h1,.inr h2⟩
    · obtain ⟨k',h1,h2⟩:=relabel_look q
      rcases h2 with h2 | ⟨_,h2⟩
      · exact ⟨k',h1,.inr h2.symm⟩
      · cases h2
   obtain ⟨k',hm,hk | hk⟩:=hk
   · subst hk
     have q:=PySem.W.cellsFrom_some scope.names (C + 1) (closOf X.env scope.names []) (x:=x) (.inl (by
      obtain ⟨k2,hk2⟩:=look_of_mem hm
      rw [hk2,nodup_key S.ndn (PySem.mem_of_lookup hk2) hm]))
     exact Option.isSome_iff_exists.mp q
   · subst hk
     obtain ⟨c0,h0⟩:=closOf_has (env:=X.env) (acc:=[]) hm
     exact look_of_mem (c:=c0) (by show (x,c0)∈cellsC X scope C; unfold cellsC; rw [cellsFrom_app]; exact List.mem_append_right _ h0)
  case cab =>
   intro x c hx e
   have hx':decide (scope.names.lookup x≠some .free)=true:=hx
   have hx2:=of_decide_eq_true hx'
   show s.heap.objs.size≤c
   have e':(cellsC X scope C).lookup x=some c:=e
   have hm:=PySem.mem_of_lookup e'
   unfold cellsC at hm
   rw [cellsFrom_app] at hm
   rcases List.mem_append.mp hm with z | z
   · have h1:@LE.le Nat _ (C + 1) c:=(own x c z).2
     have h2:@LE.le Nat _ s.heap.objs.size c:=by omega
     exact h2
   · rcases closOf_mem z with z | ⟨z,_⟩
     · simp at z
     · obtain ⟨k2,hk2⟩:=look_of_mem z
       exact absurd (by rw [hk2,nodup_key S.ndn (PySem.mem_of_lookup hk2) z]) hx2
  case exf =>
   intro b hb
   refine ⟨?_,fun x c e z=>?_⟩
   · have h1:@LT.lt Nat _ b D:=fpD b hb
     exact Nat.ne_of_lt (show @LT.lt Nat _ b C by omega)
   · rcases split x c e with q | q
     · have h1:@LE.le Nat _ (C + 1) c:=(own x c q).2
       have h2:@LT.lt Nat _ b D:=fpD b hb
       have z':@Eq Nat c b:=z
       omega
     · exact (hf b hb).2.2.2.2.1 x c q z
  case noex =>
   intro b o e hb
   rcases (hf b hb).2.2.2.1 with q | q
   · exact I.ok.noex b o e q
   · exact absurd (Nat.lt_of_lt_of_le (Heap.lt_size e) (Nat.le_trans I.ok.bsz q)) (Nat.lt_irrefl _)
  case exfs =>
   intro b hb z
   have z':b∈frs X.stack:=z
   rcases List.mem_cons.mp (I.stkSub b z') with q | q
   · exact (hf b hb).2.1 q
   · exact (hf b hb).2.2.1 q
 refine ⟨okX,rfl,I.bare,Un.laid old (by rw [hD]; exact Nat.le_refl _) (I.hok.fresh (by rw [hD]; exact Nat.le_refl _)),⟨_,hns,?loc⟩,?cell,updn _ (show @Ne Nat C D by omega) hCfree,?freeC,fun p hp=>absurd hp (by simp),?hok,?len⟩
 case loc =>
  intro i x v e1 e2 e3
  obtain ⟨j,hi,hj,hv⟩:=compSt_at e2
  have hz:(x,j)∈(N.drop k).zip caps:=by
   refine List.mem_iff_getElem?.mpr ⟨i - k,?_⟩
   rw [List.getElem?_zip_eq_some]
   refine ⟨?_,hj⟩
   rw [List.getElem?_drop,show k + (i - k)=i by omega]
   exact e1
  obtain ⟨hp,hfr⟩:=S.cap (x,j) hz
  have hk:=S.free (x,.free) (PySem.mem_of_lookup hfr) rfl
  obtain ⟨m,hn,hl⟩:=I.loc
  obtain ⟨u,r,l⟩:=hl j x v hp hv (by rcases hk with q | q; exact .inr (.inl q); exact .inr (.inr q))
  refine ⟨u,r,?_⟩
  obtain ⟨c,hc1,hc2⟩:=capt x hfr
  have hcell:s.heap.IsCell c (some u):=by
   rcases l with ⟨q,_⟩ | ⟨_,c',q1,q2⟩
   · have q':X.env.scope.names.lookup x=some .local:=q
     rcases hk with z | z
     · rw [q'] at z; cases z
     · rw [q'] at z; cases z
   · rw [hc1] at q1; cases q1; exact q2
  exact .inr ⟨relabel_free hfr,c,hc2,hcell.keeps old⟩
 case cell =>
  intro x c e
  rcases split x c e with q | q
  · exact ⟨_,(own x c q).1⟩
  · obtain ⟨v,z⟩:=I.cell x c q
    exact ⟨v,z.keeps old⟩
 case freeC =>
  intro x c e
  rcases split x c e with q | q
  · have h1:@LE.le Nat _ (C + 1) c:=(own x c q).2
    have h2:@LE.le Nat _ s.heap.objs.size c:=by omega
    exact updn c (show @Ne Nat c D by omega) (I.hok.fresh h2)
  · exact updn c (Nat.ne_of_lt (par x c q)) (I.freeC x c q)
 case hok =>
  exact I.hok.laid old (by rw [hD]; exact Nat.le_refl _) ⟨Nat.zero_le _,[],0,.nil,hacc⟩
 case len =>
  show (compSt k caps σ).length=N.length
  unfold compSt
  rw [List.length_append,List.length_replicate,List.length_map,S.len]
theorem comp_again {fp:List Addr} (I:Inv X pins σ H s) (S:CompScope X.env.scope X.N scope N k caps) {C:Addr} {pins':List (Addr × Obj)} {σ':St} {H':Hp} {s':Shared} (hfc:∀ x c,X.env.cells.lookup x=some c→c ∉ fp) (hD:s.heap.objs.size≤C)
 (J:Inv (cxComp X N scope (cellsC X scope C) C s H fp) pins' σ' H' s'):Inv (cxComp X N scope (cellsC X scope C) C s H fp) pins' (compSt k caps σ) H' s':=by
 obtain ⟨m,hn,_⟩:=id J.loc
 refine ⟨J.ok,J.os,J.bare,J.base,⟨m,hn,fun i x v e1 e2 e3=>?_⟩,J.cell,J.free,J.freeC,J.pin,J.hok,?_⟩
 · obtain ⟨j,hi,hj,hv⟩:=compSt_at e2
   have hz:(x,j)∈(N.drop k).zip caps:=by
    refine List.mem_iff_getElem?.mpr ⟨i - k,?_⟩
    rw [List.getElem?_zip_eq_some]
    refine ⟨?_,hj⟩
    rw [List.getElem?_drop,show k + (i - k)=i by omega]
    exact e1
   obtain ⟨hp,hfr⟩:=S.cap (x,j) hz
   have hk:=S.free (x,.free) (PySem.mem_of_lookup hfr) rfl
   obtain ⟨m2,hn2,hl⟩:=I.loc
   obtain ⟨u,r,l⟩:=hl j x v hp hv (by rcases hk with q | q; exact .inr (.inl q); exact .inr (.inr q))
   refine ⟨u,r,?_⟩
   have hcell:∃ c,X.env.cells.lookup x=some c∧s.heap.IsCell c (some u):=by
    rcases l with ⟨q,_⟩ | ⟨_,c',q1,q2⟩
    · have q':X.env.scope.names.lookup x=some .local:=q
      rcases hk with z | z
      · rw [q'] at z; cases z
      · rw [q'] at z; cases z
    · exact ⟨c',q1,q2⟩
   obtain ⟨c,hc1,o,ho,hd⟩:=hcell
   have hc2:(cellsC X scope C).lookup x=some c:=by
    have hm:=PySem.mem_of_lookup hfr
    obtain ⟨c0,h0⟩:=closOf_has (env:=X.env) (acc:=[]) hm
    obtain ⟨c',hc'⟩:=look_of_mem (l:=cellsC X scope C) (x:=x) (c:=c0) (by unfold cellsC; rw [cellsFrom_app]; exact List.mem_append_right _ h0)
    rcases cellsC_split (C:=C) I S (PySem.mem_of_lookup hc') with q | q
    · rcases cellsFrom_cell q with z | z
      · simp at z
      · have:=nodup_key S.ndn hm z; cases this
    · rw [hc1] at q; cases q; exact hc'
   obtain ⟨sl,q⟩:=J.base.any ho (I.freeC x c hc1) (hfc x c hc1)
   exact .inr ⟨relabel_free hfr,c,hc2,_,q,hd⟩
 · show (compSt k caps σ).length=N.length
   unfold compSt
   rw [List.length_append,List.length_replicate,List.length_map,S.len]
end
def PF (X:Cx) (ifs:List Expr) (t:TT):Prop :=
 ∀ (pins:List (Addr × Obj)) (s:Shared) (σ:St) (H:Hp) (Q:Bool→Hp→Prop),Inv X pins σ H s→t σ H Q →
  wpAny (model X.prog X.w) X.A (forIn ifs true fun c r=>if r=true then do let ok ←isTrue c X.env (eval c X.env); pure (ForInStep.yield ok) else pure (ForInStep.yield r)) (TP X pins σ Q) X.xe s
def tYes:TT:=fun _ H Q=>Q true H
theorem pf_nil {X:Cx}:PF X [] tYes:=fun _ _ _ H _ I h=>wpAny_tests_nil ⟨H,I,h⟩
theorem comp_loop {prog:Program} {w:World} {A:Around} {R:Result→Shared→Prop} {s:Shared} {elt target iter:Expr} {ifs:List Expr} {scope:Scope} {pos:Pos} {it acc:Value} {env:Env} (I:Nat→Shared→Prop)
 (turn:∀ n s,I n s→wpAny (model prog w) A (pyNext it) (fun r s₁=>match r with
  | none=>R (.ok .next) s₁
  | some v=>wpAny (model prog w) A (letOwnedTupleGo target it v) (fun _ s₁=>wpAny (model prog w) A (assign target env v) (fun _ s₂ =>
   wpAny (model prog w) A (forIn ifs true fun c r=>if r=true then do let ok ←isTrue c env (eval c env); pure (ForInStep.yield ok) else pure (ForInStep.yield r)) (fun ok s₃ =>
    if ok=true then wpAny (model prog w) A (eval elt env) (fun x s₄ =>
     wpAny (model prog w) A (call (.builtin "list.append") [acc,x]) (fun _ s₅=>∃ m,m < n∧I m s₅) (fun _ _=>False) s₄) (fun _ _=>False) s₃
    else ∃ m,m < n∧I m s₃) (fun _ _=>False) s₂) (fun _ _=>False) s₁) (fun _ _=>False) s₁) (fun _ _=>False) s)
 (n:Nat) (h:I n s) :
 codeAny (model prog w) A (.compLoop (.ListComp elt [⟨target,iter,ifs,0⟩] scope pos) 0 it acc env) R s:=by
 refine codeAny_loop rfl I (fun n s hI=>?_) n h
 show wpAny _ A ((compTurn (.ListComp elt [⟨target,iter,ifs,0⟩] scope pos) 0 it acc env).onRaise (fun x=>do noteFrame x env; theTreesLotGoes x)) _ _ s
 refine wpAny_noted ?_
 rw [compTurn_list]
 refine wpAny_bind (wpAny_standAt (wpAny_bind (wpAny_mono (turn n s hI) (fun r s₁ h₁=>?_) fun _ _ h'=>h'.elim)))
 cases r with
 | none=>exact wpAny_pure h₁
 | some v =>
   refine wpAny_bind (wpAny_mono h₁ (fun _ s₁ h₁=>?_) fun _ _ h'=>h'.elim)
   refine wpAny_bind (wpAny_mono h₁ (fun _ s₂ h₂=>wpAny_bind (wpAny_mono h₂ (fun ok s₃ h₃=>?_) fun _ _ h'=>h'.elim)) fun _ _ h'=>h'.elim)
   cases ok with
   | false=>exact wpAny_pure ⟨rfl,h₃⟩
   | true =>
     exact wpAny_bind (wpAny_bind (wpAny_mono h₃ (fun x s₄ h₄=>wpAny_bind (wpAny_mono h₄ (fun _ s₅ h₅=>wpAny_pure (wpAny_pure ⟨rfl,h₅⟩)) fun _ _ h'=>h'.elim)) fun _ _ h'=>h'.elim))
def tComp (k:Nat) (caps:List Nat) (wi:TI) (g:TG) (tc:TT) (te:TE):TE:=fun σ H Q=>wi σ H fun J H1=>∀ D,H1 D=none→∃ W:Nat→Nat→List V→Hp→Prop,(∃ m,W 0 m [] (upd H1 D (.lst [])))∧∀ i m ys H2,W i m ys H2 →
 (J.stop i H2∧Q (.ref D) H2)∨(J.go i H2∧∀ x H3,J.yld i H2 x H3→g x (compSt k caps σ) H3 fun σ4 H4=>tc σ4 H4 fun b H5 =>
  if b=true then te σ4 H5 fun y H6=>H6 D=some (.lst ys)∧ys.length < sizeLine∧∃ m',m' < m∧W (i + 1) m' (ys++[y]) (upd H6 D (.lst (ys++[y]))) else ∃ m',m' < m∧W (i + 1) m' ys H5)
theorem comp_block {X:Cx} {elt iter tg:Expr} {ifs:List Expr} {scope:Scope} {pos:Pos} {N:List Str} {k:Nat} {caps:List Nat} {g:TG} {tc:TT} {te:TE} {pins:List (Addr × Obj)} {σ:St} {H:Hp} {s:Shared} {E:Value→Shared→Prop} {Q:VK}
 {it:Addr} {fp:List Addr} {tn:Nat→Heap→Prop} {J:It} {RR:Value→Addr→Result→Shared→Prop} (hc:X.calm=true) (S:CompScope X.env.scope X.N scope N k caps) (I:Inv X pins σ H s)
 (T:Turn X.prog X.w X.K tg J fp it tn) (st:tn 0 s.heap) (hf:∀ b∈fp,FpOk X pins H b)
 (hg:∀ cs C s H ex,PG (cxComp X N scope cs C s H ex) tg g) (ht:∀ cs C s H ex,PF (cxComp X N scope cs C s H ex) ifs tc) (he:∀ cs C s H ex,PE (cxComp X N scope cs C s H ex) elt te)
 (q:∀ D,H D=none→∃ W:Nat→Nat→List V→Hp→Prop,(∃ m,W 0 m [] (upd H D (.lst [])))∧∀ i m ys H2,W i m ys H2 →
  (J.stop i H2∧Q (.ref D) H2)∨(J.go i H2∧∀ x H3,J.yld i H2 x H3→g x (compSt k caps σ) H3 fun σ4 H4=>tc σ4 H4 fun b H5 =>
   if b=true then te σ4 H5 fun y H6=>H6 D=some (.lst ys)∧ys.length < sizeLine∧∃ m',m' < m∧W (i + 1) m' (ys++[y]) (upd H6 D (.lst (ys++[y]))) else ∃ m',m' < m∧W (i + 1) m' ys H5))
 (hRR:∀ D C H' s' m,C≠X.env.locals→(∀ x c,X.env.cells.lookup x=some c→c≠C)→s'.heap.Ns C m→(∀ h',Heap.SameBut C s'.heap h'→Inv X pins σ H' { s' with heap:=h' })→H' C=none→s.heap.objs.size≤C→Q (.ref D) H'→RR (.ref D) C (.ok .next) s') :
 wpAny (model X.prog X.w) X.A (newList []) (fun acc s₃=>wpAny (model X.prog X.w) X.A (newFunctionEnv scope X.env.globals (closOf X.env scope.names []) [] X.env.qual none .none (some X.env)) (fun cenv s₄ =>
  codeAny (model X.prog X.w) X.A (.compStart (.ListComp elt [⟨tg,iter,ifs,0⟩] scope pos) 0 (.ref it) acc { cenv with scope:=relabel scope X.env }) (RR acc cenv.locals) s₄) E s₃) E s:=by
 refine wpAny_newObj_type (nfe_comp ?_)
 generalize hD:s.heap.objs.size=D
 have hsz1:(s.heap.push { cls:=.type "list",dict:=none,data:=.seq ([]:List Value).toArray }).objs.size=D + 1:=by rw [Heap.size_push,hD]
 dsimp only
 rw [hsz1]
 have hfo:∀ b∈fp,∃ o,s.heap.get? b=some o:=fun b hb=>let ⟨o,e,_⟩:=T.obj 0 _ st b hb; ⟨o,e⟩
 have hHD:H D=none:=I.hok.fresh (by rw [hD]; exact Nat.le_refl _)
 have J0:=comp_start (t':=s.toks) I S hf hfo (D:=D) (C:=D + 1) hD.symm rfl rfl
 have hfc:∀ x c,X.env.cells.lookup x=some c→c ∉ fp:=fun x c e hb=>(hf c hb).2.2.2.2.1 x c e rfl
 have fpo:∀ {pins':List (Addr × Obj)} {H':Hp},(∀ b∈fp,H' b=none)→pins'=[]→∀ b∈fp,FpOk (cxComp X N scope (cellsC X scope (D + 1)) (D + 1) s H fp) pins' H' b:=fun {pins' H'} hn hp b hb=>by
  obtain ⟨o,e⟩:=hfo b hb
  have hlt:@LT.lt Nat _ b D:=by rw [←hD]; exact Heap.lt_size e
  subst hp
  refine ⟨hn b hb,?_,fun z=>?_,.inl hb,fun x c e=>(J0.ok.exf b hb).2 x c e,fun p hp=>absurd hp (by simp)⟩
  · show @Ne Nat b (D + 1)
    omega
  · have z':b∈frs X.stack:=z
    rcases List.mem_cons.mp (I.stkSub b z') with w | w
    · exact (hf b hb).2.1 w
    · exact (hf b hb).2.2.1 w
 obtain ⟨W,⟨m0,w0⟩,turn⟩:=q D hHD
 have st1:tn 0 (pushCells ((s.heap.push { cls:=.type "list",data:=.seq #[] }).push { cls:=.type "dict",data:=.dict #[] }) scope.names):=T.keep 0 _ _ st fun b hb o e=>pushCells_keeps _ _ b o (Heap.get?_push_of_some _ (Heap.get?_push_of_some _ e))
 have fr0:∀ b∈fp,(upd H D (.lst [])) b=none:=fun b hb=>by
  obtain ⟨o,e⟩:=hfo b hb
  have hlt:@LT.lt Nat _ b D:=by rw [←hD]; exact Heap.lt_size e
  rw [upd_ne (show @Ne Nat b D by omega)]
  exact (hf b hb).1
 have fin:∀ {H':Hp} {s':Shared} {σ':St} {pins':List (Addr × Obj)},Inv (cxComp X N scope (cellsC X scope (D + 1)) (D + 1) s H fp) pins' σ' H' s'→Q (.ref D) H'→RR (.ref D) (D + 1) (.ok .next) s':=fun {H' s' σ' pins'} J q=>by
  obtain ⟨m,hn,_⟩:=id J.loc
  refine hRR D (D + 1) H' s' m (fun z=>?_) (fun x c e z=>?_) hn (fun h' hs=>?_) J.free (by rw [hD]; exact Nat.le_succ _) q
  · have h1:@LT.lt Nat _ X.env.locals D:=by rw [←hD]; exact I.lt
    have z':@Eq Nat (D + 1) X.env.locals:=z
    omega
  · obtain ⟨v,y⟩:=I.cell x c e
    have h1:@LT.lt Nat _ c D:=by rw [←hD]; exact y.lt
    have z':@Eq Nat c (D + 1):=z
    omega
  · refine I.call' (ch:=fp) J.os (J.base.but hs (by rw [hD]; exact Nat.le_succ _)) (J.hok.but hs J.free) J.bare fun b hb=>?_
    exact ⟨(hf b hb).2.2.2.1,(hf b hb).2.1,(hf b hb).2.2.2.2.1,(hf b hb).2.2.2.2.2⟩
 have loop : codeAny (model X.prog X.w) X.A (.compLoop (.ListComp elt [⟨tg, iter, ifs, 0⟩] scope pos) 0 (.ref it) (.ref D) (compEnvC scope (cellsC X scope (D + 1)) (D + 1) X.env)) (RR (.ref D) (D + 1))
  { s with heap:=pushCells ((s.heap.push { cls:=.type "list",data:=.seq #[] }).push { cls:=.type "dict",data:=.dict #[] }) scope.names }:=by
  refine comp_loop (fun n s'=>∃ i ys H',Inv (cxComp X N scope (cellsC X scope (D + 1)) (D + 1) s H fp) [] (compSt k caps σ) H' s'∧tn i s'.heap∧(∀ b∈fp,H' b=none)∧W i n ys H') ?_ m0 ⟨0,[],_,J0,st1,fr0,w0⟩
  rintro n s3 ⟨i,ys,H3,I3,st3,fr3,w3⟩
  rcases turn i n ys H3 w3 with ⟨stop,qn⟩ | ⟨go,step⟩
  · refine thn (T.done (cxComp X N scope (cellsC X scope (D + 1)) (D + 1) s H fp) rfl rfl rfl hc i [] s3 _ H3 _ I3 (fpo fr3 rfl) st3 stop) fun r s4 ⟨hr,I4⟩=>?_
    subst hr
    exact fin I4 qn
  · refine thn (T.item (cxComp X N scope (cellsC X scope (D + 1)) (D + 1) s H fp) rfl rfl rfl hc i [] s3 _ H3 _ I3 (fpo fr3 rfl) st3 go) fun r s4 ⟨u,hr,h4⟩=>?_
    subst hr
    refine thn h4 fun _ s5 ⟨x,H5,I5,r5,y5,st5,fr5⟩=>?_
    have I5':=I5.pinned (fpo fr5 rfl) (T.obj _ _ st5)
    have again:∀ {σ7:St} {H7:Hp} {s7:Shared} {m':Nat} {zs:List V},Inv (cxComp X N scope (cellsC X scope (D + 1)) (D + 1) s H fp) ([]++pinsAt fp s5.heap) σ7 H7 s7→m' < n→W (i + 1) m' zs H7 →
     ∃ m,m < n∧∃ i ys H',Inv (cxComp X N scope (cellsC X scope (D + 1)) (D + 1) s H fp) [] (compSt k caps σ) H' s7∧tn i s7.heap∧(∀ b∈fp,H' b=none)∧W i m ys H':=fun {σ7 H7 s7 m' zs} I7 hm w7=>by
     refine ⟨m',hm,i + 1,zs,H7,comp_again I S hfc (by rw [hD]; exact Nat.le_succ _) I7.unpinned,T.keep _ _ _ st5 fun b hb o e=>(I7.pin (b,o) (List.mem_append_right _ (List.mem_append_right _ (mem_pinsAt hb e)))).1,fun b hb=>?_,w7⟩
     obtain ⟨o,e,d⟩:=T.obj _ _ st5 b hb
     exact (I7.pin (b,o) (List.mem_append_right _ (List.mem_append_right _ (mem_pinsAt hb e)))).2.1
    refine thn (hg _ _ _ _ _ _ s5 _ H5 x u _ I5' r5 (step x H5 y5)) fun _ s6 ⟨σ6,H6,I6,q6⟩=>?_
    refine thn (ht _ _ _ _ _ _ s6 σ6 H6 _ I6 q6) fun b s7 ⟨H7,I7,q7⟩=>?_
    cases b with
    | false =>
      rw [if_neg Bool.false_ne_true] at q7 ⊢
      obtain ⟨m',hm,w7⟩:=q7
      exact again I7 hm w7
    | true =>
      rw [if_pos rfl] at q7 ⊢
      refine thn (he _ _ _ _ _ _ s7 σ6 H7 _ I7 q7) fun y s8 ⟨yv,H8,I8,r8,hD8,hz8,m',hm,w8⟩=>?_
      refine thn (mt_append (X:=cxComp X N scope (cellsC X scope (D + 1)) (D + 1) s H fp) _ s8 σ6 H8 (.ref D) [yv] (.ref D) [y] (fun _ H9=>W (i + 1) m' (ys++[yv]) H9) I8 rfl (.cons r8 .nil) ⟨D,ys,yv,rfl,rfl,hD8,hz8,w8⟩) fun _ s9 ⟨_,H9,I9,_,w9⟩=>?_
      exact again I9 hm w9
 exact codeAny_compStart_list loop (T.self _ 0 _ _ _ st1 loop)
theorem pe_comp {X:Cx} {elt iter tg:Expr} {ifs:List Expr} {scope:Scope} {pos:Pos} {N:List Str} {k:Nat} {caps:List Nat} {wi:TI} {g:TG} {tc:TT} {te:TE} (hc:X.calm=true) (S:CompScope X.env.scope X.N scope N k caps) (hi:PI X tg iter wi)
 (hg:∀ cs C s H ex,PG (cxComp X N scope cs C s H ex) tg g) (ht:∀ cs C s H ex,PF (cxComp X N scope cs C s H ex) ifs tc) (he:∀ cs C s H ex,PE (cxComp X N scope cs C s H ex) elt te)
 (hs:∀ x,foldedSetIterable iter X.env x=pure x:=by intro _; rfl):PE X (.ListComp elt [⟨tg,iter,ifs,0⟩] scope pos) (tComp k caps wi g tc te):=by
 intro pins s σ H Q I h
 have hcl:closureFor scope X.env=pure (closOf X.env scope.names []):=closureFor_of fun x hx hfr=>I.ok.has x.1 (S.free x hx hfr)
 rw [eval_ListComp]
 refine wpAny_comprehension_free (use:=none) rfl hs hcl S.kind S.loc (thn (hi pins s σ H _ I h) fun v s1 h1=>thn h1 fun itv s2 h2=>?_)
 obtain ⟨it,fp,tn,J,H2,e,I2,T,st2,f2,q⟩:=h2
 subst e
 refine comp_block (Q:=Q) hc S I2 T st2 f2 hg ht he q ?_
 intro D C H' s' m _ _ hn hI _ _ hq
 exact ⟨m,hn,fun h' hs'=>⟨.ref D,H',hI h' hs',rfl,hq⟩⟩
theorem ps_setC {X:Cx} {elt iter tg:Expr} {ifs:List Expr} {scope:Scope} {pos spos:Pos} {N:List Str} {k i:Nat} {x:Str} {pos':Pos} {caps:List Nat} {wi:TI} {g:TG} {tc:TT} {te:TE} (hN:X.N.Nodup) (hi':X.N[i]?=some x) (hx:Loc X.env.scope x)
 (hc:X.calm=true) (S:CompScope X.env.scope X.N scope N k caps) (hi:PI X tg iter wi)
 (hg:∀ cs C s H ex,PG (cxComp X N scope cs C s H ex) tg g) (ht:∀ cs C s H ex,PF (cxComp X N scope cs C s H ex) ifs tc) (he:∀ cs C s H ex,PE (cxComp X N scope cs C s H ex) elt te)
 (hsw:swapsWith (.ListComp elt [⟨tg,iter,ifs,0⟩] scope pos) (some (.Name x pos')) spos.line X.env=pure true:=by rfl)
 (hs:∀ x,foldedSetIterable iter X.env x=pure x:=by intro _; rfl) (hfn:X.fn x=true∨X.env.scope.names.lookup x=some .local:=by first | exact .inl rfl | exact .inr rfl | assumption) :
 PS X (.Assign [.Name x pos'] (.ListComp elt [⟨tg,iter,ifs,0⟩] scope pos) spos) (tAsg (tComp k caps wi g tc te) (gName i)):=by
 intro pins s σ H D I h
 have hcl:closureFor scope X.env=pure (closOf X.env scope.names []):=closureFor_of fun x hx hfr=>I.ok.has x.1 (S.free x hx hfr)
 rw [exec_Assign_Name_used _ _ _ _ hsw]
 refine wpAny_bind (wpAny_standAt (wpAny_bind ?_))
 show wpAny _ _ (do let _ ←comprehension (.ListComp elt [⟨tg,iter,ifs,0⟩] scope pos) scope X.env _ (newList []) false (eval iter X.env) (some (assign (.Name x pos') X.env))) _ _ s
 refine wpAny_bind (wpAny_mono (wpAny_comprehension_free (use:=some (assign (.Name x pos') X.env)) (Q:=fun _ s'=>SP X pins D .next s') rfl hs hcl S.kind S.loc
  (thn (hi pins s σ H _ I h) fun v s1 h1=>thn h1 fun itv s2 h2=>?_)) (fun _ s' hq=>wpAny_pure (wpAny_pure hq)) fun _ _ e=>e)
 obtain ⟨it,fp,tn,J,H2,e,I2,T,st2,f2,q⟩:=h2
 subst e
 refine comp_block (Q:=fun x H1=>gName i x σ H1 D.nx) hc S I2 T st2 f2 hg ht he q ?_
 intro D' C H' s' m hCL hCc hn hI hHC hCs hq
 have I3:=hI s'.heap (.refl ..)
 have I3':Inv X pins σ H' s':=I3
 refine wpAny_assign_Name (store_ok2 I3' hN hi' hx (show RelV (V.ref D') (.ref D') from rfl) (fun s'' I4 ⟨a,hsb,ha⟩=>?_) hfn)
 have hCa:C≠a:=by
  rcases ha with ha | ha
  · rw [ha]; exact hCL
  · exact Ne.symm (hCc x a ha)
 refine ⟨m,hn.sameBut hsb hCa,fun h' hs'=>?_⟩
 refine ⟨_,H',?_,hq⟩
 exact I4.turned (t':=s''.toks) (fun b o hb e=>(hs'.2 b hb).trans e) hHC hCL (.inr (Nat.le_trans I2.sz hCs)) hCc fun p hp z=>by
  have:=Heap.lt_size (I2.pin p hp).1
  rw [z] at this
  exact absurd (Nat.lt_of_lt_of_le this hCs) (Nat.lt_irrefl _)
end L2
namespace L2
open PySem PySem.Spec PyProof.Rows
def Callee (P:Program) (w:World) (K:PySem.W.Frag) (mg:Str→Option Value) (base:Heap) (x:Str) (k:Nat) (ps:List Str) (sp:Sp):Prop :=
 ∃ f fd,FnOk P w K mg base CX0 k f fd ps sp∧mg x=some (.ref f)∧PySem.W.keepIn K (.ref f)=true∧Binds K fd ps []
section
variable {X:Cx} {x:Str} {k:Nat} {ps:List Str} {sp:Sp} {e:Expr} {es:List Expr} {t:TA} {p pos:Pos}
theorem pe_fn (C:Callee X.prog X.w X.K X.mg X.base x k ps sp) (ha:PA X (e :: es) t) (hr:Room k X.A:=by exact Room.mono (by assumption) (by decide)) (hg:Gl X x:=by rfl) (hdb:(x == ("__debug__" : Str))=false:=by decide)
 (he:starEach (e :: es) X.env=(false,eval e X.env) :: starEach es X.env:=by rfl) (hpl:(backTo pos (starEach es X.env)).any (·.1)=false:=by rfl):PE X (.Call (.Name x p) (e :: es) [] pos) (tCall sp [] E0 t):=by
 obtain ⟨f,fd,F,hm,hk,hb⟩:=C
 exact pe_call F hr hg hm hk hb .nil pass0 ha hdb he hpl
end
theorem pe_ty {X:Cx} {x:Str} {pos:Pos} (n:String) (hg:Gl X x) (hm:X.mg x=none) (hv:bootBuiltins x=some (.type n)) (hn:x ≠ "__name__" := by decide) (hd:(x == ("__debug__" : Str))=false:=by decide):PE X (.Name x pos) (tC (.ty n)):=pe_bltn (v:=.ty n) hg hm hv rfl hn hd
theorem seq_cut {t u:TS} {D:Ends} {σ:L2.St} {H:Hp} (P:L2.St→Hp→Prop) (hu:∀ σ' H',P σ' H'→u D σ' H') (ht:∀ N:L2.St→Hp→Prop,(∀ σ' H',P σ' H'→N σ' H')→t { D with nx:=N } σ H):tSeq t u D σ H:=ht (u D) hu
theorem Same.upd {H H':Hp} {D:Addr} {o:HO} (h:Same H H') (hn:H D=none):Same H (upd H' D o):=fun b u e=>by
 rw [upd_ne (ne_of_none e hn)]; exact h b u e
theorem comp_str {x:Str} {k:Nat} {caps:List Nat} {g:TG} {te:TE} {σ:St} {H1:Hp} {Q:Addr→Hp→Prop} (f:Nat→V) (hn:x.cps.size≤sizeLine)
 (hs:∀ (i c:Nat) (H2:Hp) (D:Addr) (R:VK),x.cps[i]?=some c→Same H1 H2→H1 D=none→(∀ H3,Same H2 H3→R (f c) H3)→g (.str ⟨#[c]⟩) (compSt k caps σ) H2 fun σ4 H4=>te σ4 H4 R)
 (hd:∀ (H2:Hp) (D:Addr),Same H1 H2→H1 D=none→H2 D=some (.lst (x.cps.toList.map f))→Q D H2) :
 ∀ D,H1 D=none→∃ W:Nat→Nat→List V→Hp→Prop,(∃ m,W 0 m [] (upd H1 D (.lst [])))∧∀ i m ys H2,W i m ys H2 →
  ((Its x).stop i H2∧Q D H2)∨((Its x).go i H2∧∀ y H3,(Its x).yld i H2 y H3→g y (compSt k caps σ) H3 fun σ4 H4=>tYes σ4 H4 fun b H5 =>
   if b=true then te σ4 H5 fun y H6=>H6 D=some (.lst ys)∧ys.length < sizeLine∧∃ m',m' < m∧W (i + 1) m' (ys++[y]) (upd H6 D (.lst (ys++[y]))) else ∃ m',m' < m∧W (i + 1) m' ys H5):=by
 intro D hD
 refine ⟨fun i m ys H2=>m=x.cps.size - i∧i≤x.cps.size∧ys=(x.cps.toList.take i).map f∧Same H1 H2∧H2 D=some (.lst ys),⟨x.cps.size,rfl,Nat.zero_le _,rfl,(Same.refl _).upd hD,upd_same⟩,?_⟩
 rintro i m ys H2 ⟨rfl,hi,rfl,s2,e2⟩
 by_cases hlt:i < x.cps.size
 · refine .inr ⟨hlt,fun y H3 hy=>?_⟩
   obtain ⟨rfl,c,hc,rfl⟩:=hy
   have hc':x.cps.toList[i]?=some c:=by simpa using hc
   refine hs i c H3 D _ hc s2 hD fun H4 s4=>?_
   refine ⟨s4 _ _ e2,by rw [List.length_map,List.length_take]; omega,x.cps.size - (i + 1),by omega,rfl,hlt,?_,(s2.trans s4).upd hD,upd_same⟩
   rw [List.take_succ,hc',List.map_append]
   rfl
 · have e:i=x.cps.size:=by omega
   rw [e,List.take_of_length_le (by simp)] at e2
   exact .inl ⟨e,hd H2 D s2 hD e2⟩
end L2
namespace L2
open PySem PySem.Spec PyProof.Rows
theorem lt_sing {c d:Nat}:(decide (([c]:List Nat) < [d]))=decide (c < d):=by
 by_cases h:c < d
 · rw [decide_eq_true h,decide_eq_true]
   exact List.Lex.rel h
 · rw [decide_eq_false h,decide_eq_false]
   intro q
   cases q with
   | rel q=>exact h q
   | cons q=>cases q
def cellAt (ns:List Int) (k:Int):Int:=(ns[k.toNat]?).getD 0
theorem seq_setC {v:V} {i:Nat} {u:TS} {D:Ends} {σ:St} {H:Hp} (h:u D (σ.set i (some v)) H):tSeq (tAsg (tC v) (gName i)) u D σ H:=h
theorem ixN_in {n:Nat} {k:Int} (h0:0≤k) (h1:k < n):ixN n k=some k.toNat:=by
 unfold ixN
 rw [if_pos h0,if_pos h1]
end L2
namespace L2
open PySem PySem.Spec PyProof.Rows
theorem cutV_take (xs:List V) (n:Nat):cutV xs none (some (n:Int))=xs.take n:=by
 unfold cutV
 rw [HT.sIx_none,HT.sIx_nat,List.drop_zero,Nat.sub_zero]
 by_cases h:n≤xs.length
 · rw [Nat.min_eq_left h]
 · rw [Nat.min_eq_right (by omega),List.take_of_length_le (Nat.le_refl _),List.take_of_length_le (by omega)]
theorem cutV_drop (xs:List V) (n:Nat):cutV xs (some (n:Int)) none=xs.drop n:=by
 unfold cutV
 rw [HT.sIx_none,HT.sIx_nat]
 by_cases h:n≤xs.length
 · rw [Nat.min_eq_left h,List.take_of_length_le (by rw [List.length_drop]; exact Nat.le_refl _)]
 · rw [Nat.min_eq_right (by omega),List.drop_of_length_le (Nat.le_refl _),List.drop_of_length_le (by omega)]
   simp
theorem cutV_mid (xs:List V) (a b:Nat) (hab:a≤b):cutV xs (some (a:Int)) (some (b:Int))=(xs.drop a).take (b - a):=by
 unfold cutV
 rw [HT.sIx_nat,HT.sIx_nat]
 by_cases ha:a≤xs.length
 · rw [Nat.min_eq_left ha]
   by_cases hb:b≤xs.length
   · rw [Nat.min_eq_left hb]
   · rw [Nat.min_eq_right (show xs.length≤b by omega),List.take_of_length_le (by rw [List.length_drop]; exact Nat.le_refl _),List.take_of_length_le (by rw [List.length_drop]; omega)]
 · rw [Nat.min_eq_right (show xs.length≤a by omega),List.drop_of_length_le (Nat.le_refl _),List.drop_of_length_le (show xs.length≤a by omega)]
   simp
theorem same_new {H:Hp} {p:Addr} {o:HO} (h:H p=none):Same H (upd H p o):=(Same.refl H).upd h
end L2
namespace L2
open PySem PySem.Spec PyProof.Rows
theorem g_in {i:Nat} {v:V} {σ:L2.St} {H:Hp} {N:L2.St→Hp→Prop} (h:N (σ.set i (some v)) H):gName i v σ H N:=h
section
variable {X:Cx}
theorem mr_append:MtR X "list.append" rAppend:=mt_append
theorem mr_extend:MtR X "list.extend" rExtend:=mt_extend
end
end L2
namespace L2
open PySem PySem.Spec PyProof.Rows
section
variable {X:Cx}
def rInDict (neg:Bool):R2:=fun x y H Q=>∃ a o,y=.ref a∧DGet H a x o∧Q (.bl (o.isSome != neg)) H
theorem op_notinDict (hu:X.A.units + 1 < cLine):OpR X (compareOp .NotIn) (rInDict true):=by
 intro pins s σ H x y v u Q I rx ry h
 obtain ⟨a,o,rfl,g,q⟩:=h
 cases ry
 refine d_notIn hu I g rx fun s' I'=>⟨.bl _,H,I',?_,q⟩
 cases o <;> rfl
theorem pt_list {a:Expr} {ta:TE} (ha:PE X a ta) (he:∀ whole,isTrue a X.env whole=(do let v ←whole; standAt a.pos; holding [v] (truthy v)):=by intro _; rfl) :
 PT X a (fun σ H Q=>ta σ H fun x H1=>∃ p xs,x=.ref p∧SqL X.K H1 p xs∧Q (!xs.isEmpty) H1):=by
 intro pins s σ H Q I hw
 refine isTrue_plain (thn (ha pins s σ H _ I hw) fun v s1 ⟨x,H1,I1,r1,q1⟩=>?_) (he _)
 obtain ⟨p,xs,rfl,hq,q⟩:=q1
 exact tru_ok pins s1 σ H1 _ v Q I1 r1 ⟨_,Or.inl ⟨xs,hq,rfl⟩,q⟩
end
end L2
namespace L2
open PySem PySem.Spec PyProof.Rows
section
variable {prog:Program} {w:World} {A:Around} {R:Result→Shared→Prop} {It:Addr} {fp wr:List Addr} {G:Array GenState→Array GenState→Prop} {n:Nat} {Pn:Nat→Value→Prop} {Sn:Nat→Shared→Prop}
end
section
variable {prog:Program} {w:World} {A:Around} {E:Value→Shared→Prop} {s:Shared}
end
end L2
namespace L2
open PySem PySem.Spec PyProof.Rows
section
variable {X:Cx}
end
end L2
namespace L2
open PySem PySem.Spec PyProof.Rows PySem.SeqAt
section
variable {X:Cx} {pins:List (Addr × Obj)} {σ:St} {H:Hp} {s:Shared}
end
section
variable {X:Cx} {pins:List (Addr × Obj)} {σ:St} {H:Hp} {s:Shared}
end
section
variable {X:Cx}
end
end L2
namespace Ord
variable {α:Type} [DecidableEq α]
end Ord
namespace War
end War
namespace Ord
variable {α:Type} [DecidableEq α]
end Ord
namespace L2
open PySem PySem.Spec PyProof.Rows Ord
theorem map_at {ls:List Str} {i:Nat} {x:V} (h:(ls.map V.str)[i]?=some x):∃ z,ls[i]?=some z∧x=V.str z:=by
 rw [List.getElem?_map] at h
 obtain ⟨b,h1,h2⟩:=Option.map_eq_some_iff.mp h
 exact ⟨b,h1,h2.symm⟩
theorem one_le:([]:List V).length + 1≤sizeLine:=by decide
theorem two_le:([]:List V).length + 1 + 1≤sizeLine:=by decide
end L2
namespace L2
open PySem PySem.Spec PyProof.Rows Ord
end L2
namespace L2
open PySem PySem.Spec PyProof.Rows
theorem comp_listI {K:PySem.W.Frag} {a:Addr} {xs:List V} {k:Nat} {caps:List Nat} {g:TG} {te:TE} {σ:St} {H1:Hp} {Q:Addr→Hp→Prop} (Pv:Addr→Nat→List V→Hp→Prop)
 (h0:∀ D,H1 D=none→Pv D 0 [] (upd H1 D (.lst []))) (hq:∀ D i ys H2,Pv D i ys H2→SqL K H2 a xs)
 (hs:∀ D i x ys H2 (R:VK),H1 D=none→xs[i]?=some x→Pv D i ys H2→(∀ y H6,H6 D=some (.lst ys)→ys.length < sizeLine→Pv D (i + 1) (ys++[y]) (upd H6 D (.lst (ys++[y])))→R y H6)→g x (compSt k caps σ) H2 fun σ4 H4=>te σ4 H4 R)
 (hd:∀ D ys H2,H1 D=none→Pv D xs.length ys H2→Q D H2) :
 ∀ D,H1 D=none→∃ W:Nat→Nat→List V→Hp→Prop,(∃ m,W 0 m [] (upd H1 D (.lst [])))∧∀ i m ys H2,W i m ys H2 →
  ((Itl K a).stop i H2∧Q D H2)∨((Itl K a).go i H2∧∀ x H3,(Itl K a).yld i H2 x H3→g x (compSt k caps σ) H3 fun σ4 H4=>tYes σ4 H4 fun b H5 =>
   if b=true then te σ4 H5 fun y H6=>H6 D=some (.lst ys)∧ys.length < sizeLine∧∃ m',m' < m∧W (i + 1) m' (ys++[y]) (upd H6 D (.lst (ys++[y]))) else ∃ m',m' < m∧W (i + 1) m' ys H5):=by
 intro D hD
 refine ⟨fun i m ys H2=>m=xs.length - i∧i≤xs.length∧Pv D i ys H2,⟨xs.length,rfl,Nat.zero_le _,h0 D hD⟩,?_⟩
 rintro i m ys H2 ⟨rfl,hi,p⟩
 have q2:=hq D i ys H2 p
 by_cases hlt:i < xs.length
 · refine .inr ⟨⟨xs,xs[i],q2,by simp [hlt]⟩,fun x H3 y=>?_⟩
   obtain ⟨rfl,y⟩:=y
   have hx:=y xs q2
   refine hs D i x ys H3 _ hD hx p fun v H6 e6 hz p6=>?_
   exact ⟨e6,hz,xs.length - (i + 1),by omega,rfl,hlt,p6⟩
 · have e:i=xs.length:=by omega
   subst e
   exact .inl ⟨⟨xs,q2,Nat.le_refl _⟩,hd D ys H2 hD p⟩
end L2
namespace L2
open PySem PySem.Spec PyProof.Rows
section
variable {prog:Program} {w:World} {A:Around} {E:Value→Shared→Prop} {s:Shared}
end
section
variable {X:Cx}
end
end L2
namespace HT
open PySem PyProof.Rows
section
open PySem.SeqAt
open PySem.AutoSeq1 (wpAny_loadPart')
open PySem.MeetsSeq PySem.MeetsSeq2 PySem.MeetsSeq3
end
section
variable {prog:Program} {w:World} {A:Around} {E:Value→Shared→Prop} {s:Shared}
end
end HT
namespace L2
open PySem PySem.Spec PyProof.Rows
section
variable {X:Cx}
end
end L2
namespace L2
end L2
namespace KasM
open PySem PySem.W PyProof.Rows
set_option autoImplicit false
section
variable {O:KeyOrd} {key:Nat→O.α} {n:Nat}
end
end KasM
namespace L2
open PySem PySem.Spec PyProof.Rows
section
variable {prog:Program} {w:World} {A:Around} {E:Value→Shared→Prop} {s:Shared}
end
end L2
namespace L2
open PySem PySem.Spec PyProof.Rows
section
variable {prog:Program} {w:World} {A:Around} {E:Value→Shared→Prop} {s:Shared}
end
section
variable {X:Cx}
end
end L2
namespace L2
open PySem PySem.Spec PyProof.Rows Ord
section
variable {X:Cx}
end
theorem three_le:([]:List V).length + 1 + 1 + 1≤sizeLine:=by decide
structure GT (H:Hp) (ts:List Addr) (gs:List (Str × Int)):Prop where
 len:ts.length=gs.length
 at_:∀ (n:Nat) (t:Addr) (p:Str × Int),ts[n]?=some t→gs[n]?=some p→H t=some (.tup [.str p.1,.int p.2])
theorem GT.nil {H:Hp}:GT H [] []:=⟨rfl,fun n t p h=>by simp at h⟩
theorem GT.same {H H':Hp} {ts:List Addr} {gs:List (Str × Int)} (e:Same H H') (h:GT H ts gs):GT H' ts gs:=⟨h.len,fun n t p h1 h2=>e _ _ (h.at_ n t p h1 h2)⟩
theorem GT.snoc {H:Hp} {t:Addr} {ts:List Addr} {gs:List (Str × Int)} {p:Str × Int} (h:GT H ts gs) (e:H t=some (.tup [.str p.1,.int p.2])):GT H (ts++[t]) (gs++[p]):=by
 refine ⟨by rw [List.length_append,List.length_append,h.len]; rfl,fun n v q h1 h2=>?_⟩
 rcases Nat.lt_or_ge n ts.length with hlt | hge
 · rw [List.getElem?_append_left hlt] at h1
   rw [List.getElem?_append_left (by rw [←h.len]; exact hlt)] at h2
   exact h.at_ n v q h1 h2
 · have hn1:n < (ts++[t]).length:=(List.getElem?_eq_some_iff.mp h1).1
   rw [List.length_append,List.length_singleton] at hn1
   have e':n=ts.length:=by omega
   subst e'
   rw [List.getElem?_append_right (Nat.le_refl _),Nat.sub_self] at h1
   rw [List.getElem?_append_right (by rw [h.len]; exact Nat.le_refl _),h.len,Nat.sub_self] at h2
   cases h1; cases h2
   exact e
theorem comp_rangeI {k:Nat} {caps:List Nat} {g:TG} {te:TE} {σ:St} {H1:Hp} {Q:Addr→Hp→Prop} {lo:Int} {n:Nat} (Pv:Addr→Nat→List V→Hp→Prop)
 (h0:∀ D,H1 D=none→Pv D 0 [] (upd H1 D (.lst [])))
 (hs:∀ (D:Addr) (i:Nat) (ys:List V) (H2:Hp) (R:VK),H1 D=none→i < n→Pv D i ys H2→(∀ y H6,H6 D=some (.lst ys)→ys.length < sizeLine→Pv D (i + 1) (ys++[y]) (upd H6 D (.lst (ys++[y])))→R y H6)→g (.int (lo + i)) (compSt k caps σ) H2 fun σ4 H4=>te σ4 H4 R)
 (hd:∀ D ys H2,H1 D=none→Pv D n ys H2→Q D H2) :
 ∀ D,H1 D=none→∃ W:Nat→Nat→List V→Hp→Prop,(∃ m,W 0 m [] (upd H1 D (.lst [])))∧∀ i m ys H2,W i m ys H2 →
  ((Itr lo n).stop i H2∧Q D H2)∨((Itr lo n).go i H2∧∀ x H3,(Itr lo n).yld i H2 x H3→g x (compSt k caps σ) H3 fun σ4 H4=>tYes σ4 H4 fun b H5 =>
   if b=true then te σ4 H5 fun y H6=>H6 D=some (.lst ys)∧ys.length < sizeLine∧∃ m',m' < m∧W (i + 1) m' (ys++[y]) (upd H6 D (.lst (ys++[y]))) else ∃ m',m' < m∧W (i + 1) m' ys H5):=by
 intro D hD
 refine ⟨fun i m ys H2=>m=n - i∧i≤n∧Pv D i ys H2,⟨n,rfl,Nat.zero_le _,h0 D hD⟩,?_⟩
 rintro i m ys H2 ⟨rfl,hi,p⟩
 by_cases hlt:i < n
 · refine .inr ⟨hlt,fun x H3 y=>?_⟩
   obtain ⟨rfl,rfl⟩:=y
   refine hs D i ys H3 _ hD hlt p fun v H6 e6 hz p6=>?_
   exact ⟨e6,hz,n - (i + 1),by omega,rfl,hlt,p6⟩
 · have e:i=n:=by omega
   subst e
   exact .inl ⟨Nat.le_refl _,hd D ys H2 hD p⟩
end L2
namespace L2
open PySem PySem.Spec PyProof.Rows
def FlyAt (h:Heap) (e T:Addr) (cls fl:Value) (dd:Option Addr):Prop :=
 ∃ oe vs oT ts,h.get? e=some oe∧oe.cls=cls∧oe.dict=dd∧oe.data=.fields vs∧vs[1]?=some (.ref T)∧T≠e∧h.get? T=some oT∧oT.data=.fields ts∧ts[3]?=some fl
abbrev Fly (h:Heap) (e T:Addr) (cls:Value) (dd:Option Addr):Prop:=FlyAt h e T cls .none dd
structure GoneAt (l:List Env) (e T T':Addr) (cls fl:Value) (dd:Option Addr) (h h':Heap):Prop where
 fly:FlyAt h' e T' cls fl dd
 tr:T'=T∨h.get? T'=none
 keep:∀ b o,h.get? b=some o→b≠e→b≠T→b ∉ frs l→h'.get? b=some o
 slot:∀ b o,h.get? b=some o→b∈frs l→∃ sl,h'.get? b=some { o with slots:=sl }
abbrev Gone (l:List Env) (e T T':Addr) (cls:Value) (dd:Option Addr) (h h':Heap):Prop:=GoneAt l e T T' cls .none dd h h'
section
variable {M:Model} {A:Around} {E:Value→Shared→Prop} {s:Shared} {base:Heap} {env:Env} {outer:List Env} {L e T:Addr} {cls fl:Value} {dd:Option Addr} {Q:Unit→Shared→Prop}
theorem entry_ok {oe:Obj} {vs:Array Value} {head:Value} {hadNext:Bool} (hfr:A.frames=some (env :: outer)) (hl:s.heap.FunFrames base (env :: outer)) (hf:env.frame=some L) (he:s.heap.get? e=some oe) (hd:oe.data=.fields vs) (hsz:1 < vs.size)
 (h:∀ h' T',(∀ b o,s.heap.get? b=some o→b≠e→b ∉ frs (env :: outer)→h'.get? b=some o)→(∀ b o,s.heap.get? b=some o→b∈frs (env :: outer)→∃ sl,h'.get? b=some { o with slots:=sl })→s.heap.get? T'=none→T'≠e →
  (∃ oe',h'.get? e=some oe'∧oe'.cls=oe.cls∧oe'.dict=oe.dict∧oe'.data=.fields (vs.setIfInBounds 1 (.ref T')))→(∃ oT ts,h'.get? T'=some oT∧oT.data=.fields ts∧ts[3]?=some (rawInt L))→Q () { s with heap:=h' }) :
 wpAny M A (do let a ←frameOf env; let pl ←entryPlaceOf L hadNext; let b ←EntryCells.newEntry head a .none (rawInt L) .none pl; setField (.ref e) 1 b) Q E s:=by
 have ne:e ∉ frs (env :: outer):=fun m=>by
  obtain ⟨_,o,ho,nf⟩:=hl.mem m
  rw [he] at ho; cases ho
  exact nf vs hd
 refine wpAny_bind (wpAny_frameOf_fun hfr hl hf fun g1 so=>?_)
 refine wpAny_bind (wpAny_entryPlaceOf fun pl hpl=>?_)
 unfold EntryCells.newEntry newFields
 refine wpAny_bind (wpAny_newObj_type ?_ (hpl.sizeOk5 _ _ _ _ _))
 generalize hob:({ cls:=.type "traceback",dict:=none,data:=.fields ([head,.ref L,.none,rawInt L,.none]++(if pl.isEmpty then List.replicate 6 Value.none else pl)).toArray }:Obj)=ob
 have q1:g1.get? e=some oe:=(so.2.1 e ne).trans he
 have q2:(g1.push ob).get? e=some oe:=Heap.get?_push_of_some _ q1
 have nz:g1.objs.size≠e:=Nat.ne_of_gt (Heap.lt_size q1)
 refine wpAny_setField q2 hd hsz (h _ g1.objs.size (fun b o q n m=>?_) (fun b o q m=>?_) ?_ nz ?_ ?_)
 · rw [Heap.get?_update_other _ _ (Ne.symm n)]
   exact Heap.get?_push_of_some _ ((so.2.1 b m).trans q)
 · obtain ⟨sl,q'⟩:=so.2.2 b o q
   refine ⟨sl,?_⟩
   rw [Heap.get?_update_other _ _ (fun z=>ne (by rw [z]; exact m))]
   exact Heap.get?_push_of_some _ q'
 · exact Heap.get?_none_of_le (by rw [so.1]; exact Nat.le_refl _)
 · have d3:=Obj.data_mapFields hd (·.setIfInBounds 1 (Value.ref g1.objs.size))
   refine ⟨_,Heap.get?_update_self _ q2 (Obj.isFreed_of_fields d3),Obj.cls_mapFields _ _,?_,d3⟩
   obtain ⟨c,dd,dt,sl⟩:=oe
   cases dt <;> first | rfl | (simp at hd)
 · have q4:(g1.push ob).get? g1.objs.size=some ob:=Heap.get?_push_size _ (by rw [←hob]; rfl)
   refine ⟨ob,_,(Heap.get?_update_other _ _ (Ne.symm nz)).trans q4,by rw [←hob],?_⟩
   first | (simp; done) | (rcases hpl with rfl | ⟨_,_,_,_,_,_,_,rfl⟩ <;> simp)
theorem note_next (hfr:A.frames=some (env :: outer)) (hl:s.heap.FunFrames base (env :: outer)) (hf:env.frame=some L) (ht:FlyAt s.heap e T cls fl dd)
 (h:∀ h' T',GoneAt (env :: outer) e T T' cls (rawInt L) dd s.heap h'→Q () { s with heap:=h' }):wpAny M A (noteFrame (.ref e) env) Q E s:=by
 obtain ⟨oe,vs,oT,ts,e1,e2,e2d,e3,e4,e5,e6,e7,e8⟩:=ht
 have hz:3 < ts.size:=(Array.getElem?_eq_some_iff.mp e8).1
 have oth:∀ b,b≠T→(s.heap.update T (Obj.mapFields (·.setIfInBounds 3 Value.none))).get? b=s.heap.get? b:=fun b hb=>Heap.get?_update_other _ _ (Ne.symm hb)
 have nf:∀ b o,s.heap.get? b=some o→(∀ vs,o.data≠.fields vs)→b≠T:=fun b o q n z=>by
  rw [z,e6] at q; cases q
  exact n ts e7
 unfold noteFrame
 simp only [hf]
 refine wpAny_bind (wpAny_field e1 e3 e4 ?_)
 rw [if_pos (show (Value.ref T != Value.none)=true from by simp)]
 refine wpAny_bind (wpAny_field e6 e7 e8 ?_)
 by_cases z:(fl == rawInt L)=true
 · rw [if_pos z]
   refine wpAny_pure (h s.heap T ⟨⟨oe,vs,oT,ts,e1,e2,e2d,e3,e4,e5,e6,e7,by rw [e8,beq_iff_eq.mp z]⟩,.inl rfl,fun b o q _ _ _=>q,fun b o q _=>⟨o.slots,q⟩⟩)
 rw [if_neg z]
 refine wpAny_bind (wpAny_setField e6 e7 hz ?_)
 refine entry_ok (base:=base) hfr (hl.of_keeps fun b o q n=>⟨o,(oth b (nf b o q n)).trans q,rfl⟩) hf ((oth e (Ne.symm e5)).trans e1) e3 (Array.getElem?_eq_some_iff.mp e4).1 fun h' T' k1 k2 k3 k4 ⟨oe',y1,y2,y3,y4⟩ ⟨oT',ts',z1,z2,z3⟩=>?_
 have nT:T'≠T:=fun z=>by
  have:=Heap.get?_update_self (Obj.mapFields (·.setIfInBounds 3 Value.none)) e6 (Obj.isFreed_of_fields (Obj.data_mapFields e7 _))
  rw [←z] at this
  rw [z] at k3 this
  rw [k3] at this; cases this
 refine h h' T' ⟨⟨oe',_,oT',ts',y1,y2.trans e2,y3.trans e2d,y4,?_,k4,z1,z2,z3⟩,.inr ((oth T' nT).symm.trans k3),fun b o q n1 n2 n3=>k1 b o ((oth b n2).trans q) n1 n3,fun b o q m=>?_⟩
 · simp [(Array.getElem?_eq_some_iff.mp e4).1]
 · obtain ⟨_,o',q',n⟩:=hl.mem m
   rw [q] at q'; cases q'
   exact k2 b o ((oth b (nf b o q n)).trans q) m
theorem note_first {oe:Obj} {vs:Array Value} (hfr:A.frames=some (env :: outer)) (hl:s.heap.FunFrames base (env :: outer)) (hf:env.frame=some L) (he:s.heap.get? e=some oe) (hd:oe.data=.fields vs) (h1:vs[1]?=some .none)
 (h:∀ h' T',GoneAt (env :: outer) e e T' oe.cls (rawInt L) oe.dict s.heap h'→Q () { s with heap:=h' }):wpAny M A (noteFrame (.ref e) env) Q E s:=by
 unfold noteFrame
 simp only [hf]
 refine wpAny_bind (wpAny_field he hd h1 ?_)
 rw [if_neg (by decide)]
 refine entry_ok (base:=base) hfr hl hf he hd (Array.getElem?_eq_some_iff.mp h1).1 fun h' T' k1 k2 k3 k4 ⟨oe',y1,y2,y3,y4⟩ ⟨oT',ts',z1,z2,z3⟩=>?_
 refine h h' T' ⟨⟨oe',_,oT',ts',y1,y2,y3,y4,?_,k4,z1,z2,z3⟩,.inr k3,fun b o q n1 _ n3=>k1 b o q n1 n3,k2⟩
 simp [(Array.getElem?_eq_some_iff.mp h1).1]
theorem flight_off (ht:FlyAt s.heap e T cls fl dd) (h:∀ h',Fly h' e T cls dd→(∀ b o,s.heap.get? b=some o→b≠T→h'.get? b=some o)→Q () { s with heap:=h' }):wpAny M A (setFlight (.ref e) none) Q E s:=by
 obtain ⟨oe,vs,oT,ts,e1,e2,e2d,e3,e4,e5,e6,e7,e8⟩:=ht
 have hz:3 < ts.size:=(Array.getElem?_eq_some_iff.mp e8).1
 have oth:∀ b,b≠T→(s.heap.update T (Obj.mapFields (·.setIfInBounds 3 ((none:Option Addr).elim Value.none fun f=>rawInt f)))).get? b=s.heap.get? b:=fun b hb=>Heap.get?_update_other _ _ (Ne.symm hb)
 unfold setFlight
 refine wpAny_bind (wpAny_field e1 e3 e4 ?_)
 rw [if_pos (show (Value.ref T != Value.none)=true from by simp)]
 refine wpAny_setField e6 e7 hz (h _ ?_ fun b o q n=>(oth b n).trans q)
 exact ⟨oe,vs,_,_,(oth e (Ne.symm e5)).trans e1,e2,e2d,e3,e4,e5,Heap.get?_update_self _ e6 (Obj.isFreed_of_fields (Obj.data_mapFields e7 _)),Obj.data_mapFields e7 _,by simp [hz]⟩
theorem gone_off {T':Addr} {h1 h2:Heap} (hl:s.heap.FunFrames base (env :: outer)) (hT:∀ b∈frs (env :: outer),b≠T) (g:GoneAt (env :: outer) e T T' cls fl dd s.heap h1) (f:Fly h2 e T' cls dd) (k:∀ b o,h1.get? b=some o→b≠T'→h2.get? b=some o):Gone (env :: outer) e T T' cls dd s.heap h2:=by
 have nn:∀ b o,s.heap.get? b=some o→b≠T→b≠T':=fun b o q n z=>by
  rcases g.tr with y | y
  · exact n (z.trans y)
  · rw [z,y] at q; cases q
 refine ⟨f,g.tr,fun b o q n1 n2 n3=>k b o (g.keep b o q n1 n2 n3) (nn b o q n2),fun b o q m=>?_⟩
 obtain ⟨sl,q'⟩:=g.slot b o q m
 exact ⟨sl,k b _ q' (nn b o q (hT b m))⟩
theorem leave_next (hfr:A.frames=some (env :: outer)) (hl:s.heap.FunFrames base (env :: outer)) (hf:env.frame=some L) (ht:FlyAt s.heap e T cls fl dd)
 (h:∀ h' T',Gone (env :: outer) e T T' cls dd s.heap h'→Q () { s with heap:=h' }):wpAny M A («leaving» env (.ref e)) Q E s:=by
 unfold «leaving»
 refine wpAny_bind (note_next hfr hl hf ht fun h1 T1 g1=>flight_off g1.fly fun h2 f2 k2=>h h2 T1 (gone_off hl (fun b m z=>?_) g1 f2 k2))
 obtain ⟨oe,vs,oT,ts,_,_,_,_,_,_,e6,e7,_⟩:=ht
 obtain ⟨_,o,ho,n⟩:=hl.mem m
 rw [z,e6] at ho; cases ho
 exact n ts e7
theorem leave_first {oe:Obj} {vs:Array Value} (hfr:A.frames=some (env :: outer)) (hl:s.heap.FunFrames base (env :: outer)) (hf:env.frame=some L) (he:s.heap.get? e=some oe) (hd:oe.data=.fields vs) (h1:vs[1]?=some .none)
 (h:∀ h' T',Gone (env :: outer) e e T' oe.cls oe.dict s.heap h'→Q () { s with heap:=h' }):wpAny M A («leaving» env (.ref e)) Q E s:=by
 unfold «leaving»
 refine wpAny_bind (note_first hfr hl hf he hd h1 fun h1 T1 g1=>flight_off g1.fly fun h2 f2 k2=>h h2 T1 (gone_off hl (fun b m z=>?_) g1 f2 k2))
 obtain ⟨_,o,ho,n⟩:=hl.mem m
 rw [z,he] at ho; cases ho
 exact n vs hd
end
theorem ObjOk.there {P:Program} {w:World} {H:Hp} {h:Heap} {a:Addr} {o:HO} (x:ObjOk P w H h a o):∃ u,h.get? a=some u:=by
 cases o with
 | lst xs=>obtain ⟨_,_,_,_,e⟩:=x; exact ⟨_,e⟩
 | tup xs=>obtain ⟨_,_,_,u,e,_⟩:=x; exact ⟨u,e⟩
 | dK kvs=>obtain ⟨_,_,_,_,u,_,_,e,_⟩:=x; exact ⟨u,e⟩
 | dT kvs=>obtain ⟨_,_,_,_,u,_,_,e,_⟩:=x; exact ⟨u,e⟩
 | set S n=>obtain ⟨u,_,_,_,e,_⟩:=x; exact ⟨u,e⟩
 | ins C dx fs=>obtain ⟨_,_,_,e,_⟩:=x; exact ⟨_,e⟩
 | own y=>exact x
 | xd fs=>obtain ⟨_,⟨u,_,_,e,_⟩,_⟩:=x; exact ⟨u,e⟩
 | rng lo hi=>obtain ⟨_,_,_,e⟩:=x; exact ⟨_,e⟩
 | frz ob u=>obtain ⟨e,_⟩:=x; exact ⟨_,e⟩
 | tbl ps=>exact ⟨_,(show h.get? a=some _ from x)⟩
 | met f y=>exact ⟨_,(show h.get? a=some _ from x)⟩
 | ext φ=>obtain ⟨_,e,_⟩:=x; exact e
def Thr (h0 h:Heap) (H':Hp) (a:Addr) (cls:Value) (dd:Option Addr):Prop :=
 (∃ oe vs,h.get? a=some oe∧oe.cls=cls∧oe.dict=dd∧oe.data=.fields vs∧vs[1]?=some .none)∨∃ T fl,FlyAt h a T cls fl dd∧h0.get? T=none∧H' T=none
structure Th (P:Program) (w:World) (stack:List Env) (H:Hp) (s:Shared) (H':Hp) (s':Shared) (a C:Addr) (dd:Option Addr):Prop where
 os:s'.os=s.os
 bare:AllBare s'.gens
 un:Un (frs stack) [] H H' s.heap s'.heap
 hok:HOk P w H' s'.heap
 new:s.heap.get? a=none
 free:H' a=none
 thr:Thr s.heap s'.heap H' a (.ref C) dd
def CXE (P:Program) (w:World):CXT:=fun outer H s E e s'=>∃ a C dd H',e=.ref a∧Th P w outer H s H' s' a C dd∧(∃ T,Fly s'.heap a T (.ref C) dd∧s.heap.get? T=none∧H' T=none)∧E (.ref C) dd H'
def Throws (X:Cx) (E:XK):Prop:=∀ (pins:List (Addr × Obj)) (σ:St) (H:Hp) (s:Shared) (H':Hp) (s':Shared) (a C:Addr) (dd:Option Addr),Inv X pins σ H s→Th X.prog X.w X.stack H s H' s' a C dd→E (.ref C) dd H'→X.xe (.ref a) s'
theorem Throws.passes {X:Cx} {E:XK} (h:Throws X E):Passes (CXE X.prog X.w) X E:=fun pins σ H s e s' I hx=>by
 obtain ⟨a,C,dd,H',rfl,t,_,q⟩:=hx
 exact h pins σ H s H' s' a C dd I t q
theorem ff_un {h h' base:Heap} {H H':Hp}:∀ {l:List Env} {fs:List Addr},(∀ b∈frs l,b∈fs)→(∀ b∈frs l,H b=none)→Un fs [] H H' h h'→h.FunFrames base l→h'.FunFrames base l
 | [],_,_,_,_,_=>trivial
 | env :: rest,fs,hs,hn,u,⟨k,⟨L,o,hf,hb,ho,hd⟩,hr⟩=>by
   have mL:L∈frs (env :: rest):=by simp [frs,hf]
   have sub:∀ b∈frs rest,b∈frs (env :: rest):=fun b m=>by
    simp only [frs,List.filterMap_cons,hf]
    exact List.mem_cons_of_mem _ m
   obtain ⟨sl,e⟩:=u.slot L o ho (hn L mL) (hs L mL) (by simp)
   exact ⟨k,⟨L,_,hf,hb,e,hd⟩,ff_un (fun b m=>hs b (sub b m)) (fun b m=>hn b (sub b m)) u hr⟩
section
variable {P:Program} {w:World} {K:PySem.W.Frag} {mg:Str→Option Value} {base:Heap} {N:List Str} {qual:Str} {scope:Scope} {f:Addr} {cd:Value} {A:Around} {outer:List Env} {s:Shared} {H:Hp} {E:XK}
theorem throws_cx:Throws (cxOf (CXE P w) P w K mg base N qual scope f cd A outer s H E) E:=by
 intro pins σ H1 s1 H' s' a C dd I t q
 obtain ⟨X,hX⟩:∃ X,X=cxOf (CXE P w) P w K mg base N qual scope f cd A outer s H E:=⟨_,rfl⟩
 have tk:=t.hok
 rw [←hX] at I t ⊢
 have e1:X.stack=X.env :: outer:=by rw [hX]; rfl
 have e2:X.env.frame=some X.env.locals:=by rw [hX]; rfl
 have e3:X.s₀=s:=by rw [hX]; rfl
 have e4:X.H₀=H:=by rw [hX]; rfl
 have e5:X.fs=frs outer:=by rw [hX]; rfl
 have e6:X.ex=[]:=by rw [hX]; rfl
 have e7:X.env.locals=s.heap.objs.size:=by rw [hX]; rfl
 have hfr:=I.ok.frames
 have hff:=ff_un (fun b m=>m) I.stkFree t.un I.stack
 rw [e1] at hfr hff
 have hfrN:∀ b∈frs (X.env :: outer),H' b=none:=fun b m=>by
  rw [←e1] at m
  obtain ⟨_,o,ho,_⟩:=I.stack.mem m
  exact t.un.free b o ho (I.stkFree b m) (by simp)
 have hb:=I.base
 rw [e3,e4,e5,e6] at hb
 have big : ∀ T T' h', (T = a ∨ (s1.heap.get? T = none ∧ H' T = none)) → Gone (X.env :: outer) a T T' (.ref C) dd s'.heap h' → CXE P w outer H s E (.ref a) { s' with heap := h' } := fun T T' h' hT g => by
  have nT:∀ b o,s1.heap.get? b=some o→b≠T:=fun b o e z=>by
   rcases hT with y | y
   · rw [z,y,t.new] at e; cases e
   · rw [z,y.1] at e; cases e
  have nA:∀ b o,s1.heap.get? b=some o→b≠a:=fun b o e z=>by rw [z,t.new] at e; cases e
  have H'T:H' T=none:=by
   rcases hT with y | y
   · rw [y]; exact t.free
   · exact y.2
  have H'T' : H' T'=none:=by
   rcases g.tr with y | y
   · rw [y]; exact H'T
   · cases z:H' T' with
     | none=>rfl
     | some o=>obtain ⟨u,e⟩:=(t.hok T' o z).there; rw [y] at e; cases e
  have up:∀ b o,s.heap.get? b=some o→∃ o',s1.heap.get? b=some o':=fun b o e=>hb.there b o e (by simp)
  have loc:∀ b o,s.heap.get? b=some o→b ∉ frs outer→b ∉ frs (X.env :: outer):=fun b o e n m=>by
   simp only [frs,List.filterMap_cons,e2] at m
   rcases List.mem_cons.mp m with z | z
   · rw [z,e7] at e; exact Nat.lt_irrefl _ (Heap.lt_size e)
   · exact n z
  have out:∀ b,b∈frs outer→b∈frs (X.env :: outer):=fun b m=>by
   simp only [frs,List.filterMap_cons,e2]
   exact List.mem_cons_of_mem _ m
  have one:∀ b,s1.heap.get? b=none→s.heap.get? b=none:=fun b e=>by
   cases z:s.heap.get? b with
   | none=>rfl
   | some o=>obtain ⟨o',e'⟩:=up b o z; rw [e] at e'; cases e'
  have hT' : s.heap.get? T' = none := by
   rcases g.tr with y | y
   · rw [y]
     rcases hT with z | z
     · rw [z]; exact one a t.new
     · exact one T z.1
   · cases z:s.heap.get? T' with
     | none=>rfl
     | some o =>
       obtain ⟨o1,z1⟩:=up T' o z
       obtain ⟨o2,z2⟩:=t.un.there T' o1 z1 (by simp)
       rw [y] at z2; cases z2
  refine ⟨a,C,dd,H',rfl,⟨t.os.trans (I.os.trans (by rw [e3])),t.bare,⟨fun b o e n m _=>?_,fun b o e n m _=>?_,fun b o e n _=>?_,fun b o e _=>?_,fun b xs e=>t.un.tups b xs (hb.tups b xs e),fun b o u e=>t.un.frzs b o u (hb.frzs b o u e),fun b ps e=>?_⟩,fun b o e=>?_,one a t.new,t.free,.inr ⟨T',_,g.fly,hT',H'T'⟩⟩,⟨T',g.fly,hT',H'T'⟩,q⟩
  · have k1:=hb.keep b o e n m (by simp)
    have k2:=t.un.keep b o k1 (hb.free b o e n (by simp)) (by rw [e1]; exact loc b o e m) (by simp)
    exact g.keep b o k2 (nA b o k1) (nT b o k1) (loc b o e m)
  · obtain ⟨sl,k1⟩:=hb.slot b o e n m (by simp)
    obtain ⟨sl2,k2⟩:=t.un.slot b _ k1 (hb.free b o e n (by simp)) (by rw [e1]; exact out b m) (by simp)
    obtain ⟨sl3,k3⟩:=g.slot b _ k2 (out b m)
    exact ⟨sl3,k3⟩
  · obtain ⟨o1,k1⟩:=up b o e
    exact t.un.free b o1 k1 (hb.free b o e n (by simp)) (by simp)
  · obtain ⟨o1,k1⟩:=up b o e
    obtain ⟨o2,k2⟩:=t.un.there b o1 k1 (by simp)
    by_cases m:b∈frs (X.env :: outer)
    · obtain ⟨sl,k3⟩:=g.slot b o2 k2 m
      exact ⟨_,k3⟩
    · exact ⟨_,g.keep b o2 k2 (nA b o1 k1) (nT b o1 k1) m⟩
  · obtain ⟨more,k1⟩:=hb.tbls b ps e
    obtain ⟨more2,k2⟩:=t.un.tbls b _ k1
    exact ⟨more++more2,by rw [k2,Array.append_assoc]⟩
  · refine (show ObjOk P w H' h' b o from (tk b o e).stay (fun c u hc k=>g.keep c u k ?_ ?_ ?_) (fun _ z=>z) fun _ _ z=>z)
    all_goals
     intro z
     rcases hc with y | y
     · first
        | (rw [←y,z,t.free] at e; cases e)
        | (rw [←y,z,H'T] at e; cases e)
        | (rw [←y,hfrN c z] at e; cases e)
     · first
        | (rw [z,t.free] at y; cases y)
        | (rw [z,H'T] at y; cases y)
        | (rw [hfrN c z] at y; cases y)
 have hxe:X.xe (.ref a) s'=wpAny (model P w) X.A («leaving» X.env (.ref a)) (fun _ s''=>CXE P w outer H s E (.ref a) s'') (fun e' s''=>CXE P w outer H s E e' s'') s':=by rw [hX]; rfl
 rw [hxe]
 rcases t.thr with ⟨oe,vs,h1,h2,hdi,h3,h4⟩ | ⟨T,_,h1,h2,h3⟩
 · refine leave_first hfr hff e2 h1 h3 h4 fun h' T' g=>?_
   rw [h2,hdi] at g
   exact big a T' h' (.inl rfl) g
 · exact leave_next hfr hff e2 h1 fun h' T' g=>big T T' h' (.inr ⟨h2,h3⟩) g
end
structure Exk (K:PySem.W.Frag) (mg:Str→Option Value) (x:Str) (C:Addr):Prop where
 at_:mg x=some (.ref C)
 ok:PySem.W.excIn K C [.type "ValueError",.type "Exception",.type "BaseException",.type "object"] "ValueError.__new__" = true
def subIn (K:PySem.W.Frag) (C Cp:Addr):Bool:=match K.lookup C with
 | some ⟨_,_,.cls cd,_⟩=>cd.mro.contains (.ref Cp)
 | _=>false
theorem exk_obj {K:PySem.W.Frag} {C:Addr} {bmB:List Value} {newId:String} (q:PySem.W.excIn K C bmB newId=true) :
 ∃ nm qn N bs bm hdct sn sub ab col dd k0 k1 k2 k3 k5,(∀ h:Heap,K.In h→h.get? C=some (excClassObj nm qn C N bs bm hdct sn sub ab col dd k0 k1 k2 k3 k5 newId))∧PySem.W.nsOkIn K N=true∧PySem.W.nsIn K N "__init__" = some none∧PySem.W.tailIn K bmB bm=true∧∀ Cp,subIn K C Cp=(Value.ref C :: bm).contains (.ref Cp):=by
 unfold PySem.W.excIn at q
 split at q
 next dd cd sl look =>
  split at q
  next C' bm k0 k1 k2 k3 n k5 em es =>
   simp only [Bool.and_eq_true,beq_iff_eq,Bool.not_eq_true'] at q
   rcases q with ⟨⟨⟨⟨⟨eC,en⟩,ed⟩,et⟩,ek⟩,ei⟩
   subst eC
   subst en
   refine ⟨cd.name,cd.qualname,cd.ns,cd.bases,bm,cd.hasDict,cd.slotNames,cd.subclasses,cd.abstract,cd.collection,dd,k0,k1,k2,k3,k5,fun h I=>?_,ek,ei,et,fun Cp=>by unfold subIn; rw [look]; simp only [em]⟩
   rw [I _ _ look]
   have e1:sl=#[k0,k1,k2,k3,some (.builtin n),k5]:=by cases sl; simp only at es; rw [es]
   rw [e1]
   cases cd
   simp only at em ed
   rw [em,ed]
  next=>cases q
 next=>cases q
def tRaise (C:Addr) (E:XK) (t:TA):TS:=fun _ σ H=>t σ H fun vs H1=>vs.length≤sizeLine∧E (.ref C) none H1
theorem ps_raise {X:Cx} {E:XK} {C:Addr} {x:Str} {np cpos pos:Pos} {e0:Expr} {es:List Expr} {t:TA} (hT:Throws X E) (hc:X.calm=true) (k:Exk X.K X.mg x C) (hg:Gl X x) (ha:PA X (e0 :: es) t)
 (hdb:(x == ("__debug__" : Str))=false:=by decide) (he:starEach (e0 :: es) X.env=(false,eval e0 X.env) :: starEach es X.env:=by rfl) (hpl:(backTo cpos (starEach es X.env)).any (·.1)=false:=by rfl) :
 PS X (.Raise (some (.Call (.Name x np) (e0 :: es) [] cpos)) none pos) (tRaise C E t):=by
 intro pins s σ H D I h
 obtain ⟨nm,qn,N,bs,bm,hdct,sn,sub,ab,col,dd,k0,k1,k2,k3,k5,hC,hok,hni,htl,_⟩:=exk_obj k.ok
 have hB:X.base.Ns N (X.base.nsMap N):=.of_isNs (PySem.W.isNs_of_in I.mod.kin hok)
 refine wpAny_Raise_call_subT (nm:=nm) (q:=qn) (N:=N) (bs:=bs) (bm:=bm) (hdct:=hdct) (sn:=sn) (sub:=sub) (ab:=ab) (col:=col) (dd:=dd) (k0:=k0) (k1:=k1) (k2:=k2) (k3:=k3) (k5:=k5) (mN:=X.base.nsMap N) PySem.F.excBase_ValueError (OwnTail.hasType (PySem.W.tail_of_in I.kIn htl) (X := "BaseException") (by decide)) (I.ok.hd hc) ?_ (PySem.W.nsMap_none_of_in I.mod.kin hok hni) (ld_glob I hg k.at_ ⟨rfl,?_⟩ hdb)
 · rw [he]
   show (false || (backTo cpos (starEach es X.env)).any (·.1))=false
   rw [hpl]; rfl
 · have h1:=ha cpos pins s σ H _ I h
   rw [he] at h1 ⊢
   refine Calls.evalArgs_plain (thn h1 fun us s2 ⟨vs,H2,I2,r,q⟩=>⟨rfl,?_,hC _ I2.kIn,hB.keeps I2.bk,PySem.W.tail_of_in I2.kIn htl,fun h' e m=>?_⟩)
   · show us.length≤sizeLine
     rw [←r.length]; exact q.1
   · obtain ⟨tp,t1,t2,t3⟩:=m.there
     refine hT pins σ H2 s2 H2 _ e C none I2 ⟨rfl,I2.bare,Un.kept m.keeps,I2.hok.kept m.keeps,m.new,?_,.inl ⟨_,_,t1,rfl,rfl,rfl,rfl⟩⟩ q.2
     cases z:H2 e with
     | none=>rfl
     | some o =>
       obtain ⟨u,y⟩:=(I2.hok e o z).there
       rw [m.new] at y; cases y
end L2
namespace L2
open PySem PySem.Spec PyProof.Rows
section
variable {M:Model} {A:Around} {E:Value→Shared→Prop}
variable {nm q nm2 q2:Str} {C N C2 N2:Addr} {bs bm bs2 bm2:List Value} {hdct hdct2:Bool} {sn sn2:List Str} {sub sub2:List Value} {ab ab2:Bool} {col col2:Option Bool} {dd dd2:Option Addr} {k0 k1 k2 k3 k5 j0 j1 j2 j3 j5:Option Value} {newId newId2:String}
theorem match_own {h:Heap} {g:Array GenState} {d:Drawn} {t:Nat} {os:OsState} {e:Addr} {oe:Obj} {b:Bool} {Q:Bool→Shared→Prop}
 (hC:h.get? C=some (excClassObj nm q C N bs bm hdct sn sub ab col dd k0 k1 k2 k3 k5 newId)) (hC2:h.get? C2=some (excClassObj nm2 q2 C2 N2 bs2 bm2 hdct2 sn2 sub2 ab2 col2 dd2 j0 j1 j2 j3 j5 newId2))
 (he:h.get? e=some oe) (hcls:oe.cls=.ref C) (hbase:bm2.contains (.type "BaseException")=true) (hb:(Value.ref C :: bm).contains (.ref C2)=b)
 (hq:Q b ⟨h,g,d,t,os⟩):wpAny M A (excMatches (.ref e) (.ref C2)) Q E ⟨h,g,d,t,os⟩:=by
 have hcB:(Value.ref C2 :: bm2).contains (.type "BaseException")=true:=by rw [List.contains_cons,hbase,Bool.or_true]
 have f:=tc_notTuple
 unfold excMatches
 repeat (first | (with_reducible refine wpAny_loadPart_at he ?_; rw [hcls]) | with_reducible refine wpAny_loadPart_at hC2 ?_ | (with_reducible refine wpAny_isSubtype_exc hC2 ?_; rw [hcB]) | (with_reducible refine wpAny_isSubtype_exc hC ?_; rw [hb]) | wp_step)
 cases b <;> (wp_walk; exact hq)
end
section
variable {X:Cx} {pins:List (Addr × Obj)} {σ:St} {H:Hp} {s:Shared}
theorem Inv.unset {i:Nat} {x:Str} {m:Str→Option Value} {u:Option Value} {h':Heap} (I:Inv X pins σ H s) (hN:X.N.Nodup) (hi:X.N[i]?=some x) (hm:∀ (j:Nat) (y:Str) (v:V),X.N[j]?=some y→σ[j]?=some (some v)→Vis X.env.scope y→∃ u,RelV v u∧Look X.env s.heap m y u)
 (hn':h'.Ns X.env.locals (fun y=>if y=x then u else m y)) (hs:Heap.SameBut X.env.locals s.heap h'):Inv X pins (σ.set i none) H { s with heap:=h' }:=by
 obtain ⟨m0,⟨oL,_,_,hoL,_⟩,_⟩:=id I.loc
 have lo:∀ b o,X.s₀.heap.get? b=some o→b≠X.env.locals:=fun b o e=>Nat.ne_of_lt (Nat.lt_of_lt_of_le (Heap.lt_size e) I.ok.above)
 have iL:i < σ.length:=by rw [I.len]; exact (List.getElem?_eq_some_iff.mp hi).1
 refine ⟨I.ok,I.os,I.bare,⟨fun b o e n hb hx=>(hs.2 b (lo b o e)).trans (I.base.keep b o e n hb hx),fun b o e n hb hx=>?_,I.base.free,fun b o e hx=>?_,I.base.tups,I.base.frzs,I.base.tbls⟩,⟨_,hn',fun j y v e1 e2 e3=>?_⟩,fun y c e=>?_,I.free,I.freeC,fun p hp=>?_,fun b o e=>?_,by simpa using I.len⟩
 · obtain ⟨sl,q⟩:=I.base.slot b o e n hb hx
   exact ⟨sl,(hs.2 b (lo b o e)).trans q⟩
 · obtain ⟨o',q⟩:=I.base.there b o e hx
   exact ⟨o',(hs.2 b (lo b o e)).trans q⟩
 · by_cases hj:i=j
   · subst hj
     rw [List.getElem?_set_self iL] at e2
     cases e2
   · rw [List.getElem?_set_ne hj] at e2
     obtain ⟨u',r',q⟩:=hm j y v e1 e2 e3
     have ny:y≠x:=fun z=>hj (nodup_ix hN hi (z ▸ e1))
     refine ⟨u',r',?_⟩
     rcases q with ⟨k,z⟩ | ⟨k,c,z,z'⟩
     · exact .inl ⟨k,(if_neg ny).trans z⟩
     · exact .inr ⟨k,c,z,z'.sameBut hs (I.cne y c z)⟩
 · obtain ⟨w',z⟩:=I.cell y c e
   exact ⟨w',z.sameBut hs (I.cne y c e)⟩
 · obtain ⟨q,n,ne,nf,d⟩:=I.pin p hp
   exact ⟨(hs.2 p.1 ne).trans q,n,ne,nf,d⟩
 · refine (I.hok b o e).stay (fun c w' hc q=>(hs.2 c fun z=>?_).trans q) (fun _ q=>q) fun _ _ q=>q
   rcases hc with y | y
   · rw [←y,z,I.free] at e; cases e
   · rw [z,I.free] at y; cases y
theorem unbind_ok {M:Model} {A:Around} {E:Value→Shared→Prop} {i:Nat} {x:Str} {pos:Pos} {Q:Unit→Shared→Prop} (I:Inv X pins σ H s) (hN:X.N.Nodup) (hi:X.N[i]?=some x) (hx:X.env.scope.names.lookup x=some .local)
 (h:∀ s',Inv X pins (σ.set i none) H s'→Q () s'):wpAny M A (do bindName X.env x .none; unbindBehindTheSuite X.env x pos) Q E s:=by
 refine wpAny_bind (wpAny_bindName (store_ok I hN hi (.inl hx) (v:=.non) (u:=.none) rfl (fun s1 I1=>?_) (.inr hx)))
 obtain ⟨m,hn,hl⟩:=id I1.loc
 have iL:i < σ.length:=by rw [I.len]; exact (List.getElem?_eq_some_iff.mp hi).1
 obtain ⟨u,ru,q⟩:=hl i x .non hi (List.getElem?_set_self iL) (.inl hx)
 have hk:X.env.kindOf x=some .local:=hx
 have hv:m x=some u:=by
  rcases q with ⟨_,z⟩ | ⟨z,_⟩
  · exact z
  · rw [hk] at z
    rcases z with z | z <;> cases z
 unfold unbindBehindTheSuite
 refine wpAny_onRaise (wpAny_unbindName_local hk hn hv (by rw [I.ok.kind]; rfl) fun h' u' hn' hs=>?_)
 have I2:=I1.unset hN hi hl hn' hs
 rw [List.set_set] at I2
 exact h _ I2
end
def ExcO (a C:Addr) (dd:Option Addr):HO:=.ext fun h=>∃ oe vs,h.get? a=some oe∧oe.cls=.ref C∧oe.dict=dd∧oe.data=.fields vs
abbrev Cx.held (X:Cx) (v:Value):Cx:={ X with A:=X.A.mark (some v),calm:=false,xe:=fun _ _=>False }
section
variable {X:Cx} {pins:List (Addr × Obj)} {σ:St} {H H':Hp} {s s':Shared} {v:Value}
theorem Cx.Ok.held (ok:X.Ok):(X.held v).Ok :=
 ⟨ok.mod,ok.kind,ok.glob,ok.blt,ok.above,ok.inj,ok.has,ok.cab,fun z=>(by cases z),ok.frames,ok.stk,ok.exf,ok.bs,ok.bsz,ok.noex,ok.exfs,ok.funs,ok.frf⟩
theorem Inv.held (I:Inv X pins σ H s):Inv (X.held v) pins σ H s:=⟨I.ok.held,I.os,I.bare,I.base,I.loc,I.cell,I.free,I.freeC,I.pin,I.hok,I.len⟩
theorem Inv.unheld (ok:X.Ok) (I:Inv (X.held v) pins σ H s):Inv X pins σ H s:=⟨ok,I.os,I.bare,I.base,I.loc,I.cell,I.free,I.freeC,I.pin,I.hok,I.len⟩
theorem th_step {P:Program} {w:World} {stack:List Env} {h0 h1 h2:Heap} {a T:Addr} (un:Un (frs stack) [] H H' h0 h1) (hok:HOk P w H' h1) (na:h0.get? a=none) (nT:h0.get? T=none) (fa:H' a=none) (fT:H' T=none) (ff:∀ b∈frs stack,H' b=none)
 (k:∀ b o,h1.get? b=some o→b≠a→b≠T→b ∉ frs stack→h2.get? b=some o) (sl:∀ b o,h1.get? b=some o→b∈frs stack→∃ sl,h2.get? b=some { o with slots:=sl }):Un (frs stack) [] H H' h0 h2∧HOk P w H' h2:=by
 have n1:∀ b o,h0.get? b=some o→b≠a∧b≠T:=fun b o e=>⟨fun z=>(by rw [z,na] at e; cases e),fun z=>(by rw [z,nT] at e; cases e)⟩
 refine ⟨⟨fun b o e n m _=>k b o (un.keep b o e n m (by simp)) (n1 b o e).1 (n1 b o e).2 m,fun b o e n m _=>?_,un.free,fun b o e _=>?_,un.tups,un.frzs,un.tbls⟩,fun b o e=>(hok b o e).stay (fun c u hc q=>k c u q (fun z=>?_) (fun z=>?_) fun z=>?_) (fun _ z=>z) fun _ _ z=>z⟩
 · obtain ⟨s1,q1⟩:=un.slot b o e n m (by simp)
   obtain ⟨s2,q2⟩:=sl b _ q1 m
   exact ⟨s2,q2⟩
 · obtain ⟨o1,q1⟩:=un.there b o e (by simp)
   by_cases m:b∈frs stack
   · obtain ⟨s2,q2⟩:=sl b o1 q1 m
     exact ⟨_,q2⟩
   · exact ⟨o1,k b o1 q1 (n1 b o e).1 (n1 b o e).2 m⟩
 · rcases hc with y | y
   · rw [←y,z,fa] at e; cases e
   · rw [z,fa] at y; cases y
 · rcases hc with y | y
   · rw [←y,z,fT] at e; cases e
   · rw [z,fT] at y; cases y
 · rcases hc with y | y
   · rw [←y,ff c z] at e; cases e
   · rw [ff c z] at y; cases y
end
def CalleeE (P:Program) (w:World) (K:PySem.W.Frag) (mg:Str→Option Value) (base:Heap) (x:Str) (k:Nat) (ps:List Str) (sp:Sp):Prop :=
 ∃ f fd,FnOk P w K mg base (CXE P w) k f fd ps sp∧mg x=some (.ref f)∧PySem.W.keepIn K (.ref f)=true∧Binds K fd ps []
section
variable {X:Cx} {x y:Str} {k:Nat} {ps:List Str} {sp:Sp} {e:Expr} {es:List Expr} {t:TA} {p pos:Pos} {E:XK}
theorem pe_fnE (C:CalleeE X.prog X.w X.K X.mg X.base x k ps sp) (hT:Throws X E) (hr:Room k X.A) (hg:Gl X x) (ha:PA X (e :: es) t) (hdb:(x == ("__debug__" : Str))=false:=by decide)
 (he:starEach (e :: es) X.env=(false,eval e X.env) :: starEach es X.env:=by rfl) (hpl:(backTo pos (starEach es X.env)).any (·.1)=false:=by rfl):PE X (.Call (.Name x p) (e :: es) [] pos) (tCall sp [] E t):=by
 obtain ⟨f,fd,F,hm,hk,hb⟩:=C
 exact pe_call F hr hg hm hk hb .nil hT.passes ha hdb he hpl
theorem Fun.okE {P:Program} {w:World} {K:PySem.W.Frag} {mg:Str→Option Value} {base:Heap} {qual:Str} {st:Stmt} {f:Addr} {fd:FuncData} {N:List Str} (F:Fun K x qual st f fd) (S:FnScope N ps (defScope st)) (len:∀ vs H Q E,sp vs H Q E→vs.length=ps.length)
 (hbody:∀ (cdv:Value) (A:Around) (outer:List Env) (s:Shared) (H:Hp) (vs:List V) (Q:VK) (E:XK),Room k (A.deeper (envOfC qual (defScope st) s.heap.objs.size f cdv))→sp vs H Q E →
  ∃ t,PSs (cxOf (CXE P w) P w K mg base N qual (defScope st) f cdv A outer s H E) (defBody st) t∧t { nx:=fun _ H'=>Q .non H',rt:=Q } (start N vs) H):FnOk P w K mg base (CXE P w) (k + 1) f fd ps sp:=by
 obtain ⟨oc,od,kV,doc,pm,an,cdv,ct,osl,rfl,lk,hcd⟩:=F.ex
 exact fn_of lk hcd S len fun A outer s H vs Q E hr hsp=>hbody cdv A outer s H vs Q E hr hsp
end
end L2
set_option maxRecDepth 100000
namespace PySem
open Sem (wp)
section
variable {prog:Program} {w:World} {A:Around} {E:Value→Shared→Prop} {h:Heap} {g:Array GenState} {d:Drawn} {t:Nat} {os:OsState}
variable {nm q:Str} {C N:Addr} {bs bm bmB:List Value} {hdct:Bool} {sn:List Str} {sub:List Value} {ab:Bool} {col:Option Bool} {dd:Option Addr} {k0 k1 k2 k3 k5:Option Value} {B Bn newId nid initId inN:String} {bmN:List Value}
end
section
variable {M:Model} {A:Around} {E:Value→Shared→Prop} {env:Env}
variable {nm q:Str} {C N:Addr} {bs bm:List Value} {hdct:Bool} {sn:List Str} {sub:List Value} {ab:Bool} {col:Option Bool} {dd:Option Addr} {k0 k1 k2 k3 k5:Option Value} {newId:String}
end
end PySem
set_option maxRecDepth 100000
namespace PySem.W
open PySem PySem.Calls PyProof.Rows Builtin Builtin.ObjectAttr
abbrev VEm:List Value:=[.type "ValueError",.type "Exception",.type "BaseException",.type "object"]
section
variable {prog:Program} {w:World} {A:Around} {s:Shared} {K:Frag} {x C:Addr} {R:Result→Shared→Prop}
end
end PySem.W
namespace L2
open PySem PySem.Spec PySem.Calls PyProof.Rows PySem.W
structure ExcCl (K:PySem.W.Frag) (D:Addr):Prop where
 hg:findIn K (.ref D) "__getattribute__" = some (some (.builtin "BaseException.__getattribute__"))
 hk:findIn K (.ref D) "__getattr__" = some none
 hb:mroIn K D (.type "BaseException")=some true
 hc:(clsIn K D).isSome=true
 ha:findIn K (.ref D) "__class__" = some (some (.builtin "object.__class__"))
 hn:specialIn K (.builtin "object.__class__") "__get__" = some (some (.builtin "getset_descriptor.__get__"))
 ht:takesIn K (.builtin "object.__class__")=some true
 hm:mroIn K D (.type "object")=some true
section
variable {prog:Program} {w:World} {A:Around} {E:Value→Shared→Prop} {s:Shared} {K:PySem.W.Frag} {x D:Addr} {ox:Obj} {od:Option Obj} {c:Value}
theorem x_check {nameV:Value} {Q:Unit→Shared→Prop} (k:ExcCl K D) (X:K.In s.heap) (I:InstAt s.heap x ox D od) (h:Q () s):wpAny (model prog w) A (checkBuiltinCall "BaseException.__getattribute__" ⟨[.ref x,nameV],[]⟩) Q E s:=by
 obtain ⟨hh,g,d,t,os⟩:=s
 have hk:builtinKind "BaseException.__getattribute__" = some .slot:=by decide +kernel
 have hsplit:splitId "BaseException.__getattribute__" = some ("BaseException", "__getattribute__"):=by decide +kernel
 have ha:=PySem.F.args_bexc_ga (.ref x) nameV
 have L0:=I.type (M:=model prog w)
 have LI:Looks (model prog w) hh (isInstance (.ref x) (.type "BaseException")) true:=L0.andThen (looks_mroIn (M:=model prog w) X k.hb)
 simp only [checkBuiltinCall,hk,hsplit]
 refine wpAny_bind (LI.at ?_)
 repeat (first | exact h | wp_step)
theorem x_entryC {tk:Tok} {Q:Fin→Shared→Prop} (k:ExcCl K D) (X:K.In s.heap) (I:InstAt s.heap x ox D od) (h:Q (.done (.ret (.ref D))) s):wpAny (model prog w) A (Builtin.«object.__getattribute__» ⟨[.ref x,.str "__class__" tk],[]⟩) Q E s:=by
 have hf:findObj K D od "__class__" = some (.bind (.builtin "getset_descriptor.__get__") (.builtin "object.__class__")):=by
  obtain ⟨cd,hc⟩:=Option.isSome_iff_exists.mp k.hc
  unfold findObj
  rw [hc,Option.bind_some,k.ha,Option.bind_some]
  simp [k.hn,k.ht]
 obtain ⟨hh,g,d,t,os⟩:=s
 have L0:=I.type (M:=model prog w)
 have L1:=looks_find (M:=model prog w) X I hf
 refine wpAny_bind (wpAny_pure (wpAny_bind (wpAny_pure (wpAny_bind (L0.at (wpAny_bind (L1.at ?_)))))))
 show wpAny _ _ (holding [.builtin "object.__class__"] (call (.builtin "getset_descriptor.__get__") [.builtin "object.__class__",.ref x,.ref D]) >>= ret) _ _ _
 exact wpAny_bind (wpAny_holding (wpAny_call (class_get (s:=⟨hh,g,d,t,os⟩) (ox:=ox) (od:=od) X I k.hm (wpAny_pure h))))
theorem x_class {Q:Option Value→Shared→Prop} (k:ExcCl K D) (X:K.In s.heap) (I:InstAt s.heap x ox D od) (h:Q (some (.ref D)) { s with toks:=s.toks + 1 }):wpAny (model prog w) A (getAttr? (.ref x) "__class__") Q E s:=by
 obtain ⟨hh,g,d,t,os⟩:=s
 have L0:=I.type (M:=model prog w)
 have L1:=looks_findIn (M:=model prog w) X k.hg
 have L2:=looks_findIn (M:=model prog w) X k.hk
 have f3:=PySem.F.attr_ValueError.ga.bind (.ref x)
 unfold getAttr? getAttrBy? getAttrBy
 refine wpAny_bind (wpAny_mkText (wpAny_bind (wpAny_attempt (wpAny_holding (wpAny_bind (L0.at (wpAny_bind (L1.at ?_))))))))
 have hne:(Value.builtin "BaseException.__getattribute__" == Value.builtin "object.__getattribute__")=false:=by decide +kernel
 show wpAny _ _ (if (onTheHeap (.ref D) && Value.builtin "BaseException.__getattribute__" == Value.builtin "object.__getattribute__")=true then _ else getAttrByItsOwn _ _ _ _ _ _) _ _ _
 rw [hne,Bool.and_false,if_neg (by decide)]
 unfold getAttrByItsOwn
 refine wpAny_bind (L2.at ?_)
 refine wpAny_bind (wpAny_attempt (wpAny_holding ?_))
 show wpAny _ _ (boundAndCalled _ _ _) _ _ _
 unfold boundAndCalled
 rw [f3]
 refine wpAny_bind (wpAny_pure (wpAny_call (codeAny_call_builtin PySem.F.attr_ValueError.ga.plain PySem.F.entry_bexc_ga (x_check k X I (x_entryC k X I ?_)))))
 exact wpAny_pure (wpAny_pure h)
end
end L2
namespace PySem.W
open PySem
end PySem.W
namespace L2
open PySem PySem.Spec PyProof.Rows
def XForm (K:PySem.W.Frag) (C:Addr):Prop:=∃ nm qn N bs bm hdct sn sub ab col dd k0 k1 k2 k3 k5 newId,(∀ h:Heap,K.In h→h.get? C=some (excClassObj nm qn C N bs bm hdct sn sub ab col dd k0 k1 k2 k3 k5 newId))∧(∀ Cp,subIn K C Cp=(Value.ref C :: bm).contains (.ref Cp))
theorem xform_exc {K:PySem.W.Frag} {C:Addr} {bmB:List Value} {newId:String} (q:PySem.W.excIn K C bmB newId=true):XForm K C:=by
 obtain ⟨nm,qn,N,bs,bm,hdct,sn,sub,ab,col,dd,k0,k1,k2,k3,k5,h1,_,_,_,h2⟩:=exk_obj q
 exact ⟨nm,qn,N,bs,bm,hdct,sn,sub,ab,col,dd,k0,k1,k2,k3,k5,newId,h1,h2⟩
section
variable {X:Cx} {pins:List (Addr × Obj)} {σ:St} {H:Hp} {s:Shared} {E:XK} {C fI:Addr} {fd:FuncData} {ps:List Str} {sp:Sp} {k:Nat}
end
end L2
set_option maxRecDepth 100000
namespace L2
open PySem PySem.Spec PySem.Calls PyProof.Rows PySem.W
section
variable {prog:Program} {w:World} {A:Around} {E:Value→Shared→Prop} {s:Shared} {K:PySem.W.Frag} {C:Addr} {name:Str} {v:Value}
end
section
variable {prog:Program} {w:World} {A:Around} {E:Value→Shared→Prop} {h:Heap} {g:Array GenState} {d:Drawn} {t:Nat} {os:OsState}
variable {nm q:Str} {C N e t0:Addr} {bs bm:List Value} {hdct:Bool} {sn:List Str} {sub:List Value} {ab:Bool} {col:Option Bool} {dd dx:Option Addr} {k0 k1 k2 k3 k5:Option Value} {newId:String} {rest:List Value}
end
section
variable {X:Cx} {x f:Str} {e e0 o value:Expr} {es:List Expr} {t:TA} {ta tv:TE} {np apos pos pos':Pos} {Cp:Addr}
end
end L2
namespace L2
open PySem PySem.Spec PyProof.Rows
def CForm (K:PySem.W.Frag) (C:Addr):Prop:=∃ nm qn N bs bm hdct sn sub ab col dd k0 k1 k2 k3 k5 newId,∀ h:Heap,K.In h→h.get? C=some (excClassObj nm qn C N bs bm hdct sn sub ab col dd k0 k1 k2 k3 k5 newId)∧bm.contains (.type "BaseException")=true
theorem cform_exc {K:PySem.W.Frag} {C:Addr} {n:String} (q:PySem.W.excIn K C PySem.W.VEm n=true):CForm K C:=by
 obtain ⟨nm,qn,N,bs,bm,hdct,sn,sub,ab,col,dd,k0,k1,k2,k3,k5,h1,_,_,h2,_⟩:=exk_obj q
 exact ⟨nm,qn,N,bs,bm,hdct,sn,sub,ab,col,dd,k0,k1,k2,k3,k5,_,fun h I=>⟨h1 h I,OwnTail.hasType (PySem.W.tail_of_in I h2) (by decide)⟩⟩
section
variable {X:Cx} {pins:List (Addr × Obj)} {σ:St} {H H':Hp} {s s':Shared} {v:Value}
theorem handledX {i:Nat} {x n:Str} {np hpos:Pos} {b₀:Stmt} {suite:List Stmt} {a C Cp:Addr} {dd:Option Addr} {D:Ends} {ts:TS} (I:Inv X pins σ H s) (hst:X.stack=X.env :: X.outer) (hfm:X.env.frame=some X.env.locals)
 (t:Th X.prog X.w X.stack H s H' s' a C dd) (hfly:∃ T,Fly s'.heap a T (.ref C) dd∧s.heap.get? T=none∧H' T=none) (fC:XForm X.K C) (kP:CForm X.K Cp) (hsub:subIn X.K C Cp=true)
 (hgx:Gl X x) (hmx:X.mg x=some (.ref Cp)) (hdx:(x == ("__debug__" : Str))=false) (hN:X.N.Nodup) (hi:X.N[i]?=some n) (hln:X.env.scope.names.lookup n=some .local)
 (hs:PSs (X.held (.ref a)) (b₀ :: suite) ts) (q:ts { nx:=fun σ' H'=>D.nx (σ'.set i none) H',rt:=D.rt } (σ.set i (some (.ref a))) (upd H' a (ExcO a C dd))) :
 wpAny (model X.prog X.w) X.A (noteFrame (.ref a) X.env) (fun _ s₂=>wpAny (model X.prog X.w) X.A (setFlight (.ref a) none) (fun _ s₃ =>
  wpAny (model X.prog X.w) X.A (handleBy (.ref a) X.env [.ExceptHandler (some (.Name x np)) (some n) (b₀ :: suite) hpos]) (SP X pins D) X.xe s₃) X.xe s₂) X.xe s':=by
 obtain ⟨T,fl,nT,fT⟩:=hfly
 have ff:∀ b∈frs X.stack,H' b=none:=fun b m=>by
  obtain ⟨_,o,ho,_⟩:=I.stack.mem m
  exact t.un.free b o ho (I.stkFree b m) (by simp)
 have hff:=ff_un (fun b m=>m) I.stkFree t.un I.stack
 have hfr:=I.ok.frames
 rw [hst] at hff hfr
 refine note_next hfr hff hfm fl fun h1 T1 g1=>?_
 rw [←hst] at g1
 have nT1:s.heap.get? T1=none:=by
  rcases g1.tr with z | z
  · rw [z]; exact nT
  · cases y:s.heap.get? T1 with
    | none=>rfl
    | some o=>obtain ⟨o',e⟩:=t.un.there T1 o y (by simp); rw [z] at e; cases e
 have fT1:H' T1=none:=by
  rcases g1.tr with z | z
  · rw [z]; exact fT
  · cases y:H' T1 with
    | none=>rfl
    | some o=>obtain ⟨u,e⟩:=(t.hok T1 o y).there; rw [z] at e; cases e
 obtain ⟨un1,hok1⟩:=th_step t.un t.hok t.new nT t.free fT ff g1.keep g1.slot
 refine flight_off g1.fly fun h2 fl2 k2=>?_
 obtain ⟨un2,hok2⟩:=th_step un1 hok1 t.new nT1 t.free fT1 ff (fun b o e _ z _=>k2 b o e z) (fun b o e m=>⟨o.slots,k2 b o e fun z=>by
  obtain ⟨_,o',ho,_⟩:=I.stack.mem m
  rw [z,nT1] at ho; cases ho⟩)
 obtain ⟨nm,qn,N,bs,bm,hdct,sn,sub,ab,col,ddC,k0,k1,k2',k3,k5,newC,hC,hm⟩:=fC
 obtain ⟨nm',qn',N',bs',bm',hdct',sn',sub',ab',col',dd',j0,j1,j2,j3,j5,nw',hP⟩:=kP
 have I2:Inv X pins σ H' { s' with heap:=h2 }:=I.call' (ch:=[]) t.os un2 hok2 t.bare fun b z=>absurd z (by simp)
 refine wpAny_handleBy_cons (codeAny_handlers_test (ld_glob (X:=X.held (.ref a)) I2.held hgx hmx ?_ hdx)) (by intro z; cases z)
 obtain ⟨oe,vs,oT,tts,e1,e2,_,e3,e4,e5,e6,e7,e8⟩:=id fl2
 refine match_own (hC h2 I2.kIn) (hP h2 I2.kIn).1 e1 e2 (hP h2 I2.kIn).2 (b:=true) ((hm Cp).symm.trans hsub) ?_
 refine codeAny_handlers_suite_as (flight_off (fl:=.none) fl2 fun h3 fl3 k3'=>?_)
 obtain ⟨un3,hok3⟩:=th_step un2 hok2 t.new nT1 t.free fT1 ff (fun b o e _ z _=>k3' b o e z) (fun b o e m=>⟨o.slots,k3' b o e fun z=>by
  obtain ⟨_,o',ho,_⟩:=I.stack.mem m
  rw [z,nT1] at ho; cases ho⟩)
 obtain ⟨oe3,vs3,_,_,y1,y2,y3,y4,_⟩:=id fl3
 have I3 : Inv X pins σ (upd H' a (ExcO a C dd)) { s' with heap := h3 } := by
  have nb:∀ b o,s.heap.get? b=some o→b≠a:=fun b o e z=>by rw [z,t.new] at e; cases e
  have nh:∀ b o,H' b=some o→b≠a:=fun b o e z=>by rw [z,t.free] at e; cases e
  refine I.call' (ch:=[]) t.os ⟨un3.keep,un3.slot,fun b o e n m=>?_,un3.there,fun b xs e=>?_,fun b o u e=>?_,fun b ps e=>?_⟩ (fun b o e=>?_) t.bare fun b z=>absurd z (by simp)
  · rw [upd_ne (nb b o e)]; exact un3.free b o e n m
  · have:=un3.tups b xs e
    rw [upd_ne (nh b _ this)]; exact this
  · have:=un3.frzs b o u e
    rw [upd_ne (nh b _ this)]; exact this
  · obtain ⟨more,this⟩:=un3.tbls b ps e
    exact ⟨more,by rw [upd_ne (nh b _ this)]; exact this⟩
  · by_cases z:b=a
    · subst z
      rw [upd_same] at e
      cases e
      exact ⟨⟨oe3,vs3,y1,y2,y3,y4⟩,⟨oe3,y1⟩,fun g1 g2 ⟨o,v,p1,p2⟩ k=>⟨o,v,k o p1,p2⟩⟩
    · rw [upd_ne z] at e
      exact (hok3 b o e).stay (fun _ _ _ z=>z) (fun c z=>by rw [upd_ne (nh c _ z)]; exact z) fun c xs z=>by rw [upd_ne (nh c _ z)]; exact z
 refine store_ok (X:=X.held (.ref a)) I3.held hN hi (.inl hln) (v:=.ref a) (u:=.ref a) rfl (fun s4 I4=>?_) (.inr hln)
 refine wpAny_mono (hs pins s4 _ _ _ I4 q) (fun f s5 z=>?_) fun _ _ z=>False.elim z
 cases f with
 | next =>
   obtain ⟨σ5,H5,I5,q5⟩:=z
   exact unbind_ok (I5.unheld I.ok) hN hi hln fun s6 I6=>⟨_,_,I6,q5⟩
 | brk=>obtain ⟨_,_,_,q5⟩:=z; exact False.elim q5
 | cont=>obtain ⟨_,_,_,q5⟩:=z; exact False.elim q5
 | ret u =>
   obtain ⟨v5,σ5,H5,I5,r5,q5⟩:=z
   exact unbind_ok (I5.unheld I.ok) hN hi hln fun s6 I6=>⟨v5,_,_,I6,r5,q5⟩
end
section
variable {X:Cx} {x y:Str} {k:Nat} {ps:List Str} {sp:Sp} {e:Expr} {es:List Expr} {t:TA} {p pos:Pos} {E:XK}
end
open PySem.Calls PySem.W
structure AskC (K:PySem.W.Frag) (D:Addr) (c:Value) (b:Bool):Prop where
 ty:∀ (M:Model) (h:Heap),K.In h→Looks M h (typeOf c) (.type "type")
 is:∀ (M:Model) (h:Heap),K.In h→Looks M h (isType c) true
 sub:∀ (M:Model) (h:Heap),K.In h→Looks M h (isSubtype (.ref D) c) b
section
variable {prog:Program} {w:World} {A:Around} {E:Value→Shared→Prop} {s:Shared} {K:PySem.W.Frag} {x D:Addr} {ox:Obj} {od:Option Obj} {c:Value}
theorem x_nested {b:Bool} {dep:Int} {tk:Tok} {Q:Fin→Shared→Prop} (k:ExcCl K D) (a:AskC K D c b) (X:K.In s.heap) (I:InstAt s.heap x ox D od) (hb:(Value.ref D == c)=true→b=true) (h:∀ t,Q (.done (.ret (.bool b))) { s with toks:=t }) :
 wpAny (model prog w) A (Builtin.«isinstance.nested» ⟨[.ref x,c,.int dep tk],[]⟩) Q E s:=by
 have hisD:Looks (model prog w) s.heap (isType (.ref D)) true:=by
  have hc:=k.hc
  unfold clsIn at hc
  split at hc
  · rename_i c' d' cd' sl' ho
    intro A' Q' E' s' kk q
    unfold isType loadHead
    exact wpAny_bind (wpAny_loadPart (kk _ _ (X _ _ ho)) (wpAny_pure q))
  · cases hc
 obtain ⟨h0,g,d,tt,os⟩:=s
 have L0:=I.type (M:=model prog w)
 have LI:Looks (model prog w) h0 (isInstance (.ref x) c) b:=L0.andThen (a.sub _ _ X)
 unfold Builtin.«isinstance.nested»
 refine wpAny_bind (L0.at ?_)
 by_cases q:(Value.ref D == c)=true
 · rw [if_pos q]
   have:=hb q
   subst this
   exact wpAny_bind (wpAny_rule (wpAny_bind (wpAny_pure (wpAny_pure (h tt)))))
 · rw [if_neg q]
   refine wpAny_bind ((a.ty _ _ X).at ?_)
   rw [if_pos (by decide)]
   k_delta "plainIsInstance"
   refine wpAny_bind (wpAny_bind ((a.is _ _ X).at ?_))
   simp only [Bool.not_true,Bool.false_eq_true,if_false]
   refine wpAny_bind (LI.at ?_)
   cases b with
   | true =>
     simp only [if_true]
     exact wpAny_pure (wpAny_pure (h tt))
   | false =>
     simp only [Bool.false_eq_true,if_false]
     refine wpAny_bind (x_class k X I ?_)
     refine wpAny_bind (hisD.at ?_)
     simp only [Bool.not_true,Bool.false_eq_true,if_false]
     refine wpAny_bind (wpAny_rule ?_)
     refine (a.sub _ _ X).at ?_
     first
      | exact wpAny_pure (h _)
      | exact wpAny_pure (wpAny_pure (h _))
      | exact wpAny_bind (wpAny_pure (wpAny_pure (h _)))
theorem x_isi {b:Bool} {Q:Value→Shared→Prop} (k:ExcCl K D) (a:AskC K D c b) (X:K.In s.heap) (I:InstAt s.heap x ox D od) (hb:(Value.ref D == c)=true→b=true) (h:∀ t,Q (.bool b) { s with toks:=t }):wpAny (model prog w) A (call (.builtin "isinstance") [.ref x,c]) Q E s :=
 call_isinstance (S:=fun _ R s=>(K.In s.heap∧InstAt s.heap x ox D od)∧∀ t,R (.ok (.ret (.bool b))) { s with toks:=t })
  (fun _ _ _ _ _ hs=>isinstance_outer (x_nested k a hs.1.1 hs.1.2 hb hs.2) (by intro q; cases q)) ⟨⟨X,I⟩,h⟩
end
def rIsiX (K:PySem.W.Frag):List V→Hp→VK→Prop:=fun vs H Q=>∃ (a C:Addr) (dd:Option Addr) (c:V) (u:Value) (b:Bool),vs=[.ref a,c]∧(∀ u',RelV c u'→u'=u)∧H a=some (ExcO a C dd)∧(∀ dx,dd=some dx→∃ o,H dx=some o)∧ExcCl K C∧AskC K C u b∧((Value.ref C == u)=true→b=true)∧Q (.bl b) H
theorem call_isiX {X:Cx}:CallR X (.builtin "isinstance") (rIsiX X.K):=by
 intro pins s σ H vs us Q I r h
 obtain ⟨a,C,dd,c,u,b,rfl,hu,hH,hd,kC,ka,hb,q⟩:=h
 obtain ⟨u1,u2,rfl,ru,ru2⟩:=vals2 r
 obtain rfl:u1=Value.ref a:=ru
 obtain rfl:=hu _ ru2
 obtain ⟨⟨oe,vs',e1,e2,e3,e4⟩,_,_⟩:=I.hok a _ hH
 have no:notCls oe=true:=by unfold notCls; rw [e4]
 cases dd with
 | none=>exact x_isi kC ka I.kIn (ox:=oe) (od:=none) ⟨e1,e2,no,by rw [e3]; trivial⟩ hb fun t=>⟨.bl b,H,I.tok t,rfl,q⟩
 | some dx =>
   obtain ⟨o,ho⟩:=hd dx rfl
   obtain ⟨od,hod⟩:=(I.hok dx o ho).there
   exact x_isi kC ka I.kIn (ox:=oe) (od:=some od) ⟨e1,e2,no,by rw [e3]; exact hod⟩ hb fun t=>⟨.bl b,H,I.tok t,rfl,q⟩
def clsA (K:PySem.W.Frag) (x:Str):Addr:=match PySem.W.nsIn K mainGlobals x with
 | some (some (.ref C))=>C
 | _=>0
theorem clsA_of {K:PySem.W.Frag} {x:Str} {C:Addr} (h:PySem.W.nsIn K mainGlobals x=some (some (.ref C))):clsA K x=C:=by unfold clsA; rw [h]
def askB (K:PySem.W.Frag) (C C2:Addr) (b:Bool):Bool:=(clsIn K C2).isSome && typeIn K (.ref C2) == some (.type "type") && PySem.W.subIn K (.ref C) (.ref C2) == some b
theorem ask_own {K:PySem.W.Frag} {C C2:Addr} {b:Bool} (e:askB K C C2 b=true):AskC K C (.ref C2) b:=by
 unfold askB at e
 simp only [Bool.and_eq_true,beq_iff_eq] at e
 obtain ⟨⟨e1,e2⟩,e3⟩:=e
 refine ⟨fun M h X=>looks_typeIn X e2,fun M h X=>?_,fun M h X=>looks_subIn X e3⟩
 unfold clsIn at e1
 split at e1
 · rename_i c' d' cd' sl' ho
   intro A' Q' E' s' kk q
   unfold isType loadHead
   exact wpAny_bind (wpAny_loadPart (kk _ _ (X _ _ ho)) (wpAny_pure q))
 · cases e1
theorem ask_VE {K:PySem.W.Frag} {C:Addr} {b:Bool} (e:PySem.W.subIn K (.ref C) (.type "ValueError")=some b):AskC K C (.type "ValueError") b :=
 ⟨fun M h _=>Looks.of_pure (by kernel_rfl),fun M h _=>Looks.of_pure (by kernel_rfl),fun M h X=>looks_subIn X e⟩
theorem cls_of_mro {K:PySem.W.Frag} {C:Addr} {v:Value} {b:Bool} (h:PySem.W.mroIn K C v=some b):(PySem.W.clsIn K C).isSome=true:=by
 obtain ⟨cd,a,_⟩:=Option.bind_eq_some_iff.mp h
 rw [a]; rfl
theorem excCl_of {K:PySem.W.Frag} {C:Addr} (p:PySem.W.findIn K (.ref C) "__getattribute__" = some (some (.builtin "BaseException.__getattribute__"))) (p2:PySem.W.findIn K (.ref C) "__getattr__" = some none) (p3:PySem.W.mroIn K C (.type "BaseException")=some true) (q:PySem.W.findIn K (.ref C) "__class__" = some (some (.builtin "object.__class__"))) (hn:PySem.W.specialIn K (.builtin "object.__class__") "__get__" = some (some (.builtin "getset_descriptor.__get__"))) (ht:PySem.W.takesIn K (.builtin "object.__class__")=some true) (m:PySem.W.mroIn K C (.type "object")=some true):ExcCl K C :=
 ⟨p,p2,p3,cls_of_mro m,q,hn,ht,m⟩
theorem sub_of_mro {K:PySem.W.Frag} {C Cp:Addr} (h:PySem.W.mroIn K C (.ref Cp)=some true):L2.subIn K C Cp=true:=by
 obtain ⟨cd,a,b⟩:=Option.bind_eq_some_iff.mp h
 unfold PySem.W.clsIn at a
 unfold L2.subIn
 split at a
 · rename_i ho
   cases a
   rw [ho]
   show cd.mro.contains (.ref Cp)=true
   split at b
   · cases b
   · exact Option.some.inj b
 · cases a
theorem askB_of {K:PySem.W.Frag} {C C2:Addr} {b:Bool} (o:PySem.W.mroIn K C2 (.type "object")=some true) (t:PySem.W.typeIn K (.ref C2)=some (.type "type")) (r:PySem.W.subIn K (.ref C) (.ref C2)=some b):askB K C C2 b=true:=by
 unfold askB
 rw [cls_of_mro o,t,r]
 simp
end L2
namespace L2
open PySem PySem.Spec PyProof.Rows Ord
section
variable {X:Cx} {x y:Str} {k:Nat} {ps:List Str} {sp:Sp} {e:Expr} {es:List Expr} {t:TA} {p pos:Pos} {E:XK}
def tTryX (K:PySem.W.Frag) (Cp:Addr) (i:Nat) (sp:Sp) (t:TA) (ts:TS):TS:=fun D σ H=>t σ H fun vs H1=>sp vs H1 (fun _ H2=>D.nx σ H2) fun cls dd H2=>∃ C,cls=.ref C∧XForm K C∧subIn K C Cp=true ∧
 ∀ a,H2 a=none→ts { nx:=fun σ' H'=>D.nx (σ'.set i none) H',rt:=D.rt } (σ.set i (some (.ref a))) (upd H2 a (ExcO a C dd))
theorem ps_try_fnX {i:Nat} {n:Str} {np hpos cpos epos:Pos} {b₀:Stmt} {suite:List Stmt} {Cp:Addr} {ts:TS} (C:CalleeE X.prog X.w X.K X.mg X.base y k ps sp) (hr:Room k X.A) (hgy:Gl X y) (ha:PA X.nox (e :: es) t)
 (hst:X.stack=X.env :: X.outer) (hfm:X.env.frame=some X.env.locals) (kP:CForm X.K Cp) (hgx:Gl X x) (hmx:X.mg x=some (.ref Cp))
 (hN:X.N.Nodup) (hi:X.N[i]?=some n) (hln:X.env.scope.names.lookup n=some .local) (hs:∀ a:Addr,PSs (X.held (.ref a)) (b₀ :: suite) ts) (hdx:(x == ("__debug__" : Str))=false:=by decide) (hdy:(y == ("__debug__" : Str))=false:=by decide)
 (he:starEach (e :: es) X.env=(false,eval e X.env) :: starEach es X.env:=by rfl) (hpl:(backTo cpos (starEach es X.env)).any (·.1)=false:=by rfl) (hsw:swapsWith (.Call (.Name y p) (e :: es) [] cpos) none epos.line X.env=pure false:=by rfl) :
 PS X (.Try [.Expr (.Call (.Name y p) (e :: es) [] cpos) epos] [.ExceptHandler (some (.Name x np)) (some n) (b₀ :: suite) hpos] [] [] pos) (tTryX X.K Cp i sp t ts):=by
 intro pins s σ H D I h
 obtain ⟨f,fd,F,hm,hk,hb⟩:=C
 refine wpAny_Try_except (wpAny_execs_cons (wpAny_Expr_any ?_ I.quiet hsw))
 refine wpAny_Call_Name_kw (ld_glob I hgy hm ?_ hdy)
 refine PySem.W.callWith_K (h₀:=X.base) I.ok.mod.kin hk (wpAny_mono (ha cpos pins s σ H _ (I.wish _) h) (fun us s1 ⟨vs,H1,I1,r,q⟩=>⟨I1.kIn,?_⟩) fun _ _ z=>False.elim z) he hpl
 have I1:=I1.unwish
 have hl:us.length=ps.length:=by rw [←r.length]; exact F.len _ _ _ _ q
 have hb':=hb s1 us I1.kIn (by rw [List.append_nil]; exact hl)
 rw [List.append_nil] at hb'
 refine wpAny_call (codeAny_mono (F.run X.A X.stack s1 H1 ⟨us,[]⟩ us vs _ _ hr I1.env0 hb' r q) fun r s' hq=>?_)
 cases r with
 | error ev =>
   obtain ⟨a,C,dd,H',rfl,th,hfl,C',hc,kC,hsub,qs⟩:=hq
   cases hc
   exact handledX I1 hst hfm th hfl kC kP hsub hgx hmx hdx hN hi hln (hs a) (qs a th.free)
 | ok fl =>
   cases fl with
   | ret u =>
     obtain ⟨v,H2,I2,_,q2⟩:=I1.after hq
     exact wpAny_execs_nil (wpAny_execs_nil ⟨σ,H2,I2,q2⟩)
   | next=>exact False.elim hq
   | brk=>exact False.elim hq
   | cont=>exact False.elim hq
end
end L2
namespace L2
open PySem PySem.Spec PyProof.Rows Ord
section
variable {X:Cx}
def rIns:V→List V→Hp→VK→Prop:=fun x vs H Q=>∃ l xs y,∃ i:Int,x=.ref l∧vs=[.int i,y]∧H l=some (.lst xs)∧0≤i∧i≤xs.length∧xs.length≤1000∧Q .non (upd H l (.lst (xs.take i.toNat++y :: xs.drop i.toNat)))
theorem mr_insert:MtR X "list.insert" rIns:=by
 intro pins s σ H x vs v us Q I rx rv h
 obtain ⟨l,xs,y,i,rfl,rfl,hH,h0,h1,hz,q⟩:=h
 cases rx
 obtain ⟨u1,u2,rfl,ru1,ru2⟩:=vals2 rv
 obtain ⟨t,rfl⟩:=ru1
 obtain ⟨z,its,n,r,hl,e⟩:=I.lstM hH
 have hs:(1001:Nat)≤sizeLine:=by decide
 have hfit:Builtin.List.listFitsIndex i=true:=by
  unfold Builtin.List.listFitsIndex
  simp only [Bool.and_eq_true,decide_eq_true_eq]
  omega
 refine call_meets PySem.F.slot_list_insert ⟨_,e,rfl⟩ PySem.F.entry_list_insert (PySem.F.args_list_insert_3 _ _ _) (PySem.AutoSeq1.list_insert_list_int_val_1 l _ n i t u2 (by simp [hfit]) (by rw [List.size_toArray]; omega)) ⟨e,?_⟩
 refine ⟨.non,_,I.lset (its':=its.take i.toNat++u2 :: its.drop i.toNat) hH e ?_ ((r.take i.toNat).append (.cons ru2 (r.drop i.toNat))) ?_,rfl,q⟩
 · have hk:(if i < 0 then (i + (its.toArray.size:Int)).toNat else min i.toNat its.toArray.size)=i.toNat:=by
    rw [if_neg (by omega),List.size_toArray]; omega
   show (its.toArray.extract 0 (if i < 0 then (i + (its.toArray.size:Int)).toNat else min i.toNat its.toArray.size)).push u2++its.toArray.extract (if i < 0 then (i + (its.toArray.size:Int)).toNat else min i.toNat its.toArray.size)=_
   rw [hk]
   simp
   rw [List.take_of_length_le (by rw [List.length_drop]; omega)]
 · rw [List.length_append,List.length_cons,List.length_take,List.length_drop]
   omega
end
end L2
namespace L2
open PySem PySem.Spec PyProof.Rows Ord
structure Keeps (M:Addr→Prop) (H H':Hp):Prop where
 at_:∀ x o,H x=some o→¬ M x→H' x=some o
 ls:∀ x o,M x→H x=some o→∃ xs,o=HO.lst xs
section
variable {K:PySem.W.Frag} {M:Addr→Prop} {H H':Hp}
theorem Keeps.one {D:Addr} {xs:List V} {o:HO} (hD:H D=some (.lst xs)):Keeps (·=D) H (upd H D o) :=
 ⟨fun x u e n=>by rw [upd_ne n]; exact e,fun x u m e=>by rw [m,hD] at e; exact ⟨xs,(Option.some.inj e).symm⟩⟩
theorem Keeps.noT (k:Keeps M H H') {a:Addr} {xs:List V} (h:H a=some (.tup xs)):¬ M a:=fun m=>by
 obtain ⟨_,e⟩:=k.ls _ _ m h
 cases e
theorem Keeps.tup (k:Keeps M H H') {a:Addr} {xs:List V} (h:H a=some (.tup xs)):H' a=some (.tup xs):=k.at_ _ _ h (k.noT h)
end
end L2
namespace L2
open PySem PySem.Spec PyProof.Rows Ord
section
variable {X:Cx}
end
abbrev Qu:Type:=Int × Int × List Str
section
variable {K:PySem.W.Frag} {H H':Hp} {a:Addr}
end
structure QT (H:Hp) (ts:List Addr) (qs:List Qu):Prop where
 len:ts.length=qs.length
 at_:∀ (n:Nat) (t:Addr) (q:Qu),ts[n]?=some t→qs[n]?=some q→∃ u,H t=some (.tup [.int q.1,.int q.2.1,.ref u])∧H u=some (.tup (q.2.2.map V.str))
theorem QT.nil {H:Hp}:QT H [] []:=⟨rfl,fun n t p h=>by simp at h⟩
theorem QT.same {H H':Hp} {ts:List Addr} {qs:List Qu} (e:Same H H') (h:QT H ts qs):QT H' ts qs:=⟨h.len,fun n t p h1 h2=>by
 obtain ⟨u,e1,e2⟩:=h.at_ n t p h1 h2
 exact ⟨u,e _ _ e1,e _ _ e2⟩⟩
theorem QT.keeps {M:Addr→Prop} {H H':Hp} {ts:List Addr} {qs:List Qu} (k:Keeps M H H') (h:QT H ts qs):QT H' ts qs:=⟨h.len,fun n t p h1 h2=>by
 obtain ⟨u,e1,e2⟩:=h.at_ n t p h1 h2
 exact ⟨u,k.tup e1,k.tup e2⟩⟩
theorem GT.keeps {M:Addr→Prop} {H H':Hp} {ts:List Addr} {gs:List (Str × Int)} (k:Keeps M H H') (h:GT H ts gs):GT H' ts gs:=⟨h.len,fun n t p h1 h2=>k.tup (h.at_ n t p h1 h2)⟩
theorem QT.snoc {H:Hp} {t u:Addr} {ts:List Addr} {qs:List Qu} {q:Qu} (h:QT H ts qs) (e:H t=some (.tup [.int q.1,.int q.2.1,.ref u])) (e2:H u=some (.tup (q.2.2.map V.str))):QT H (ts++[t]) (qs++[q]):=by
 refine ⟨by rw [List.length_append,List.length_append,h.len]; rfl,fun n v q' h1 h2=>?_⟩
 rcases Nat.lt_or_ge n ts.length with hlt | hge
 · rw [List.getElem?_append_left hlt] at h1
   rw [List.getElem?_append_left (by rw [←h.len]; exact hlt)] at h2
   exact h.at_ n v q' h1 h2
 · have hn1:n < (ts++[t]).length:=(List.getElem?_eq_some_iff.mp h1).1
   rw [List.length_append,List.length_singleton] at hn1
   have e':n=ts.length:=by omega
   subst e'
   rw [List.getElem?_append_right (Nat.le_refl _),Nat.sub_self] at h1
   rw [List.getElem?_append_right (by rw [h.len]; exact Nat.le_refl _),h.len,Nat.sub_self] at h2
   cases h1; cases h2
   exact ⟨u,e,e2⟩
end L2
namespace L2
open PySem PySem.Spec PyProof.Rows Ord
theorem ps_augR {X:Cx} {pos:Pos} {i:Nat} {x:Str} {e:Expr} {te:TE} {op:Operator} {ti:R2} {pos':Pos} (hN:X.N.Nodup) (hi:X.N[i]?=some x) (hx:Loc X.env.scope x) (he:PE X e te) (ho:OpR X (inplaceOp op) ti) (hf:X.fn x=true∨X.env.scope.names.lookup x=some .local:=by first | exact .inl rfl | exact .inr rfl | assumption) :
 PS X (.AugAssign (.Name x pos') op e pos) (tAug i te ti):=ps_aug hN hi hx he ho hf
abbrev Stp:Type:=Str × Str × Int
abbrev stpV (p:Stp):List V:=[.str p.1,.str p.2.1,.int p.2.2]
abbrev Tlg:Type:=Str × Str × Str × Int
abbrev tlgV (p:Tlg):List V:=[.str p.1,.str p.2.1,.str p.2.2.1,.int p.2.2.2]
section
variable {α:Type} {f:α→List V} {H H':Hp} {ts:List Addr} {rs:List α}
structure RT (f:α→List V) (H:Hp) (ts:List Addr) (rs:List α):Prop where
 len:ts.length=rs.length
 at_:∀ (n:Nat) (t:Addr) (r:α),ts[n]?=some t→rs[n]?=some r→H t=some (.tup (f r))
theorem RT.nil:RT f H [] []:=⟨rfl,fun n t p h=>by simp at h⟩
theorem RT.same (e:Same H H') (h:RT f H ts rs):RT f H' ts rs:=⟨h.len,fun n t p h1 h2=>e _ _ (h.at_ n t p h1 h2)⟩
theorem RT.keeps {M:Addr→Prop} (k:Keeps M H H') (h:RT f H ts rs):RT f H' ts rs:=⟨h.len,fun n t p h1 h2=>k.tup (h.at_ n t p h1 h2)⟩
theorem RT.snoc {t:Addr} {r:α} (h:RT f H ts rs) (e:H t=some (.tup (f r))):RT f H (ts++[t]) (rs++[r]):=by
 refine ⟨by rw [List.length_append,List.length_append,h.len]; rfl,fun n v q h1 h2=>?_⟩
 rcases Nat.lt_or_ge n ts.length with hlt | hge
 · rw [List.getElem?_append_left hlt] at h1
   rw [List.getElem?_append_left (by rw [←h.len]; exact hlt)] at h2
   exact h.at_ n v q h1 h2
 · have hn1:n < (ts++[t]).length:=(List.getElem?_eq_some_iff.mp h1).1
   rw [List.length_append,List.length_singleton] at hn1
   have e':n=ts.length:=by omega
   subst e'
   rw [List.getElem?_append_right (Nat.le_refl _),Nat.sub_self] at h1
   rw [List.getElem?_append_right (by rw [h.len]; exact Nat.le_refl _),h.len,Nat.sub_self] at h2
   cases h1; cases h2
   exact e
end
abbrev Sco:Type:=List Stp × List Tlg
structure ScH (H:Hp) (u G E:Addr) (s:Sco):Prop where
 u:H u=some (.tup [.ref G,.ref E])
 g:∃ ts:List Addr,H G=some (.lst (ts.map V.ref))∧RT stpV H ts s.1
 e:∃ ts:List Addr,H E=some (.lst (ts.map V.ref))∧RT tlgV H ts s.2
theorem ScH.same {H H':Hp} {u G E:Addr} {s:Sco} (e:Same H H') (h:ScH H u G E s):ScH H' u G E s:=by
 obtain ⟨a,⟨ts,b1,b2⟩,⟨us,c1,c2⟩⟩:=h
 exact ⟨e _ _ a,⟨ts,e _ _ b1,b2.same e⟩,⟨us,e _ _ c1,c2.same e⟩⟩
theorem ScH.keeps {M:Addr→Prop} {H H':Hp} {u G E:Addr} {s:Sco} (k:Keeps M H H') (hG:¬ M G) (hE:¬ M E) (h:ScH H u G E s):ScH H' u G E s:=by
 obtain ⟨a,⟨ts,b1,b2⟩,⟨us,c1,c2⟩⟩:=h
 exact ⟨k.tup a,⟨ts,k.at_ _ _ b1 hG,b2.keeps k⟩,⟨us,k.at_ _ _ c1 hE,c2.keeps k⟩⟩
structure Scs (H:Hp) (D:Addr) (us Gs Es:List Addr) (ss:List Sco):Prop where
 top:H D=some (.lst (us.map V.ref))
 lu:us.length=ss.length
 lg:Gs.length=ss.length
 le:Es.length=ss.length
 at_:∀ (i:Nat) (u G E:Addr) (s:Sco),us[i]?=some u→Gs[i]?=some G→Es[i]?=some E→ss[i]?=some s→ScH H u G E s
theorem Scs.same {H H':Hp} {D:Addr} {us Gs Es:List Addr} {ss:List Sco} (e:Same H H') (h:Scs H D us Gs Es ss):Scs H' D us Gs Es ss :=
 ⟨e _ _ h.top,h.lu,h.lg,h.le,fun i u G E s h1 h2 h3 h4=>(h.at_ i u G E s h1 h2 h3 h4).same e⟩
theorem Scs.get {H:Hp} {D:Addr} {us Gs Es:List Addr} {ss:List Sco} (h:Scs H D us Gs Es ss) {i:Nat} (hi:i < ss.length) :
 ∃ u G E,us[i]?=some u∧Gs[i]?=some G∧Es[i]?=some E∧ss[i]?=some ss[i]∧ScH H u G E ss[i]:=by
 have h1:us[i]?=some (us[i]'(by rw [h.lu]; exact hi)):=List.getElem?_eq_getElem _
 have h2:Gs[i]?=some (Gs[i]'(by rw [h.lg]; exact hi)):=List.getElem?_eq_getElem _
 have h3:Es[i]?=some (Es[i]'(by rw [h.le]; exact hi)):=List.getElem?_eq_getElem _
 exact ⟨_,_,_,h1,h2,h3,List.getElem?_eq_getElem hi,h.at_ i _ _ _ _ h1 h2 h3 (List.getElem?_eq_getElem hi)⟩
theorem Scs.keeps {M:Addr→Prop} {H H':Hp} {D:Addr} {us Gs Es:List Addr} {ss:List Sco} (k:Keeps M H H') (hD:¬ M D) (hM:∀ x∈Gs++Es,¬ M x) (h:Scs H D us Gs Es ss):Scs H' D us Gs Es ss :=
 ⟨k.at_ _ _ h.top hD,h.lu,h.lg,h.le,fun i u G E s h1 h2 h3 h4=>(h.at_ i u G E s h1 h2 h3 h4).keeps k (hM _ (List.mem_append_left _ (List.mem_of_getElem? h2))) (hM _ (List.mem_append_right _ (List.mem_of_getElem? h3)))⟩
theorem Scs.step {H:Hp} {D:Addr} {us Gs Es:List Addr} {ss:List Sco} (h:Scs H D us Gs Es ss) (nd:(D :: (Gs++Es)).Nodup) {i:Nat} {G t:Addr} {ts:List Addr} {p:Stp} (hi:i < ss.length) (hG:Gs[i]?=some G) (eG:H G=some (.lst (ts.map V.ref))) (T:RT stpV H ts ss[i].1) (et:H t=some (.tup (stpV p))) :
 Scs (upd H G (.lst (ts.map V.ref++[.ref t]))) D us Gs Es (ss.set i (ss[i].1++[p],ss[i].2)):=by
 have k:Keeps (·=G) H (upd H G (.lst (ts.map V.ref++[.ref t]))):=Keeps.one eG
 obtain ⟨nD,nd2⟩:=List.nodup_cons.mp nd
 obtain ⟨ng,ne,nge⟩:=List.nodup_append.mp nd2
 have mG:G∈Gs:=List.mem_of_getElem? hG
 refine ⟨k.at_ _ _ h.top fun z=>nD (z ▸ List.mem_append_left _ mG),by rw [List.length_set]; exact h.lu,by rw [List.length_set]; exact h.lg,by rw [List.length_set]; exact h.le,fun j u G' E s h1 h2 h3 h4=>?_⟩
 have hE:E≠G:=fun z=>nge G mG E (List.mem_of_getElem? h3) z.symm
 by_cases e:i=j
 · subst e
   rw [hG] at h2; cases h2
   rw [List.getElem?_set_self hi] at h4; cases h4
   obtain ⟨a,_,⟨es,c1,c2⟩⟩:=h.at_ i u G E _ h1 hG h3 (List.getElem?_eq_getElem hi)
   exact ⟨k.tup a,⟨ts++[t],by rw [upd_same,List.map_append]; rfl,(T.keeps k).snoc (k.tup et)⟩,⟨es,k.at_ _ _ c1 hE,c2.keeps k⟩⟩
 · rw [List.getElem?_set_ne e] at h4
   have hG':G'≠G:=fun z=>by
    subst z
    obtain ⟨q1,e1⟩:=List.getElem?_eq_some_iff.mp h2
    obtain ⟨q2,e2⟩:=List.getElem?_eq_some_iff.mp hG
    exact e ((List.getElem_inj ng).mp (e2.trans e1.symm))
   exact (h.at_ j u G' E s h1 h2 h3 h4).keeps k hG' hE
theorem Scs.alive {H:Hp} {D:Addr} {us Gs Es:List Addr} {ss:List Sco} (h:Scs H D us Gs Es ss):∀ x∈Gs++Es,∃ xs,H x=some (.lst xs):=fun x hx=>by
 rcases List.mem_append.mp hx with hx | hx
 · obtain ⟨j,hj⟩:=List.getElem?_of_mem hx
   have hjl:j < ss.length:=by rw [←h.lg]; exact (List.getElem?_eq_some_iff.mp hj).1
   obtain ⟨u',G',E',g1,g2,g3,g4,⟨_,⟨ts',b1,_⟩,_⟩⟩:=h.get hjl
   rw [hj] at g2; cases g2
   exact ⟨_,b1⟩
 · obtain ⟨j,hj⟩:=List.getElem?_of_mem hx
   have hjl:j < ss.length:=by rw [←h.le]; exact (List.getElem?_eq_some_iff.mp hj).1
   obtain ⟨u',G',E',g1,g2,g3,g4,⟨_,_,⟨ts',b1,_⟩⟩⟩:=h.get hjl
   rw [hj] at g3; cases g3
   exact ⟨_,b1⟩
theorem Scs.nil {H:Hp} {D:Addr} (h:H D=some (.lst [])):Scs H D [] [] [] []:=⟨h,rfl,rfl,rfl,fun i u G E s h1=>by simp at h1⟩
theorem Scs.snoc {H:Hp} {D u G E:Addr} {us Gs Es:List Addr} {ss:List Sco} {s:Sco} (h:Scs H D us Gs Es ss) (hs:ScH H u G E s) (hG:G≠D) (hE:E≠D) (hD:∀ x∈Gs++Es,x≠D) :
 Scs (upd H D (.lst (us.map V.ref++[.ref u]))) D (us++[u]) (Gs++[G]) (Es++[E]) (ss++[s]):=by
 have k:Keeps (·=D) H (upd H D (.lst (us.map V.ref++[.ref u]))):=Keeps.one h.top
 refine ⟨by rw [upd_same,List.map_append]; rfl,by simp [h.lu],by simp [h.lg],by simp [h.le],fun i u' G' E' s' h1 h2 h3 h4=>?_⟩
 rcases Nat.lt_or_ge i ss.length with hlt | hge
 · rw [List.getElem?_append_left (by rw [h.lu]; exact hlt)] at h1
   rw [List.getElem?_append_left (by rw [h.lg]; exact hlt)] at h2
   rw [List.getElem?_append_left (by rw [h.le]; exact hlt)] at h3
   rw [List.getElem?_append_left hlt] at h4
   exact (h.at_ i u' G' E' s' h1 h2 h3 h4).keeps k (hD _ (List.mem_append_left _ (List.mem_of_getElem? h2))) (hD _ (List.mem_append_right _ (List.mem_of_getElem? h3)))
 · have hn1:i < (ss++[s]).length:=(List.getElem?_eq_some_iff.mp h4).1
   rw [List.length_append,List.length_singleton] at hn1
   have e':i=ss.length:=by omega
   subst e'
   rw [List.getElem?_append_right (by rw [h.lu]; exact Nat.le_refl _),h.lu,Nat.sub_self] at h1
   rw [List.getElem?_append_right (by rw [h.lg]; exact Nat.le_refl _),h.lg,Nat.sub_self] at h2
   rw [List.getElem?_append_right (by rw [h.le]; exact Nat.le_refl _),h.le,Nat.sub_self] at h3
   rw [List.getElem?_append_right (Nat.le_refl _),Nat.sub_self] at h4
   cases h1; cases h2; cases h3; cases h4
   exact hs.keeps k hG hE
theorem nd_snoc2 {D G E:Addr} {Gs Es:List Addr} (nd:(D :: (Gs++Es)).Nodup) (h1:G ∉ D :: (Gs++Es)) (h2:E ∉ D :: (Gs++Es)) (h3:G≠E):(D :: ((Gs++[G])++(Es++[E]))).Nodup:=by
 have p:(D :: ((Gs++[G])++(Es++[E]))).Perm (G :: E :: (D :: (Gs++Es))):=by
  have p1:(D :: ((Gs++[G])++(Es++[E]))).Perm (E :: (D :: ((Gs++[G])++Es))):=by
   have:(D :: ((Gs++[G])++(Es++[E])))=(D :: ((Gs++[G])++Es))++[E]:=by simp
   rw [this]
   exact List.perm_append_singleton _ _
  have p2:(D :: ((Gs++[G])++Es)).Perm (G :: (D :: (Gs++Es))):=by
   have:(D :: ((Gs++[G])++Es))=(D :: Gs)++G :: Es:=by simp
   rw [this]
   exact List.perm_middle
  exact (p1.trans (p2.cons E)).trans (List.Perm.swap _ _ _)
 rw [p.nodup_iff,List.nodup_cons,List.nodup_cons]
 refine ⟨fun z=>?_,h2,nd⟩
 rcases List.mem_cons.mp z with z | z
 · exact h3 z
 · exact h1 z
end L2
namespace L2
open PySem PySem.Spec PyProof.Rows Ord
section
variable {X:Cx}
open PySem.AutoSeq1 in
set_option maxRecDepth 8000 in
theorem meets_extT {la tb:Addr} {xs ys:Array Value} {c1 c2:Nat} {own:Option Addr} {more:Array (Option Value)}
 (hd:¬(!xs.isEmpty && Builtin.List.listTooLong (xs.size + ys.size))=true) (hx:xs.size≤sizeLine) (hxy:xs.size + ys.size≤sizeLine + 1) :
 Meets (Builtin.«list.extend» ⟨[.ref la,.ref tb],[]⟩) fun _ R st =>
  st.heap.get? la=some { cls:=.type "list",dict:=none,data:=.seq xs c1,slots:=#[] } ∧
  st.heap.get? tb=some { cls:=.type "tuple",dict:=own,data:=.seq ys c2,slots:=more } ∧
  R (.ok (.ret Value.none)) { st with heap:=st.heap.update la (Obj.mapSeq fun z=>z++ys),toks:=st.toks } :=
 .of_wp fun _ _ _ _ st hyp=>by
  obtain ⟨p1,p2,p3,p4,p5⟩:=st
  obtain ⟨h1,h2,h3⟩:=hyp
  have q1:=PySem.AutoSeq1.sub_tuple_tuple
  have q2:=PySem.AutoSeq1.sub_list_list
  have q3:=PySem.AutoSeq1.sub_tuple_list
  have q4:=PySem.AutoSeq1.sub_list_tuple
  have q5:(xs++ys).size≤sizeLine + 1:=by
   rw [Array.size_append]
   exact hxy
  wp_walk using (wpAny_updateSeq h1 rfl (hz:=hx) (_hz':=q5)),wpAny_loadPart' h1,wpAny_loadPart' h2
  exact ⟨_,rfl,h3⟩
def rExtT (K:PySem.W.Frag):V→List V→Hp→VK→Prop:=fun x vs H Q=>∃ l b xs zs,x=.ref l∧vs=[.ref b]∧H l=some (.lst xs)∧SqT K H b zs∧xs.length + zs.length≤sizeLine∧Q .non (upd H l (.lst (xs++zs)))
theorem mr_extendT:MtR X "list.extend" (rExtT X.K):=by
 intro pins s σ H x vs v us Q I rx rv h
 obtain ⟨l,b,xs,zs,rfl,rfl,hH,hB,hz,q⟩:=h
 cases rx
 obtain ⟨u,rfl,ru⟩:=vals1 rv
 cases ru
 obtain ⟨z,its,n,r,hl,e⟩:=I.lstM hH
 obtain ⟨its2,r2,pl,z2⟩:=I.tuple hB
 obtain ⟨⟨cls,own,data,more⟩,ho,hc,n2,hd⟩:=id pl
 obtain rfl:cls=.type "tuple" := hc
 obtain rfl:data=.seq its2.toArray n2:=hd
 have hl2:=r2.length
 have hsz:its.toArray.size + its2.toArray.size≤sizeLine:=by rw [List.size_toArray,List.size_toArray]; omega
 have hlong:¬ (!its.toArray.isEmpty && Builtin.List.listTooLong (its.toArray.size + its2.toArray.size))=true:=by
  rw [notLongL hsz,Bool.and_false]
  exact Bool.false_ne_true
 refine call_meets PySem.F.slot_list_extend ⟨_,e,rfl⟩ PySem.F.entry_list_extend (PySem.F.args_list_extend_2 _ _) (meets_extT hlong (by rw [List.size_toArray]; omega) (by omega)) ⟨e,ho,?_⟩
 refine ⟨.non,_,I.lset (its':=its++its2) hH e (by simp) (r.append r2) ?_,rfl,q⟩
 rw [List.length_append]
 omega
end
def signB (c:Nat):Bool:=decide (97≤c) && decide (c≤122)
def nameB (x:Str):Bool:=decide (1≤x.length) && (decide (x.length≤8) && x.cps.toList.all signB)
def LowW (x:Str):Prop:=1≤x.length∧x.length≤8∧∀ c∈x.cps.toList,97≤c∧c≤122
theorem LowW.name {x:Str} (h:LowW x):nameB x=true:=by
 obtain ⟨h1,h2,h3⟩:=h
 unfold nameB
 rw [decide_eq_true h1,decide_eq_true h2,Bool.true_and,Bool.true_and,List.all_eq_true]
 intro c hc
 unfold signB
 rw [decide_eq_true (h3 c hc).1,decide_eq_true (h3 c hc).2]; rfl
def thOk (s q:Int) (p:Str × Int):Prop:=(p.1=("plain" : Str)∧p.2=0)∨(p.1=("part" : Str)∧0≤p.2∧p.2 < s)∨(p.1=("sort" : Str)∧0≤p.2∧p.2 < q)
def stOk (s q:Int) (p:Stp):Prop:=(p.2.1=("to" : Str)∧0≤p.2.2∧p.2.2 < s)∨(p.2.1=("by" : Str)∧0≤p.2.2∧p.2.2 < q)
def tlOk (t q:Int) (p:Tlg):Prop:=(p.2.2.1=("thing" : Str)∧0≤p.2.2.2∧p.2.2.2 < t)∨(p.2.2.1=("by" : Str)∧0≤p.2.2.2∧p.2.2.2 < q)
structure Net3 (H:Hp) (S T R:Addr) (us Gs Es ts qt:List Addr) (ss:List Sco) (gs:List (Str × Int)) (qs:List Qu):Prop where
 sc:Scs H S us Gs Es ss
 et:H T=some (.lst (ts.map V.ref))
 tg:GT H ts gs
 er:H R=some (.lst (qt.map V.ref))
 tq:QT H qt qs
theorem Net3.same {H H':Hp} {S T R:Addr} {us Gs Es ts qt:List Addr} {ss:List Sco} {gs:List (Str × Int)} {qs:List Qu} (e:Same H H') (h:Net3 H S T R us Gs Es ts qt ss gs qs):Net3 H' S T R us Gs Es ts qt ss gs qs :=
 ⟨h.sc.same e,e _ _ h.et,h.tg.same e,e _ _ h.er,h.tq.same e⟩
theorem small_sz {n:Nat} (h:n < 1000000):n < sizeLine:=Nat.lt_of_lt_of_le h (by decide)
abbrev rListOf (K:PySem.W.Frag):List V→Hp→VK→Prop:=fun xs H Q=>∃ p ys,xs=[V.ref p]∧(SqL K H p ys∨SqT K H p ys)∧∀ l,H l=none→Q (V.ref l) (upd H l (HO.lst ys))
theorem Scs.tell {H:Hp} {D:Addr} {us Gs Es:List Addr} {ss:List Sco} (h:Scs H D us Gs Es ss) (nd:(D :: (Gs++Es)).Nodup) {i:Nat} {E t:Addr} {ts:List Addr} {p:Tlg} (hi:i < ss.length) (hE:Es[i]?=some E) (eE:H E=some (.lst (ts.map V.ref))) (T:RT tlgV H ts ss[i].2) (et:H t=some (.tup (tlgV p))) :
 Scs (upd H E (.lst (ts.map V.ref++[.ref t]))) D us Gs Es (ss.set i (ss[i].1,ss[i].2++[p])):=by
 have k:Keeps (·=E) H (upd H E (.lst (ts.map V.ref++[.ref t]))):=Keeps.one eE
 obtain ⟨nD,nd2⟩:=List.nodup_cons.mp nd
 obtain ⟨ng,ne,nge⟩:=List.nodup_append.mp nd2
 have mE:E∈Es:=List.mem_of_getElem? hE
 refine ⟨k.at_ _ _ h.top fun z=>nD (z ▸ List.mem_append_right _ mE),by rw [List.length_set]; exact h.lu,by rw [List.length_set]; exact h.lg,by rw [List.length_set]; exact h.le,fun j u G E' s h1 h2 h3 h4=>?_⟩
 have hG:G≠E:=fun z=>nge G (List.mem_of_getElem? h2) E mE z
 by_cases e:i=j
 · subst e
   rw [hE] at h3; cases h3
   rw [List.getElem?_set_self hi] at h4; cases h4
   obtain ⟨a,⟨gts,c1,c2⟩,_⟩:=h.at_ i u G E _ h1 h2 hE (List.getElem?_eq_getElem hi)
   exact ⟨k.tup a,⟨gts,k.at_ _ _ c1 hG,c2.keeps k⟩,⟨ts++[t],by rw [upd_same,List.map_append]; rfl,(T.keeps k).snoc (k.tup et)⟩⟩
 · rw [List.getElem?_set_ne e] at h4
   have hE':E'≠E:=fun z=>by
    subst z
    obtain ⟨q1,e1⟩:=List.getElem?_eq_some_iff.mp h3
    obtain ⟨q2,e2⟩:=List.getElem?_eq_some_iff.mp hE
    exact e ((List.getElem_inj ne).mp (e2.trans e1.symm))
   exact (h.at_ j u G E' s h1 h2 h3 h4).keeps k hG hE'
end L2
namespace L2
open PySem PySem.Spec PyProof.Rows
structure AskI (K:PySem.W.Frag) (D c:Addr) (b:Bool):Prop where
 yes:b=true→PySem.W.isIn K (.ref D) c=true
 no:b=false→PySem.W.kin_not K D c=true
structure ClsI (K:PySem.W.Frag) (D:Addr):Prop where
 pg:PySem.W.plainGet K D "__class__" = true
 hd:PySem.W.hasDictIn K D=true
 fc:PySem.W.findIn K (.ref D) "__class__" = some (some (.builtin "object.__class__"))
 sp:PySem.W.specialIn K (.builtin "object.__class__") "__get__" = some (some (.builtin "getset_descriptor.__get__"))
 tk:PySem.W.takesIn K (.builtin "object.__class__")=some true
 mr:PySem.W.mroIn K D (.type "object")=some true
def rIsiI (K:PySem.W.Frag):List V→Hp→VK→Prop:=fun vs H Q=>∃ (a D dx c:Addr) (fs:List (Str × V)) (b:Bool),vs=[.ref a,.ref c]∧H a=some (.ins D dx fs)∧ClsI K D∧AskI K D c b∧Q (.bl b) H
theorem call_isiI {X:Cx}:CallR X (.builtin "isinstance") (rIsiI X.K):=by
 intro pins s σ H vs us Q I r h
 obtain ⟨a,D,dx,c,fs,b,rfl,hH,kC,ka,q⟩:=h
 obtain ⟨u1,u2,rfl,ru,ru2⟩:=vals2 r
 obtain rfl:u1=Value.ref a:=ru
 obtain rfl:u2=Value.ref c:=ru2
 obtain ⟨mA,O,_,_,_,ho⟩:=ins_get I.hok hH
 have e1:=O.obj
 cases b with
 | true =>
   refine PySem.W.isi_call (t:=.ref D) I.kIn (fun M=>?_) (ka.yes rfl) (by intro z; cases z) ⟨.bl true,H,I,rfl,q⟩
   exact show PySem.W.Looks M s.heap (typeOf (.ref a)) (PySem.W.instObj D dx).cls from (PySem.W.Looks.ld e1).andThen .now
 | false =>
   obtain ⟨od,hod⟩:∃ o,s.heap.get? dx=some o:=I.hok dx _ ho
   refine PySem.W.kin_callC (ox:=PySem.W.instObj D dx) (od:=od) I.kIn ⟨e1,rfl,rfl,hod⟩ (ka.no rfl) kC.pg kC.hd kC.fc kC.sp kC.tk kC.mr ⟨.bl false,H,I.tok _,rfl,q⟩
def CalleeN (P:Program) (w:World) (K:PySem.W.Frag) (mg:Str→Option Value) (base:Heap) (C:Addr) (k:Nat) (ps:List Str) (ds:List Value) (sp:Sp):Prop :=
 ∃ f fd,FnOk P w K mg base CX0 k f fd ps sp∧Mk K C f∧Binds K fd ps ds
theorem pe_mk {X:Cx} {C:Addr} {k:Nat} {ps:List Str} {ds:List Value} {dvs:List V} {sp:Sp} {x:Str} {p pos:Pos} {e:Expr} {es:List Expr} {t:TA} (c:CalleeN X.prog X.w X.K X.mg X.base C k ps ds sp) (hr:Room (k + 1) X.A) (hg:Gl X x) (hm:X.mg x=some (.ref C)) (hd:Vals dvs ds) (ha:PA X (e :: es) t)
 (hdb:(x == ("__debug__" : Str))=false:=by decide) (he:starEach (e :: es) X.env=(false,eval e X.env) :: starEach es X.env:=by rfl) (hpl:(backTo pos (starEach es X.env)).any (·.1)=false:=by rfl):PE X (.Call (.Name x p) (e :: es) [] pos) (tMake C sp dvs E0 t):=by
 obtain ⟨f,fd,F,M,hb⟩:=c
 exact pe_make M F hr hg hm hb hd (fun _ _ _ _ _ _ _ h=>h.elim) ha hdb he hpl
theorem pe_mk0 {X:Cx} {C:Addr} {k:Nat} {ps:List Str} {ds:List Value} {dvs:List V} {sp:Sp} {x:Str} {p pos:Pos} (c:CalleeN X.prog X.w X.K X.mg X.base C k ps ds sp) (hr:Room (k + 1) X.A) (hg:Gl X x) (hm:X.mg x=some (.ref C)) (hd:Vals dvs ds)
 (hdb:(x == ("__debug__" : Str))=false:=by decide):PE X (.Call (.Name x p) [] [] pos) (tMake C sp dvs E0 tNil):=by
 obtain ⟨f,fd,F,M,hb⟩:=c
 exact pe_make0 M F hr hg hm hb hd (fun _ _ _ _ _ _ _ h=>h.elim) hdb
def CalleeM (P:Program) (w:World) (K:PySem.W.Frag) (mg:Str→Option Value) (base:Heap) (C:Addr) (m:Str) (k:Nat) (ps:List Str) (sp:Sp):Prop :=
 ∃ f fd,FnOk P w K mg base CX0 k f fd ps sp∧Meth K C m f∧Binds K fd ps []
theorem pe_mth {X:Cx} {C:Addr} {m:Str} {k:Nat} {ps:List Str} {sp:Sp} {pl:Sem Bool} {o:Expr} {apos pos:Pos} {e:Expr} {es:List Expr} {ta:TE} {t:TA} (c:CalleeM X.prog X.w X.K X.mg X.base C m k ps sp) (cl:Cls X.K C) (hr:Room k X.A) (he:PE X o ta) (ha:PA X (e :: es) t)
 (hst:starEach (e :: es) X.env=(false,eval e X.env) :: starEach es X.env:=by rfl) (hpl:(backTo pos (starEach es X.env)).any (·.1)=false:=by rfl)
 (ht:eval (.Call (.Attribute o m apos) (e :: es) [] pos) X.env=(do
  let ov ←eval o X.env
  standAt apos.atName
  let (f,first) ←holding [ov] (getMethod ov m pl)
  callWith pos f first (backTo pos (starEach (e :: es) X.env)) (backToKw pos (keywordEach [] X.env))):=by rfl):PE X (.Call (.Attribute o m apos) (e :: es) [] pos) (tMeth C m sp [] E0 ta t):=by
 obtain ⟨f,fd,F,M,hb⟩:=c
 exact pe_meth he cl M F hr hb .nil (fun _ _ _ _ _ _ _ h=>h.elim) ha hst hpl ht
structure FunD (K:PySem.W.Frag) (x qual:Str) (st:Stmt) (T:Addr) (f:Addr) (fd:FuncData):Prop where
 ex:∃ (oc:Value) (od:Option Addr) (kV doc pm:Value) (an:Option Addr) (cdv ct:Value) (osl:Array (Option Value)),
  fd=PySem.W.fnOf x qual (defArgs st) (defBody st) (defScope st) (.ref T) kV doc pm an cdv ct∧K.lookup f=some ⟨oc,od,.func fd,osl⟩∧PySem.W.codeIn K cdv qual=true
section
variable {P:Program} {w:World} {K:PySem.W.Frag} {mg:Str→Option Value} {base:Heap}
theorem FunD.ok {x qual:Str} {st:Stmt} {T f:Addr} {fd:FuncData} {N ps:List Str} {k:Nat} {sp:Sp} (F:FunD K x qual st T f fd) (S:FnScope N ps (defScope st)) (len:∀ vs H Q E,sp vs H Q E→vs.length=ps.length)
 (hbody:∀ (cdv:Value) (A:Around) (outer:List Env) (s:Shared) (H:Hp) (vs:List V) (Q:VK) (E:XK),Room k (A.deeper (envOfC qual (defScope st) s.heap.objs.size f cdv))→sp vs H Q E →
  ∃ t,PSs (cxOf CX0 P w K mg base N qual (defScope st) f cdv A outer s H E).nox (defBody st) t∧t { nx:=fun _ H'=>Q .non H',rt:=Q } (start N vs) H):FnOk P w K mg base CX0 (k + 1) f fd ps sp:=by
 obtain ⟨oc,od,kV,doc,pm,an,cdv,ct,osl,rfl,lk,hcd⟩:=F.ex
 refine fn_of lk hcd S len fun A outer s H vs Q E hr hsp=>?_
 obtain ⟨t,h,q⟩:=hbody cdv A outer s H vs Q E hr hsp
 exact ⟨t,h.nox,q⟩
theorem FunD.binds {x qual:Str} {st:Stmt} {T f:Addr} {fd:FuncData} {ps:List Str} {ds:List Value} {oT:Obj} {items:Array Value} {n:Nat} (F:FunD K x qual st T f fd) (lT:K.lookup T=some oT) (hT:oT.data=.seq items n)
 (h:∀ (kV doc pm:Value) (an:Option Addr) (cdv ct:Value) (us:List Value),(us++ds).length=ps.length→∃ k,bindArgs (PySem.W.fnOf x qual (defArgs st) (defBody st) (defScope st) (.ref T) kV doc pm an cdv ct) ⟨us,[]⟩=seqItems? (.ref T) >>= k∧k (some items)=pure (ps.zip (us++ds))):Binds K fd ps ds:=by
 obtain ⟨oc,od,kV,doc,pm,an,cdv,ct,osl,rfl,lk,hcd⟩:=F.ex
 intro s us X hl
 obtain ⟨k,h1,h2⟩:=h kV doc pm an cdv ct us hl
 exact BindsTo.of_defaults rfl (X _ _ lT) hT h1 h2
theorem funD_mk {x qual:Str} {st:Stmt} {T f:Addr} {oc:Value} {od an:Option Addr} {osl:Array (Option Value)} {kV doc pm cdv ct:Value} (l:K.lookup f=some ⟨oc,od,.func (PySem.W.fnOf x qual (defArgs st) (defBody st) (defScope st) (.ref T) kV doc pm an cdv ct),osl⟩)
 (c:PySem.W.codeIn K cdv qual=true):FunD K x qual st T f (PySem.W.fnOf x qual (defArgs st) (defBody st) (defScope st) (.ref T) kV doc pm an cdv ct):=⟨⟨oc,od,kV,doc,pm,an,cdv,ct,osl,rfl,l,c⟩⟩
end
end L2
namespace L2
open PySem PySem.Spec PyProof.Rows Ord
abbrev grdF (S T R:Addr):List (Str × V):=[(("scopes" : Str),V.ref S),(("things" : Str),V.ref T),(("questions" : Str),V.ref R)]
structure Grd (C:Addr) (H0 H:Hp) (g dx S T R:Addr) (us Gs Es ts qt:List Addr) (ss:List Sco) (gs:List (Str × Int)) (qs:List Qu):Prop where
 gi:H g=some (.ins C dx (grdF S T R))
 n3:Net3 H S T R us Gs Es ts qt ss gs qs
 nd:(S :: (Gs++Es)).Nodup
 tr:T≠R
 nt:T ∉ S :: (Gs++Es)
 nr:R ∉ S :: (Gs++Es)
 fr:∀ x∈S :: T :: R :: (Gs++Es),H0 x=none
 sm:Same H0 H
theorem Net3.alive {H:Hp} {S T R:Addr} {us Gs Es ts qt:List Addr} {ss:List Sco} {gs:List (Str × Int)} {qs:List Qu} (h:Net3 H S T R us Gs Es ts qt ss gs qs):∀ x∈S :: T :: R :: (Gs++Es),∃ xs,H x=some (.lst xs):=fun x m=>by
 rcases List.mem_cons.mp m with rfl | m
 · exact ⟨_,h.sc.top⟩
 rcases List.mem_cons.mp m with rfl | m
 · exact ⟨_,h.et⟩
 rcases List.mem_cons.mp m with rfl | m
 · exact ⟨_,h.er⟩
 · exact h.sc.alive x m
theorem Net3.dead {H:Hp} {S T R x:Addr} {us Gs Es ts qt:List Addr} {ss:List Sco} {gs:List (Str × Int)} {qs:List Qu} (h:Net3 H S T R us Gs Es ts qt ss gs qs) (hx:H x=none):x ∉ S :: T :: R :: (Gs++Es):=fun m=>by
 obtain ⟨xs,e⟩:=h.alive x m
 rw [hx] at e; cases e
section
variable {C:Addr} {H0 H H':Hp} {g dx S T R:Addr} {us Gs Es ts qt:List Addr} {ss:List Sco} {gs:List (Str × Int)} {qs:List Qu}
theorem Grd.same (e:Same H H') (h:Grd C H0 H g dx S T R us Gs Es ts qt ss gs qs):Grd C H0 H' g dx S T R us Gs Es ts qt ss gs qs :=
 ⟨e _ _ h.gi,h.n3.same e,h.nd,h.tr,h.nt,h.nr,h.fr,h.sm.trans e⟩
theorem same_own {D:Addr} {o:HO} (h:Same H0 H) (hn:H0 D=none):Same H0 (upd H D o):=fun b u e=>by
 rw [upd_ne (ne_of_none e hn)]; exact h b u e
theorem ne_ins {x y c d:Addr} {fs:List (Str × V)} {xs:List V} (h:H x=some (.ins c d fs)) (h2:H y=some (.lst xs)):x≠y:=fun z=>by
 rw [z,h2] at h; cases h
theorem Grd.scope {u G E:Addr} {s:Sco} (h:Grd C H0 H g dx S T R us Gs Es ts qt ss gs qs) (hs:ScH H u G E s) (hG:G ∉ S :: T :: R :: (Gs++Es)) (hE:E ∉ S :: T :: R :: (Gs++Es)) (hGE:G≠E) (fG:H0 G=none) (fE:H0 E=none) :
 Grd C H0 (upd H S (.lst (us.map V.ref++[.ref u]))) g dx S T R (us++[u]) (Gs++[G]) (Es++[E]) ts qt (ss++[s]) gs qs:=by
 have k:Keeps (·=S) H (upd H S (.lst (us.map V.ref++[.ref u]))):=Keeps.one h.n3.sc.top
 simp only [List.mem_cons,List.mem_append,not_or] at hG hE
 have hnt:=h.nt
 have hnr:=h.nr
 simp only [List.mem_cons,List.mem_append,not_or] at hnt hnr
 refine ⟨k.at_ _ _ h.gi (ne_ins h.gi h.n3.sc.top),⟨h.n3.sc.snoc hs hG.1 hE.1 (fun x hx z=>(List.nodup_cons.mp h.nd).1 (z ▸ hx)),k.at_ _ _ h.n3.et hnt.1,h.n3.tg.keeps k,k.at_ _ _ h.n3.er hnr.1,h.n3.tq.keeps k⟩,nd_snoc2 h.nd (by simp only [List.mem_cons,List.mem_append,not_or]; exact ⟨hG.1,hG.2.2.2⟩) (by simp only [List.mem_cons,List.mem_append,not_or]; exact ⟨hE.1,hE.2.2.2⟩) hGE,h.tr,?_,?_,?_,same_own h.sm (h.fr S (by simp))⟩
 · simp only [List.mem_cons,List.mem_append,not_or,List.mem_singleton]
   exact ⟨hnt.1,⟨hnt.2.1,fun z=>hG.2.1 z.symm,by simp⟩,hnt.2.2,fun z=>hE.2.1 z.symm,by simp⟩
 · simp only [List.mem_cons,List.mem_append,not_or,List.mem_singleton]
   exact ⟨hnr.1,⟨hnr.2.1,fun z=>hG.2.2.1 z.symm,by simp⟩,hnr.2.2,fun z=>hE.2.2.1 z.symm,by simp⟩
 · intro x hx
   simp only [List.mem_cons,List.mem_append,List.mem_singleton,List.not_mem_nil,or_false] at hx
   rcases hx with e | e | e | (e | e) | e | e
   · exact h.fr x (by simp [e])
   · exact h.fr x (by simp [e])
   · exact h.fr x (by simp [e])
   · exact h.fr x (by simp [e])
   · rw [e]; exact fG
   · exact h.fr x (by simp [e])
   · rw [e]; exact fE
theorem Grd.thing {t:Addr} {p:Str × Int} (h:Grd C H0 H g dx S T R us Gs Es ts qt ss gs qs) (et:H t=some (.tup [.str p.1,.int p.2])) :
 Grd C H0 (upd H T (.lst (ts.map V.ref++[.ref t]))) g dx S T R us Gs Es (ts++[t]) qt ss (gs++[p]) qs:=by
 have k:Keeps (·=T) H (upd H T (.lst (ts.map V.ref++[.ref t]))):=Keeps.one h.n3.et
 have hnt:=h.nt
 simp only [List.mem_cons,not_or] at hnt
 exact ⟨k.at_ _ _ h.gi (ne_ins h.gi h.n3.et),⟨h.n3.sc.keeps k (fun z=>hnt.1 z.symm) (fun x hx z=>hnt.2 (z ▸ hx)),by rw [upd_same,List.map_append]; rfl,(h.n3.tg.keeps k).snoc (k.tup et),k.at_ _ _ h.n3.er (fun z=>h.tr z.symm),h.n3.tq.keeps k⟩,h.nd,h.tr,h.nt,h.nr,h.fr,same_own h.sm (h.fr T (by simp))⟩
theorem Grd.quest {t u:Addr} {p:Qu} (h:Grd C H0 H g dx S T R us Gs Es ts qt ss gs qs) (et:H t=some (.tup [.int p.1,.int p.2.1,.ref u])) (eu:H u=some (.tup (p.2.2.map V.str))) :
 Grd C H0 (upd H R (.lst (qt.map V.ref++[.ref t]))) g dx S T R us Gs Es ts (qt++[t]) ss gs (qs++[p]):=by
 have k:Keeps (·=R) H (upd H R (.lst (qt.map V.ref++[.ref t]))):=Keeps.one h.n3.er
 have hnr:=h.nr
 simp only [List.mem_cons,not_or] at hnr
 exact ⟨k.at_ _ _ h.gi (ne_ins h.gi h.n3.er),⟨h.n3.sc.keeps k (fun z=>hnr.1 z.symm) (fun x hx z=>hnr.2 (z ▸ hx)),k.at_ _ _ h.n3.et h.tr,h.n3.tg.keeps k,by rw [upd_same,List.map_append]; rfl,(h.n3.tq.keeps k).snoc (k.tup et) (k.tup eu)⟩,h.nd,h.tr,h.nt,h.nr,h.fr,same_own h.sm (h.fr R (by simp))⟩
theorem Grd.tell {i:Nat} {E t:Addr} {es:List Addr} {p:Tlg} (h:Grd C H0 H g dx S T R us Gs Es ts qt ss gs qs) (hi:i < ss.length) (hE:Es[i]?=some E) (eE:H E=some (.lst (es.map V.ref))) (hT:RT tlgV H es ss[i].2) (et:H t=some (.tup (tlgV p))) :
 Grd C H0 (upd H E (.lst (es.map V.ref++[.ref t]))) g dx S T R us Gs Es ts qt (ss.set i (ss[i].1,ss[i].2++[p])) gs qs:=by
 have k:Keeps (·=E) H (upd H E (.lst (es.map V.ref++[.ref t]))):=Keeps.one eE
 have m:E∈Gs++Es:=List.mem_append_right _ (List.mem_of_getElem? hE)
 exact ⟨k.at_ _ _ h.gi (ne_ins h.gi eE),⟨h.n3.sc.tell h.nd hi hE eE hT et,k.at_ _ _ h.n3.et (fun z=>h.nt (z ▸ List.mem_cons_of_mem _ m)),h.n3.tg.keeps k,k.at_ _ _ h.n3.er (fun z=>h.nr (z ▸ List.mem_cons_of_mem _ m)),h.n3.tq.keeps k⟩,h.nd,h.tr,h.nt,h.nr,h.fr,same_own h.sm (h.fr E (by simp only [List.mem_cons]; exact .inr (.inr (.inr m))))⟩
theorem Grd.step {i:Nat} {G t:Addr} {es:List Addr} {p:Stp} (h:Grd C H0 H g dx S T R us Gs Es ts qt ss gs qs) (hi:i < ss.length) (hG:Gs[i]?=some G) (eG:H G=some (.lst (es.map V.ref))) (hT:RT stpV H es ss[i].1) (et:H t=some (.tup (stpV p))) :
 Grd C H0 (upd H G (.lst (es.map V.ref++[.ref t]))) g dx S T R us Gs Es ts qt (ss.set i (ss[i].1++[p],ss[i].2)) gs qs:=by
 have k:Keeps (·=G) H (upd H G (.lst (es.map V.ref++[.ref t]))):=Keeps.one eG
 have m:G∈Gs++Es:=List.mem_append_left _ (List.mem_of_getElem? hG)
 exact ⟨k.at_ _ _ h.gi (ne_ins h.gi eG),⟨h.n3.sc.step h.nd hi hG eG hT et,k.at_ _ _ h.n3.et (fun z=>h.nt (z ▸ List.mem_cons_of_mem _ m)),h.n3.tg.keeps k,k.at_ _ _ h.n3.er (fun z=>h.nr (z ▸ List.mem_cons_of_mem _ m)),h.n3.tq.keeps k⟩,h.nd,h.tr,h.nt,h.nr,h.fr,same_own h.sm (h.fr G (by simp only [List.mem_cons]; exact .inr (.inr (.inr m))))⟩
end
def GrE (C:Addr) (H0 H:Hp) (g:Addr) (ss:List Sco) (gs:List (Str × Int)) (qs:List Qu):Prop:=∃ dx S T R us Gs Es ts qt,Grd C H0 H g dx S T R us Gs Es ts qt ss gs qs
theorem GrE.same {C g:Addr} {H0 H H':Hp} {ss:List Sco} {gs:List (Str × Int)} {qs:List Qu} (e:Same H H') (h:GrE C H0 H g ss gs qs):GrE C H0 H' g ss gs qs:=by
 obtain ⟨dx,S,T,R,us,Gs,Es,ts,qt,h⟩:=h
 exact ⟨dx,S,T,R,us,Gs,Es,ts,qt,h.same e⟩
theorem GrE.sm {C g:Addr} {H0 H:Hp} {ss:List Sco} {gs:List (Str × Int)} {qs:List Qu} (h:GrE C H0 H g ss gs qs):Same H0 H:=by
 obtain ⟨dx,S,T,R,us,Gs,Es,ts,qt,h⟩:=h
 exact h.sm
theorem GrE.gi {C g:Addr} {H0 H:Hp} {ss:List Sco} {gs:List (Str × Int)} {qs:List Qu} (h:GrE C H0 H g ss gs qs):∃ dx S T R,H g=some (.ins C dx (grdF S T R)):=by
 obtain ⟨dx,S,T,R,us,Gs,Es,ts,qt,h⟩:=h
 exact ⟨dx,S,T,R,h.gi⟩
def SLs (H:Hp) (G:Addr) (ps:List Stp):Prop:=∃ ts:List Addr,H G=some (.lst (ts.map V.ref))∧RT stpV H ts ps
def TLs (H:Hp) (E:Addr) (ps:List Tlg):Prop:=∃ ts:List Addr,H E=some (.lst (ts.map V.ref))∧RT tlgV H ts ps
def tellA (ss:List Sco) (i:Nat) (p:Tlg):List Sco:=match ss[i]? with
 | some s=>ss.set i (s.1,s.2++[p])
 | none=>ss
def stepA (ss:List Sco) (i:Nat) (p:Stp):List Sco:=match ss[i]? with
 | some s=>ss.set i (s.1++[p],s.2)
 | none=>ss
theorem tellA_eq {ss:List Sco} {i:Nat} {p:Tlg} (hi:i < ss.length):tellA ss i p=ss.set i (ss[i].1,ss[i].2++[p]):=by
 unfold tellA; rw [List.getElem?_eq_getElem hi]
theorem stepA_eq {ss:List Sco} {i:Nat} {p:Stp} (hi:i < ss.length):stepA ss i p=ss.set i (ss[i].1++[p],ss[i].2):=by
 unfold stepA; rw [List.getElem?_eq_getElem hi]
theorem four_le:([]:List V).length + 1 + 1 + 1 + 1≤sizeLine:=by decide
inductive Itm
 | part (r n:Str)
 | thing (r n:Str) (o:Option (List Str))
 | lett (n:Str) (o:Option (List Str))
 | elder (p:List Str)
 | all (p:List Str) (on:Bool)
 | one (r n:Str) (p:List Str)
 | ask (p:List Str)
def PthH (H:Hp) (v:V) (p:List Str):Prop:=∃ u,v=.ref u∧H u=some (.tup (p.map V.str))
def OfH (H:Hp) (v:V):Option (List Str)→Prop
 | none=>v=.non
 | some p=>PthH H v p
theorem PthH.same {H H':Hp} {v:V} {p:List Str} (e:Same H H') (h:PthH H v p):PthH H' v p:=by
 obtain ⟨u,h1,h2⟩:=h
 exact ⟨u,h1,e _ _ h2⟩
theorem OfH.same {H H':Hp} {v:V}:∀ {o:Option (List Str)},Same H H'→OfH H v o→OfH H' v o
 | none,_,h=>h
 | some _,e,h=>PthH.same e h
def ItmH (K:PySem.W.Frag) (H:Hp) (a:Addr):Itm→Prop
 | .part r n=>∃ dx l,H a=some (.ins (clsA K "Part") dx [(("reach" : Str),V.str r),(("name" : Str),V.str n),(("inner" : Str),V.ref l)])∧H l=some (.lst [])
 | .thing r n o=>∃ dx v,H a=some (.ins (clsA K "Thing") dx [(("reach" : Str),V.str r),(("name" : Str),V.str n),(("of" : Str),v)])∧OfH H v o
 | .lett n o=>∃ dx v,H a=some (.ins (clsA K "Let") dx [(("name" : Str),V.str n),(("of" : Str),v)])∧OfH H v o
 | .elder p=>∃ dx v,H a=some (.ins (clsA K "Elder") dx [(("path" : Str),v)])∧PthH H v p
 | .all p on=>∃ dx v,H a=some (.ins (clsA K "All") dx [(("path" : Str),v),(("on" : Str),V.bl on)])∧PthH H v p
 | .one r n p=>∃ dx v,H a=some (.ins (clsA K "One") dx [(("reach" : Str),V.str r),(("name" : Str),V.str n),(("path" : Str),v)])∧PthH H v p
 | .ask p=>∃ dx v,H a=some (.ins (clsA K "Ask") dx [(("path" : Str),v)])∧PthH H v p
theorem ItmH.same {K:PySem.W.Frag} {H H':Hp} {a:Addr}:∀ {it:Itm},Same H H'→ItmH K H a it→ItmH K H' a it
 | .part _ _,e,⟨dx,l,h1,h2⟩=>⟨dx,l,e _ _ h1,e _ _ h2⟩
 | .thing _ _ _,e,⟨dx,l,h1,h2⟩=>⟨dx,l,e _ _ h1,h2.same e⟩
 | .lett _ _,e,⟨dx,l,h1,h2⟩=>⟨dx,l,e _ _ h1,h2.same e⟩
 | .elder _,e,⟨dx,l,h1,h2⟩=>⟨dx,l,e _ _ h1,h2.same e⟩
 | .all _ _,e,⟨dx,l,h1,h2⟩=>⟨dx,l,e _ _ h1,h2.same e⟩
 | .one _ _ _,e,⟨dx,l,h1,h2⟩=>⟨dx,l,e _ _ h1,h2.same e⟩
 | .ask _,e,⟨dx,l,h1,h2⟩=>⟨dx,l,e _ _ h1,h2.same e⟩
abbrev NetT:Type:=List Sco × List (Str × Int) × List Qu
def thA (o:Option (List Str)) (here:Nat) (N:NetT):NetT:=match o with
 | none=>(N.1,N.2.1++[(("plain" : Str),0)],N.2.2)
 | some p=>(N.1,N.2.1++[(("sort" : Str),(N.2.2.length:Int))],N.2.2++[((here:Int),0,p)])
def layA (home here:Nat) (N:NetT):Itm→NetT × Nat
 | .part r n=>((tellA (N.1++[([(("up" : Str),("to" : Str),(here:Int))],[])]) home (r,n,("thing" : Str),(N.2.1.length:Int)),N.2.1++[(("part" : Str),(N.1.length:Int))],N.2.2),here)
 | .thing r n o=>((tellA N.1 home (r,n,("thing" : Str),(N.2.1.length:Int)),(thA o here N).2.1,(thA o here N).2.2),here)
 | .lett n o=>((N.1++[([(("up" : Str),("to" : Str),(here:Int))],[(("let" : Str),n,("thing" : Str),(N.2.1.length:Int))])],(thA o here N).2.1,(thA o here N).2.2),N.1.length)
 | .elder p=>((stepA N.1 home (("elder" : Str),("by" : Str),(N.2.2.length:Int)),N.2.1,N.2.2++[((home:Int),2,p)]),here)
 | .all p on=>((stepA N.1 home ((if on then ("allon" : Str) else ("all" : Str)),("by" : Str),(N.2.2.length:Int)),N.2.1,N.2.2++[((home:Int),2,p)]),here)
 | .one r n p=>((tellA N.1 home (r,n,("by" : Str),(N.2.2.length:Int)),N.2.1,N.2.2++[((home:Int),2,p)]),here)
 | .ask p=>((N.1,N.2.1,N.2.2++[((here:Int),0,p)]),here)
theorem fresh_ins {H:Hp} {x dx:Addr} {o o':HO} (hx:H x=none) (hd:H dx=none):Same H (upd (upd H dx o) x o'):=fun b u e=>by
 rw [upd_ne (ne_of_none e hx),upd_ne (ne_of_none e hd)]; exact e
section
variable {K:PySem.W.Frag} {H0:Hp} {σ:St}
end
abbrev N0:NetT:=([([],[])],[],[])
def lowB (x:Str):Bool:=decide (1≤x.length) && (decide (x.length≤8) && x.cps.toList.all fun c=>decide (97≤c) && decide (c≤122))
theorem lowB_ok {x:Str} (h:lowB x=true):LowW x:=by
 unfold lowB at h
 simp only [Bool.and_eq_true,decide_eq_true_eq,List.all_eq_true] at h
 exact ⟨h.1,h.2.1,h.2.2⟩
theorem low_open:LowW ("open" : Str):=lowB_ok (by decide +kernel)
theorem low_own:LowW ("own" : Str):=lowB_ok (by decide +kernel)
end L2
namespace L2
open PySem PySem.Spec PyProof.Rows Ord
inductive Tre
 | leaf (it:Itm)
 | node (r n:Str) (ts:List Tre)
def NotPart:Itm→Prop
 | .part _ _=>False
 | _=>True
mutual
inductive TreH (K:PySem.W.Frag) (H:Hp):Addr→Tre→Prop
 | leaf {a:Addr} {it:Itm} (np:NotPart it) (h:ItmH K H a it):TreH K H a (.leaf it)
 | node {a dx l:Addr} {as:List Addr} {r n:Str} {ts:List Tre} (h:H a=some (.ins (clsA K "Part") dx [(("reach" : Str),V.str r),(("name" : Str),V.str n),(("inner" : Str),V.ref l)])) (hl:H l=some (.lst (as.map V.ref))) (t:TresH K H as ts):TreH K H a (.node r n ts)
inductive TresH (K:PySem.W.Frag) (H:Hp):List Addr→List Tre→Prop
 | nil:TresH K H [] []
 | cons {a:Addr} {t:Tre} {as:List Addr} {ts:List Tre} (h:TreH K H a t) (r:TresH K H as ts):TresH K H (a :: as) (t :: ts)
end
mutual
theorem TreH.same {K:PySem.W.Frag} {H H':Hp} (e:Same H H') {a:Addr} {t:Tre} (h:TreH K H a t):TreH K H' a t:=by
 cases h with
 | leaf np h=>exact .leaf np (h.same e)
 | node h hl t=>exact .node (e _ _ h) (e _ _ hl) (TresH.same e t)
theorem TresH.same {K:PySem.W.Frag} {H H':Hp} (e:Same H H') {as:List Addr} {ts:List Tre} (h:TresH K H as ts):TresH K H' as ts:=by
 cases h with
 | nil=>exact .nil
 | cons h t=>exact .cons (TreH.same e h) (TresH.same e t)
end
theorem TresH.len {K:PySem.W.Frag} {H:Hp}:∀ {as:List Addr} {ts:List Tre},TresH K H as ts→as.length=ts.length
 | _,_,.nil=>rfl
 | _,_,.cons _ t=>congrArg Nat.succ t.len
theorem TresH.get {K:PySem.W.Frag} {H:Hp}:∀ {as:List Addr} {ts:List Tre},TresH K H as ts→∀ {i:Nat} {a:Addr},as[i]?=some a→∃ t,ts[i]?=some t∧TreH K H a t
 | _,_,.nil,i,a,h=>by simp at h
 | _,_,.cons h t,0,a,e=>by
   cases e
   exact ⟨_,rfl,h⟩
 | _,_,.cons h t,i + 1,a,e=>by
   rw [List.getElem?_cons_succ] at e
   obtain ⟨u,h1,h2⟩:=t.get e
   exact ⟨u,by rw [List.getElem?_cons_succ]; exact h1,h2⟩
theorem TresH.app {K:PySem.W.Frag} {H:Hp} {bs:List Addr} {us:List Tre} (h2:TresH K H bs us):∀ {as:List Addr} {ts:List Tre},TresH K H as ts→TresH K H (as++bs) (ts++us)
 | _,_,.nil=>h2
 | _,_,.cons h t=>.cons h (TresH.app h2 t)
mutual
def dep:Tre→Nat
 | .leaf _=>0
 | .node _ _ ts=>depL ts + 1
def depL:List Tre→Nat
 | []=>0
 | t :: ts=>max (dep t) (depL ts)
end
mutual
def szT:Tre→Nat
 | .leaf _=>1
 | .node _ _ ts=>szL ts + 1
def szL:List Tre→Nat
 | []=>0
 | t :: ts=>szT t + szL ts
end
theorem dep_mem:∀ {ts:List Tre} {t:Tre},t∈ts→dep t≤depL ts
 | u :: ts,t,h=>by
   rw [depL]
   rcases List.mem_cons.mp h with rfl | h
   · exact Nat.le_max_left _ _
   · exact Nat.le_trans (dep_mem h) (Nat.le_max_right _ _)
abbrev nodeN (home here:Nat) (N:NetT) (r n:Str):NetT:=(tellA (N.1++[([(("up" : Str),("to" : Str),(here:Int))],[])]) home (r,n,("thing" : Str),(N.2.1.length:Int)),N.2.1++[(("part" : Str),(N.1.length:Int))],N.2.2)
mutual
def layT (home here:Nat) (N:NetT):Tre→NetT × Nat
 | .leaf it=>layA home here N it
 | .node r n ts=>((laysT N.1.length N.1.length (nodeN home here N r n) ts).1,here)
def laysT (home here:Nat) (N:NetT):List Tre→NetT × Nat
 | []=>(N,here)
 | t :: ts=>laysT home (layT home here N t).2 (layT home here N t).1 ts
end
theorem laysT_app (home:Nat):∀ (here:Nat) (N:NetT) (ts us:List Tre),laysT home here N (ts++us)=laysT home (laysT home here N ts).2 (laysT home here N ts).1 us
 | _,_,[],_=>by rw [List.nil_append,laysT]
 | here,N,t :: ts,us=>by
   rw [List.cons_append,laysT,laysT_app home,laysT]
theorem laysT_snoc {home:Nat} {N:NetT} {ts:List Tre} {i:Nat} {t:Tre} (h:ts[i]?=some t):laysT home home N (ts.take (i + 1))=layT home (laysT home home N (ts.take i)).2 (laysT home home N (ts.take i)).1 t:=by
 rw [List.take_succ,h,laysT_app]
 show laysT home _ _ [t]=_
 rw [laysT,laysT]
structure LayM (m:Nat) (N:NetT):Prop where
 h0:N.1.length + m≤100
 h1:N.2.1.length + m≤100
 h2:N.2.2.length + m≤100
 hs:∀ s∈N.1,s.1.length + m≤100∧s.2.length + m≤100
theorem tellA_len (ss:List Sco) (i:Nat) (p:Tlg):(tellA ss i p).length=ss.length:=by
 unfold tellA
 split
 · rw [List.length_set]
 · rfl
theorem stepA_len (ss:List Sco) (i:Nat) (p:Stp):(stepA ss i p).length=ss.length:=by
 unfold stepA
 split
 · rw [List.length_set]
 · rfl
theorem tellA_mem {ss:List Sco} {i:Nat} {p:Tlg} {s:Sco} (h:s∈tellA ss i p):s∈ss∨∃ s'∈ss,s=(s'.1,s'.2++[p]):=by
 unfold tellA at h
 split at h
 · rename_i s' e
   rcases List.mem_or_eq_of_mem_set h with h | h
   · exact .inl h
   · exact .inr ⟨s',List.mem_of_getElem? e,h⟩
 · exact .inl h
theorem stepA_mem {ss:List Sco} {i:Nat} {p:Stp} {s:Sco} (h:s∈stepA ss i p):s∈ss∨∃ s'∈ss,s=(s'.1++[p],s'.2):=by
 unfold stepA at h
 split at h
 · rename_i s' e
   rcases List.mem_or_eq_of_mem_set h with h | h
   · exact .inl h
   · exact .inr ⟨s',List.mem_of_getElem? e,h⟩
 · exact .inl h
theorem LayM.mono {m k:Nat} {N:NetT} (h:LayM m N) (hk:k≤m):LayM k N:=⟨by have:=h.h0; omega,by have:=h.h1; omega,by have:=h.h2; omega,fun s hs=>by have:=h.hs s hs; omega⟩
theorem LayM.tellS {m:Nat} {ss:List Sco} {i:Nat} {p:Tlg} (h:∀ s∈ss,s.1.length + (m + 1)≤100∧s.2.length + (m + 1)≤100):∀ s∈tellA ss i p,s.1.length + m≤100∧s.2.length + m≤100:=fun s hs=>by
 rcases tellA_mem hs with hs | ⟨s',hs',rfl⟩
 · have:=h s hs; omega
 · have:=h s' hs'
   show s'.1.length + m≤100∧(s'.2++[p]).length + m≤100
   rw [List.length_append,List.length_singleton]
   omega
theorem LayM.stepS {m:Nat} {ss:List Sco} {i:Nat} {p:Stp} (h:∀ s∈ss,s.1.length + (m + 1)≤100∧s.2.length + (m + 1)≤100):∀ s∈stepA ss i p,s.1.length + m≤100∧s.2.length + m≤100:=fun s hs=>by
 rcases stepA_mem hs with hs | ⟨s',hs',rfl⟩
 · have:=h s hs; omega
 · have:=h s' hs'
   show (s'.1++[p]).length + m≤100∧s'.2.length + m≤100
   rw [List.length_append,List.length_singleton]
   omega
theorem LayM.snocS {m:Nat} {ss:List Sco} {s:Sco} (hm:m≤95) (h1:s.1.length≤1) (h2:s.2.length≤1) (h:∀ s∈ss,s.1.length + (m + 1)≤100∧s.2.length + (m + 1)≤100):∀ x∈ss++[s],x.1.length + (m + 1)≤100∧x.2.length + (m + 1)≤100:=fun x hx=>by
 rcases List.mem_append.mp hx with hx | hx
 · exact h x hx
 · rw [List.mem_singleton.mp hx]; omega
theorem thA_len (o:Option (List Str)) (here:Nat) (N:NetT):(thA o here N).2.1.length=N.2.1.length + 1∧(thA o here N).2.2.length≤N.2.2.length + 1:=by
 cases o with
 | none=>exact ⟨by show (N.2.1++[_]).length=_; rw [List.length_append]; rfl,Nat.le_succ _⟩
 | some p=>exact ⟨by show (N.2.1++[_]).length=_; rw [List.length_append]; rfl,by show (N.2.2++[_]).length≤_; rw [List.length_append]; exact Nat.le_refl _⟩
theorem layM_leaf {m home here:Nat} {N:NetT} {it:Itm} (np:NotPart it) (h:LayM (m + 1) N) (hm:m≤95):LayM m (layA home here N it).1∧N.1.length≤(layA home here N it).1.1.length:=by
 obtain ⟨h0,h1,h2,hs⟩:=h
 cases it with
 | part r n=>exact np.elim
 | thing r n o =>
   obtain ⟨t1,t2⟩:=thA_len o here N
   refine ⟨⟨?_,?_,?_,LayM.tellS hs⟩,?_⟩
   · show (tellA N.1 home _).length + m≤100
     rw [tellA_len]; omega
   · show (thA o here N).2.1.length + m≤100
     omega
   · show (thA o here N).2.2.length + m≤100
     omega
   · show N.1.length≤(tellA N.1 home _).length
     rw [tellA_len]; exact Nat.le_refl _
 | lett n o =>
   obtain ⟨t1,t2⟩:=thA_len o here N
   refine ⟨⟨?_,?_,?_,fun s hs'=>?_⟩,?_⟩
   · show (N.1++[_]).length + m≤100
     rw [List.length_append,List.length_singleton]; omega
   · show (thA o here N).2.1.length + m≤100
     omega
   · show (thA o here N).2.2.length + m≤100
     omega
   · have:=LayM.snocS (s:=([(("up" : Str),("to" : Str),(here:Int))],[(("let" : Str),n,("thing" : Str),(N.2.1.length:Int))])) hm (Nat.le_refl _) (Nat.le_refl _) hs s hs'
     omega
   · show N.1.length≤(N.1++[_]).length
     rw [List.length_append]; omega
 | elder p =>
   refine ⟨⟨?_,?_,?_,LayM.stepS hs⟩,?_⟩
   · show (stepA N.1 home _).length + m≤100
     rw [stepA_len]; omega
   · show N.2.1.length + m≤100
     omega
   · show (N.2.2++[_]).length + m≤100
     rw [List.length_append,List.length_singleton]; omega
   · show N.1.length≤(stepA N.1 home _).length
     rw [stepA_len]; exact Nat.le_refl _
 | all p on =>
   refine ⟨⟨?_,?_,?_,LayM.stepS hs⟩,?_⟩
   · show (stepA N.1 home _).length + m≤100
     rw [stepA_len]; omega
   · show N.2.1.length + m≤100
     omega
   · show (N.2.2++[_]).length + m≤100
     rw [List.length_append,List.length_singleton]; omega
   · show N.1.length≤(stepA N.1 home _).length
     rw [stepA_len]; exact Nat.le_refl _
 | one r n p =>
   refine ⟨⟨?_,?_,?_,LayM.tellS hs⟩,?_⟩
   · show (tellA N.1 home _).length + m≤100
     rw [tellA_len]; omega
   · show N.2.1.length + m≤100
     omega
   · show (N.2.2++[_]).length + m≤100
     rw [List.length_append,List.length_singleton]; omega
   · show N.1.length≤(tellA N.1 home _).length
     rw [tellA_len]; exact Nat.le_refl _
 | ask p =>
   refine ⟨⟨?_,?_,?_,fun s hs'=>?_⟩,Nat.le_refl _⟩
   · show N.1.length + m≤100
     omega
   · show N.2.1.length + m≤100
     omega
   · show (N.2.2++[_]).length + m≤100
     rw [List.length_append,List.length_singleton]; omega
   · have:=hs s hs'
     omega
theorem layM_node {m home here:Nat} {N:NetT} {r n:Str} (h:LayM (m + 1) N) (hm:m≤95):LayM m (nodeN home here N r n)∧(nodeN home here N r n).1.length=N.1.length + 1:=by
 obtain ⟨h0,h1,h2,hs⟩:=h
 have e:(nodeN home here N r n).1.length=N.1.length + 1:=by
  show (tellA (N.1++[_]) home _).length=_
  rw [tellA_len,List.length_append]; rfl
 refine ⟨⟨by rw [e]; omega,?_,?_,LayM.tellS (LayM.snocS hm (Nat.le_refl _) (Nat.zero_le _) hs)⟩,e⟩
 · show (N.2.1++[_]).length + m≤100
   rw [List.length_append,List.length_singleton]; omega
 · show N.2.2.length + m≤100
   omega
mutual
def NoPart:Tre→Prop
 | .leaf it=>NotPart it
 | .node _ _ ts=>NoPartL ts
def NoPartL:List Tre→Prop
 | []=>True
 | t :: ts=>NoPart t∧NoPartL ts
end
mutual
theorem layM_T {t:Tre} {m home here:Nat} {N:NetT} (np:NoPart t) (h:LayM (szT t + m) N) (hm:szT t + m≤95):LayM m (layT home here N t).1∧N.1.length≤(layT home here N t).1.1.length:=by
 cases t with
 | leaf it =>
   rw [layT]
   rw [szT,Nat.add_comm] at h hm
   exact layM_leaf np h (by omega)
 | node r n ts =>
   rw [layT]
   rw [szT] at h hm
   obtain ⟨a,b⟩:=layM_node (home:=home) (here:=here) (r:=r) (n:=n) (m:=szL ts + m) (h.mono (by omega)) (by omega)
   obtain ⟨c,d⟩:=layM_L (ts:=ts) (home:=N.1.length) (here:=N.1.length) np a (by omega)
   exact ⟨c,by show N.1.length≤(laysT _ _ _ ts).1.1.length; omega⟩
theorem layM_L {ts:List Tre} {m home here:Nat} {N:NetT} (np:NoPartL ts) (h:LayM (szL ts + m) N) (hm:szL ts + m≤95):LayM m (laysT home here N ts).1∧N.1.length≤(laysT home here N ts).1.1.length:=by
 cases ts with
 | nil =>
   rw [laysT]
   rw [szL,Nat.zero_add] at h
   exact ⟨h,Nat.le_refl _⟩
 | cons t ts =>
   rw [laysT]
   rw [szL,Nat.add_assoc] at h hm
   obtain ⟨a,b⟩:=layM_T (t:=t) (home:=home) (here:=here) np.1 h hm
   obtain ⟨c,d⟩:=layM_L (ts:=ts) (home:=home) (here:=(layT home here N t).2) np.2 a (by omega)
   exact ⟨c,Nat.le_trans b d⟩
end
def inn:List Tre→List Tre
 | []=>[]
 | .leaf _ :: ts=>inn ts
 | .node _ _ us :: ts=>us++inn ts
theorem inn_app:∀ ts us:List Tre,inn (ts++us)=inn ts++inn us
 | [],_=>rfl
 | .leaf _ :: ts,us=>by
   show inn (ts++us)=inn ts++inn us
   exact inn_app ts us
 | .node _ _ vs :: ts,us=>by
   show vs++inn (ts++us)=(vs++inn ts)++inn us
   rw [inn_app ts us,List.append_assoc]
theorem inn_snoc {ts:List Tre} {i:Nat} {t:Tre} (h:ts[i]?=some t):inn (ts.take (i + 1))=inn (ts.take i)++inn [t]:=by
 rw [List.take_succ,h,inn_app]; rfl
theorem szL_app:∀ ts us:List Tre,szL (ts++us)=szL ts + szL us
 | [],us=>by rw [List.nil_append,szL,Nat.zero_add]
 | t :: ts,us=>by rw [List.cons_append,szL,szL,szL_app ts us,Nat.add_assoc]
theorem depL_app:∀ ts us:List Tre,depL (ts++us)=max (depL ts) (depL us)
 | [],us=>by rw [List.nil_append,depL,Nat.zero_max]
 | t :: ts,us=>by rw [List.cons_append,depL,depL,depL_app ts us,Nat.max_assoc]
theorem szL_inn:∀ ts:List Tre,szL (inn ts) + ts.length=szL ts
 | []=>by rw [inn,szL]; rfl
 | .leaf _ :: ts=>by
   have:=szL_inn ts
   rw [inn,szL,szT,List.length_cons]; omega
 | .node _ _ vs :: ts=>by
   have:=szL_inn ts
   rw [inn,szL,szT,szL_app,List.length_cons]; omega
theorem len_szL:∀ ts:List Tre,ts.length≤szL ts:=fun ts=>by
 have:=szL_inn ts; omega
theorem depL_inn:∀ ts:List Tre,inn ts≠[]→depL (inn ts) + 1≤depL ts
 | [],h=>absurd rfl h
 | .leaf _ :: ts,h=>by
   have:=depL_inn ts h
   rw [inn,depL,dep]; omega
 | .node _ _ vs :: ts,h=>by
   rw [inn,depL_app,depL,dep]
   by_cases e:inn ts=[]
   · rw [e,depL]; omega
   · have:=depL_inn ts e
     omega
theorem npL:∀ {ts:List Tre} {i:Nat} {t:Tre},NoPartL ts→ts[i]?=some t→NoPart t∧NoPartL (ts.take i)
 | [],i,t,_,h=>by simp at h
 | u :: us,0,t,np,h=>by
   cases h
   rw [NoPartL] at np
   exact ⟨np.1,by rw [List.take_zero,NoPartL]; trivial⟩
 | u :: us,i + 1,t,np,h=>by
   rw [NoPartL] at np
   rw [List.getElem?_cons_succ] at h
   obtain ⟨a,b⟩:=npL np.2 h
   exact ⟨a,by rw [List.take_succ_cons,NoPartL]; exact ⟨np.1,b⟩⟩
theorem szL_at:∀ {ts:List Tre} {i:Nat} {t:Tre},ts[i]?=some t→szL (ts.take i) + szT t≤szL ts
 | [],i,t,h=>by simp at h
 | u :: us,0,t,h=>by
   cases h
   rw [List.take_zero,szL,szL]; omega
 | u :: us,i + 1,t,h=>by
   rw [List.getElem?_cons_succ] at h
   have:=szL_at h
   rw [List.take_succ_cons,szL,szL]; omega
theorem PthH.keeps {M:Addr→Prop} {H H':Hp} {v:V} {p:List Str} (k:Keeps M H H') (h:PthH H v p):PthH H' v p:=by
 obtain ⟨u,h1,h2⟩:=h
 exact ⟨u,h1,k.tup h2⟩
theorem OfH.keeps {M:Addr→Prop} {H H':Hp} {v:V}:∀ {o:Option (List Str)},Keeps M H H'→OfH H v o→OfH H' v o
 | none,_,h=>h
 | some _,k,h=>PthH.keeps k h
def stpI:Itm→Nat
 | .elder _=>1
 | .all _ _=>1
 | _=>0
def telI:Itm→Nat
 | .part _ _=>1
 | .thing _ _ _=>1
 | .one _ _ _=>1
 | _=>0
end L2
namespace L2
open PySem PySem.Spec PyProof.Rows Ord
section
variable {H0 H H':Hp} {g S T R:Addr} {us Gs Es ts qt:List Addr} {ss:List Sco} {gs:List (Str × Int)} {qs:List Qu}
end
end L2
namespace L2
open PySem PySem.Spec PyProof.Rows Ord
theorem ItmH.keeps {K:PySem.W.Frag} {M:Addr→Prop} {H H':Hp} {a:Addr} {it:Itm} (k:Keeps M H H') (np:NotPart it) (h:ItmH K H a it):ItmH K H' a it:=by
 have ki:∀ {x c d:Addr} {fs:List (Str × V)},H x=some (.ins c d fs)→H' x=some (.ins c d fs):=fun {x c d fs} e=>k.at_ _ _ e fun m=>by
  obtain ⟨xs,z⟩:=k.ls _ _ m e
  cases z
 cases it with
 | part r n=>exact np.elim
 | thing r n o=>obtain ⟨dx,v,h1,h2⟩:=h; exact ⟨dx,v,ki h1,h2.keeps k⟩
 | lett n o=>obtain ⟨dx,v,h1,h2⟩:=h; exact ⟨dx,v,ki h1,h2.keeps k⟩
 | elder p=>obtain ⟨dx,v,h1,h2⟩:=h; exact ⟨dx,v,ki h1,h2.keeps k⟩
 | all p on=>obtain ⟨dx,v,h1,h2⟩:=h; exact ⟨dx,v,ki h1,h2.keeps k⟩
 | one r n p=>obtain ⟨dx,v,h1,h2⟩:=h; exact ⟨dx,v,ki h1,h2.keeps k⟩
 | ask p=>obtain ⟨dx,v,h1,h2⟩:=h; exact ⟨dx,v,ki h1,h2.keeps k⟩
mutual
inductive TreF (K:PySem.W.Frag) (F:Addr→Prop) (H:Hp):Addr→Tre→Prop
 | leaf {a:Addr} {it:Itm} (np:NotPart it) (h:ItmH K H a it):TreF K F H a (.leaf it)
 | node {a dx l:Addr} {as:List Addr} {r n:Str} {ts:List Tre} (h:H a=some (.ins (clsA K "Part") dx [(("reach" : Str),V.str r),(("name" : Str),V.str n),(("inner" : Str),V.ref l)])) (hl:H l=some (.lst (as.map V.ref))) (hF:F l) (t:TresF K F H as ts):TreF K F H a (.node r n ts)
inductive TresF (K:PySem.W.Frag) (F:Addr→Prop) (H:Hp):List Addr→List Tre→Prop
 | nil:TresF K F H [] []
 | cons {a:Addr} {t:Tre} {as:List Addr} {ts:List Tre} (h:TreF K F H a t) (r:TresF K F H as ts):TresF K F H (a :: as) (t :: ts)
end
mutual
theorem TreF.toH {K:PySem.W.Frag} {F:Addr→Prop} {H:Hp} {a:Addr} {t:Tre} (h:TreF K F H a t):TreH K H a t:=by
 cases h with
 | leaf np h=>exact .leaf np h
 | node h hl _ t=>exact .node h hl (TresF.toH t)
theorem TresF.toH {K:PySem.W.Frag} {F:Addr→Prop} {H:Hp} {as:List Addr} {ts:List Tre} (h:TresF K F H as ts):TresH K H as ts:=by
 cases h with
 | nil=>exact .nil
 | cons h t=>exact .cons (TreF.toH h) (TresF.toH t)
end
mutual
theorem TreF.keeps {K:PySem.W.Frag} {F F' M:Addr→Prop} {H H':Hp} (k:Keeps M H H') (hM:∀ x,F x→¬ M x) (hF:∀ x,F x→F' x) {a:Addr} {t:Tre} (h:TreF K F H a t):TreF K F' H' a t:=by
 cases h with
 | leaf np h=>exact .leaf np (h.keeps k np)
 | node h hl f t =>
   refine .node (k.at_ _ _ h fun m=>?_) (k.at_ _ _ hl (hM _ f)) (hF _ f) (TresF.keeps k hM hF t)
   obtain ⟨xs,z⟩:=k.ls _ _ m h
   cases z
theorem TresF.keeps {K:PySem.W.Frag} {F F' M:Addr→Prop} {H H':Hp} (k:Keeps M H H') (hM:∀ x,F x→¬ M x) (hF:∀ x,F x→F' x) {as:List Addr} {ts:List Tre} (h:TresF K F H as ts):TresF K F' H' as ts:=by
 cases h with
 | nil=>exact .nil
 | cons h t=>exact .cons (TreF.keeps k hM hF h) (TresF.keeps k hM hF t)
end
theorem Same.toKeeps {H H':Hp} (e:Same H H'):Keeps (fun _=>False) H H':=⟨fun x o h _=>e _ _ h,fun _ _ m=>m.elim⟩
theorem TresF.snoc {K:PySem.W.Frag} {F:Addr→Prop} {H:Hp} {a:Addr} {t:Tre} (h2:TreF K F H a t):∀ {as:List Addr} {ts:List Tre},TresF K F H as ts→TresF K F H (as++[a]) (ts++[t])
 | _,_,.nil=>.cons h2 .nil
 | _,_,.cons h t=>.cons h (TresF.snoc h2 t)
theorem TresF.same {K:PySem.W.Frag} {F:Addr→Prop} {H H':Hp} (e:Same H H') {as:List Addr} {ts:List Tre} (h:TresF K F H as ts):TresF K F H' as ts:=h.keeps e.toKeeps (fun _ _ z=>z) fun _ z=>z
end L2
namespace L2
open PySem PySem.Spec PyProof.Rows Ord
theorem tellA_ne {ss:List Sco} {i j:Nat} {p:Tlg} (h:j≠i):(tellA ss i p)[j]?=ss[j]?:=by
 unfold tellA
 split
 · rw [List.getElem?_set_ne (Ne.symm h)]
 · rfl
theorem stepA_ne {ss:List Sco} {i j:Nat} {p:Stp} (h:j≠i):(stepA ss i p)[j]?=ss[j]?:=by
 unfold stepA
 split
 · rw [List.getElem?_set_ne (Ne.symm h)]
 · rfl
theorem layA_frame {home here i:Nat} {N:NetT} {it:Itm} (np:NotPart it) (hi:i < N.1.length) (hn:i≠home):(layA home here N it).1.1[i]?=N.1[i]?:=by
 cases it with
 | part r n=>exact np.elim
 | thing r n o=>exact tellA_ne hn
 | lett n o=>exact List.getElem?_append_left hi
 | elder p=>exact stepA_ne hn
 | all p on=>exact stepA_ne hn
 | one r n p=>exact tellA_ne hn
 | ask p=>rfl
theorem nodeN_frame {home here i:Nat} {N:NetT} {r n:Str} (hi:i < N.1.length) (hn:i≠home):(nodeN home here N r n).1[i]?=N.1[i]?:=by
 show (tellA (N.1++[_]) home _)[i]?=_
 rw [tellA_ne hn,List.getElem?_append_left hi]
theorem nodeN_len {home here:Nat} {N:NetT} {r n:Str}:(nodeN home here N r n).1.length=N.1.length + 1:=by
 show (tellA (N.1++[_]) home _).length=_
 rw [tellA_len,List.length_append]; rfl
theorem layA_len {home here:Nat} {N:NetT} {it:Itm} (np:NotPart it):N.1.length≤(layA home here N it).1.1.length:=by
 cases it with
 | part r n=>exact np.elim
 | thing r n o=>show _≤(tellA N.1 home _).length; rw [tellA_len]; exact Nat.le_refl _
 | lett n o=>show _≤(N.1++[_]).length; rw [List.length_append]; omega
 | elder p=>show _≤(stepA N.1 home _).length; rw [stepA_len]; exact Nat.le_refl _
 | all p on=>show _≤(stepA N.1 home _).length; rw [stepA_len]; exact Nat.le_refl _
 | one r n p=>show _≤(tellA N.1 home _).length; rw [tellA_len]; exact Nat.le_refl _
 | ask p=>exact Nat.le_refl _
mutual
theorem layT_frame {t:Tre} {home here i:Nat} {N:NetT} (np:NoPart t) (hi:i < N.1.length) (hn:i≠home):(layT home here N t).1.1[i]?=N.1[i]?∧N.1.length≤(layT home here N t).1.1.length:=by
 cases t with
 | leaf it =>
   rw [layT]
   exact ⟨layA_frame np hi hn,layA_len np⟩
 | node r n ts =>
   rw [layT]
   have hl:(nodeN home here N r n).1.length=N.1.length + 1:=nodeN_len
   obtain ⟨a,b⟩:=laysT_frame (ts:=ts) (home:=N.1.length) (here:=N.1.length) (i:=i) (N:=nodeN home here N r n) np (by omega) (by omega)
   exact ⟨a.trans (nodeN_frame hi hn),by show _≤(laysT _ _ _ ts).1.1.length; omega⟩
theorem laysT_frame {ts:List Tre} {home here i:Nat} {N:NetT} (np:NoPartL ts) (hi:i < N.1.length) (hn:i≠home):(laysT home here N ts).1.1[i]?=N.1[i]?∧N.1.length≤(laysT home here N ts).1.1.length:=by
 cases ts with
 | nil =>
   rw [laysT]
   exact ⟨rfl,Nat.le_refl _⟩
 | cons t ts =>
   rw [laysT]
   obtain ⟨a,b⟩:=layT_frame (t:=t) (home:=home) (here:=here) (N:=N) np.1 hi hn
   obtain ⟨c,d⟩:=laysT_frame (ts:=ts) (home:=home) (here:=(layT home here N t).2) (N:=(layT home here N t).1) np.2 (by omega) hn
   exact ⟨c.trans a,Nat.le_trans b d⟩
end
def stpT:Tre→Nat
 | .leaf it=>stpI it
 | .node _ _ _=>0
def telT:Tre→Nat
 | .leaf it=>telI it
 | .node _ _ _=>1
def stpL:List Tre→Nat
 | []=>0
 | t :: ts=>stpT t + stpL ts
def telL:List Tre→Nat
 | []=>0
 | t :: ts=>telT t + telL ts
mutual
def RoomT:Tre→Prop
 | .leaf _=>True
 | .node _ _ ts=>stpL ts + 1≤8∧telL ts≤12∧RoomL ts
def RoomL:List Tre→Prop
 | []=>True
 | t :: ts=>RoomT t∧RoomL ts
end
structure Cnt (home a b:Nat) (ss:List Sco):Prop where
 at_:∀ (s:Sco),ss[home]?=some s→s.1.length≤a∧s.2.length≤b
 ne:∀ (i:Nat) (s:Sco),i≠home→ss[i]?=some s→s.1.length≤8∧s.2.length≤12
theorem Cnt.tell {home a b:Nat} {ss:List Sco} (h:Cnt home a b ss) (p:Tlg):Cnt home a (b + 1) (tellA ss home p):=by
 refine ⟨fun s e=>?_,fun i s hn e=>h.ne i s hn (by rw [tellA_ne hn] at e; exact e)⟩
 unfold tellA at e
 split at e
 · rename_i s' e'
   have hl:=(List.getElem?_eq_some_iff.mp e').1
   rw [List.getElem?_set_self hl] at e
   cases e
   obtain ⟨q1,q2⟩:=h.at_ s' e'
   exact ⟨q1,by show (s'.2++[p]).length≤b + 1; rw [List.length_append,List.length_singleton]; omega⟩
 · rename_i e'
   rw [e'] at e; cases e
theorem Cnt.step {home a b:Nat} {ss:List Sco} (h:Cnt home a b ss) (p:Stp):Cnt home (a + 1) b (stepA ss home p):=by
 refine ⟨fun s e=>?_,fun i s hn e=>h.ne i s hn (by rw [stepA_ne hn] at e; exact e)⟩
 unfold stepA at e
 split at e
 · rename_i s' e'
   have hl:=(List.getElem?_eq_some_iff.mp e').1
   rw [List.getElem?_set_self hl] at e
   cases e
   obtain ⟨q1,q2⟩:=h.at_ s' e'
   exact ⟨by show (s'.1++[p]).length≤a + 1; rw [List.length_append,List.length_singleton]; omega,q2⟩
 · rename_i e'
   rw [e'] at e; cases e
theorem Cnt.snoc {home a b:Nat} {ss:List Sco} {s:Sco} (h:Cnt home a b ss) (hh:home < ss.length) (h1:s.1.length≤8) (h2:s.2.length≤12):Cnt home a b (ss++[s]):=by
 refine ⟨fun x e=>h.at_ x (by rw [List.getElem?_append_left hh] at e; exact e),fun i x hn e=>?_⟩
 rcases Nat.lt_or_ge i ss.length with hi | hi
 · rw [List.getElem?_append_left hi] at e
   exact h.ne i x hn e
 · have hl:=(List.getElem?_eq_some_iff.mp e).1
   rw [List.length_append,List.length_singleton] at hl
   have:i=ss.length:=by omega
   subst this
   rw [List.getElem?_append_right (Nat.le_refl _),Nat.sub_self] at e
   cases e
   exact ⟨h1,h2⟩
theorem cnt_A {home here a b:Nat} {N:NetT} {it:Itm} (np:NotPart it) (hh:home < N.1.length) (h:Cnt home a b N.1):Cnt home (a + stpI it) (b + telI it) (layA home here N it).1.1:=by
 cases it with
 | part r n=>exact np.elim
 | thing r n o=>exact h.tell _
 | lett n o=>exact h.snoc hh (by show 1≤8; decide) (by show 1≤12; decide)
 | elder p=>exact h.step _
 | all p on=>exact h.step _
 | one r n p=>exact h.tell _
 | ask p=>exact h
mutual
theorem cnt_T {t : Tre} {home here a b : Nat} {N : NetT} (np : NoPart t) (hr : RoomT t) (hh : home < N.1.length) (h : Cnt home a b N.1) (ha : a + stpT t ≤ 8) (hb : b + telT t ≤ 12) : Cnt home (a + stpT t) (b + telT t) (layT home here N t).1.1 := by
 cases t with
 | leaf it =>
   rw [layT]
   exact cnt_A np hh h
 | node r n ts =>
   rw [layT]
   obtain ⟨r1,r2,r3⟩:=hr
   rw [telT] at hb
   have hl:(nodeN home here N r n).1.length=N.1.length + 1:=nodeN_len
   have h1:Cnt home a (b + 1) (nodeN home here N r n).1:=(h.snoc hh (by show 1≤8; decide) (by show 0≤12; decide)).tell _
   have h2 : Cnt N.1.length 1 0 (nodeN home here N r n).1 := by
    refine ⟨fun s e=>?_,fun i s hn e=>?_⟩
    · have e:(tellA (N.1++[([(("up" : Str),("to" : Str),(here:Int))],[])]) home (r,n,("thing" : Str),(N.2.1.length:Int)))[N.1.length]?=some s:=e
      rw [tellA_ne (Nat.ne_of_gt hh),List.getElem?_append_right (Nat.le_refl _),Nat.sub_self] at e
      cases e
      exact ⟨Nat.le_refl _,Nat.le_refl _⟩
    · by_cases z:i=home
      · subst z
        obtain ⟨q1,q2⟩:=h1.at_ s e
        omega
      · exact h1.ne i s z e
   have h3:=cnt_L (ts:=ts) (home:=N.1.length) (here:=N.1.length) (N:=nodeN home here N r n) np r3 (by omega) h2 (by omega) (by omega)
   obtain ⟨f1,f2⟩:=laysT_frame (ts:=ts) (home:=N.1.length) (here:=N.1.length) (i:=home) (N:=nodeN home here N r n) np (by omega) (Nat.ne_of_lt hh)
   refine ⟨fun s e=>?_,fun i s hn e=>?_⟩
   · have e:(laysT N.1.length N.1.length (nodeN home here N r n) ts).1.1[home]?=some s:=e
     rw [f1] at e
     exact h1.at_ s e
   · by_cases z:i=N.1.length
     · subst z
       obtain ⟨q1,q2⟩:=h3.at_ s e
       omega
     · exact h3.ne i s z e
theorem cnt_L {ts:List Tre} {home here a b:Nat} {N:NetT} (np:NoPartL ts) (hr:RoomL ts) (hh:home < N.1.length) (h:Cnt home a b N.1) (ha:a + stpL ts≤8) (hb:b + telL ts≤12):Cnt home (a + stpL ts) (b + telL ts) (laysT home here N ts).1.1:=by
 cases ts with
 | nil =>
   rw [laysT]
   exact h
 | cons t ts =>
   rw [laysT]
   rw [stpL] at ha ⊢
   rw [telL] at hb ⊢
   have h1:=cnt_T (t:=t) (here:=here) np.1 hr.1 hh h (by omega) (by omega)
   have hl:N.1.length≤(layT home here N t).1.1.length:=by
    cases t with
    | leaf it=>rw [layT]; exact layA_len np.1
    | node r n us =>
      rw [layT]
      have e:(nodeN home here N r n).1.length=N.1.length + 1:=nodeN_len
      have:=(laysT_frame (ts:=us) (home:=N.1.length) (here:=N.1.length) (i:=home) (N:=nodeN home here N r n) np.1 (by omega) (Nat.ne_of_lt hh)).2
      show N.1.length≤(laysT _ _ _ us).1.1.length
      omega
   have h2:=cnt_L (ts:=ts) (here:=(layT home here N t).2) (N:=(layT home here N t).1) np.2 hr.2 (by omega) h1 (by omega) (by omega)
   rw [←Nat.add_assoc,←Nat.add_assoc]
   exact h2
end
end L2
namespace L2
open PySem PySem.Spec PyProof.Rows Ord
theorem stOk.mono {a b c d:Int} {p:Stp} (h:stOk a b p) (h1:a≤c) (h2:b≤d):stOk c d p:=by
 rcases h with ⟨x,y,z⟩ | ⟨x,y,z⟩
 · exact .inl ⟨x,y,by omega⟩
 · exact .inr ⟨x,y,by omega⟩
theorem tlOk.mono {a b c d:Int} {p:Tlg} (h:tlOk a b p) (h1:a≤c) (h2:b≤d):tlOk c d p:=by
 rcases h with ⟨x,y,z⟩ | ⟨x,y,z⟩
 · exact .inl ⟨x,y,by omega⟩
 · exact .inr ⟨x,y,by omega⟩
theorem thOk.mono {a b c d:Int} {p:Str × Int} (h:thOk a b p) (h1:a≤c) (h2:b≤d):thOk c d p:=by
 rcases h with h | ⟨x,y,z⟩ | ⟨x,y,z⟩
 · exact .inl h
 · exact .inr (.inl ⟨x,y,by omega⟩)
 · exact .inr (.inr ⟨x,y,by omega⟩)
theorem thA_one (o:Option (List Str)) (here:Nat) (N:NetT):(thA o here N).1=N.1:=by
 cases o <;> rfl
end L2
namespace L2
open PySem PySem.Spec PyProof.Rows Ord
section
variable {W:Str→Prop} {V:List Str→Prop}
structure NetW (W:Str→Prop) (V:List Str→Prop) (N:NetT):Prop where
 st:∀ s∈N.1,∀ p∈s.1,W p.1∧stOk N.1.length N.2.2.length p
 tl:∀ s∈N.1,∀ p∈s.2,W p.1∧W p.2.1∧tlOk N.2.1.length N.2.2.length p
 th:∀ p∈N.2.1,thOk N.1.length N.2.2.length p
 qu:∀ q∈N.2.2,V q.2.2∧0≤q.1∧q.1 < N.1.length∧0≤q.2.1
theorem NetW.scope {N:NetT} (h:NetW W V N) {s:Sco} (h1:∀ p∈s.1,W p.1∧stOk (N.1.length + 1:Nat) N.2.2.length p) (h2:∀ p∈s.2,W p.1∧W p.2.1∧tlOk N.2.1.length N.2.2.length p):NetW W V (N.1++[s],N.2.1,N.2.2):=by
 have e:(N.1++[s]).length=N.1.length + 1:=by rw [List.length_append]; rfl
 refine ⟨fun x hx p hp=>?_,fun x hx p hp=>?_,fun p hp=>?_,fun q hq=>?_⟩
 · show W p.1∧stOk (N.1++[s]).length N.2.2.length p
   rw [e]
   rcases List.mem_append.mp hx with hx | hx
   · obtain ⟨a,b⟩:=h.st x hx p hp
     exact ⟨a,b.mono (by omega) (Int.le_refl _)⟩
   · rw [List.mem_singleton.mp hx] at hp
     exact h1 p hp
 · rcases List.mem_append.mp hx with hx | hx
   · exact h.tl x hx p hp
   · rw [List.mem_singleton.mp hx] at hp
     exact h2 p hp
 · show thOk (N.1++[s]).length N.2.2.length p
   rw [e]
   exact (h.th p hp).mono (by omega) (Int.le_refl _)
 · obtain ⟨a,b,c,d⟩:=h.qu q hq
   exact ⟨a,b,by show q.1 < ((N.1++[s]).length:Int); rw [e]; omega,d⟩
theorem NetW.thing {N:NetT} (h:NetW W V N) {t:Str × Int} (h1:thOk N.1.length N.2.2.length t):NetW W V (N.1,N.2.1++[t],N.2.2):=by
 refine ⟨h.st,fun x hx p hp=>?_,fun p hp=>?_,h.qu⟩
 · obtain ⟨a,b,c⟩:=h.tl x hx p hp
   exact ⟨a,b,c.mono (by show (N.2.1.length:Int)≤((N.2.1++[t]).length:Int); rw [List.length_append]; omega) (Int.le_refl _)⟩
 · rcases List.mem_append.mp hp with hp | hp
   · exact h.th p hp
   · rw [List.mem_singleton.mp hp]; exact h1
theorem NetW.quest {N:NetT} (h:NetW W V N) {q:Qu} (h1:V q.2.2) (h2:0≤q.1) (h3:q.1 < N.1.length) (h4:0≤q.2.1):NetW W V (N.1,N.2.1,N.2.2++[q]):=by
 have e:((N.2.2).length:Int)≤((N.2.2++[q]).length:Int):=by rw [List.length_append]; omega
 refine ⟨fun x hx p hp=>?_,fun x hx p hp=>?_,fun p hp=>(h.th p hp).mono (Int.le_refl _) e,fun z hz=>?_⟩
 · obtain ⟨a,b⟩:=h.st x hx p hp
   exact ⟨a,b.mono (Int.le_refl _) e⟩
 · obtain ⟨a,b,c⟩:=h.tl x hx p hp
   exact ⟨a,b,c.mono (Int.le_refl _) e⟩
 · rcases List.mem_append.mp hz with hz | hz
   · exact h.qu z hz
   · rw [List.mem_singleton.mp hz]; exact ⟨h1,h2,h3,h4⟩
theorem NetW.tell {N:NetT} (h:NetW W V N) {i:Nat} {p:Tlg} (h1:W p.1) (h2:W p.2.1) (h3:tlOk N.2.1.length N.2.2.length p):NetW W V (tellA N.1 i p,N.2.1,N.2.2):=by
 have e:(tellA N.1 i p).length=N.1.length:=tellA_len _ _ _
 refine ⟨fun x hx z hz=>?_,fun x hx z hz=>?_,fun z hz=>?_,fun z hz=>?_⟩
 · show W z.1∧stOk (tellA N.1 i p).length N.2.2.length z
   rw [e]
   rcases tellA_mem hx with hx | ⟨s',hs,rfl⟩
   · exact h.st x hx z hz
   · exact h.st s' hs z hz
 · rcases tellA_mem hx with hx | ⟨s',hs,rfl⟩
   · exact h.tl x hx z hz
   · rcases List.mem_append.mp hz with hz | hz
     · exact h.tl s' hs z hz
     · rw [List.mem_singleton.mp hz]; exact ⟨h1,h2,h3⟩
 · show thOk (tellA N.1 i p).length N.2.2.length z
   rw [e]; exact h.th z hz
 · obtain ⟨a,b,c,d⟩:=h.qu z hz
   exact ⟨a,b,by show z.1 < ((tellA N.1 i p).length:Int); rw [e]; exact c,d⟩
theorem NetW.step {N:NetT} (h:NetW W V N) {i:Nat} {p:Stp} (h1:W p.1) (h3:stOk N.1.length N.2.2.length p):NetW W V (stepA N.1 i p,N.2.1,N.2.2):=by
 have e:(stepA N.1 i p).length=N.1.length:=stepA_len _ _ _
 refine ⟨fun x hx z hz=>?_,fun x hx z hz=>?_,fun z hz=>?_,fun z hz=>?_⟩
 · show W z.1∧stOk (stepA N.1 i p).length N.2.2.length z
   rw [e]
   rcases stepA_mem hx with hx | ⟨s',hs,rfl⟩
   · exact h.st x hx z hz
   · rcases List.mem_append.mp hz with hz | hz
     · exact h.st s' hs z hz
     · rw [List.mem_singleton.mp hz]; exact ⟨h1,h3⟩
 · rcases stepA_mem hx with hx | ⟨s',hs,rfl⟩
   · exact h.tl x hx z hz
   · exact h.tl s' hs z hz
 · show thOk (stepA N.1 i p).length N.2.2.length z
   rw [e]; exact h.th z hz
 · obtain ⟨a,b,c,d⟩:=h.qu z hz
   exact ⟨a,b,by show z.1 < ((stepA N.1 i p).length:Int); rw [e]; exact c,d⟩
theorem NetW.ofT {N:NetT} (h:NetW W V N) {here:Nat} (hh:here < N.1.length) {o:Option (List Str)} (ho:∀ p,o=some p→V p):NetW W V (thA o here N):=by
 cases o with
 | none=>exact h.thing (.inl ⟨rfl,rfl⟩)
 | some p =>
   refine (h.quest (q:=((here:Int),0,p)) (ho p rfl) (by show (0:Int)≤here; omega) (by show (here:Int) < _; omega) (Int.le_refl _)).thing (.inr (.inr ⟨rfl,Int.natCast_nonneg _,?_⟩))
   show (N.2.2.length:Int) < ((N.2.2++[((here:Int),(0:Int),p)]).length:Int)
   rw [List.length_append,List.length_singleton]; omega
structure BasW (W:Str→Prop):Prop where
 up:W ("up" : Str)
 lt:W ("let" : Str)
 el:W ("elder" : Str)
 al:W ("all" : Str)
 on:W ("allon" : Str)
def ItmW (W:Str→Prop) (V:List Str→Prop):Itm→Prop
 | .part r n=>W r∧W n
 | .thing r n o=>W r∧W n∧∀ p,o=some p→V p
 | .lett n o=>W n∧∀ p,o=some p→V p
 | .elder p=>V p
 | .all p _=>V p
 | .one r n p=>W r∧W n∧V p
 | .ask p=>V p
theorem netW_A {N:NetT} {home here:Nat} {it:Itm} (B:BasW W) (h:NetW W V N) (np:NotPart it) (ok:ItmW W V it) (hm:home < N.1.length) (hh:here < N.1.length):NetW W V (layA home here N it).1∧(layA home here N it).2 < (layA home here N it).1.1.length:=by
 cases it with
 | part r n=>exact np.elim
 | thing r n o =>
   obtain ⟨o1,o2,o3⟩:=ok
   have g:=h.ofT hh o3
   have l:=(thA_len o here N).1
   have t:=g.tell (i:=home) (p:=(r,n,("thing" : Str),(N.2.1.length:Int))) o1 o2 (.inl ⟨rfl,Int.natCast_nonneg _,by show (N.2.1.length:Int) < _; omega⟩)
   rw [thA_one] at t
   exact ⟨t,by show here < (tellA N.1 home _).length; rw [tellA_len]; exact hh⟩
 | lett n o =>
   obtain ⟨o1,o3⟩:=ok
   have g:=h.ofT hh o3
   have l:=(thA_len o here N).1
   have t:=g.scope (s:=([(("up" : Str),("to" : Str),(here:Int))],[(("let" : Str),n,("thing" : Str),(N.2.1.length:Int))])) (fun p hp=>by
    rw [List.mem_singleton.mp hp,thA_one]
    exact ⟨B.up,.inl ⟨rfl,Int.natCast_nonneg _,by show (here:Int) < _; omega⟩⟩) (fun p hp=>by
    rw [List.mem_singleton.mp hp]
    exact ⟨B.lt,o1,.inl ⟨rfl,Int.natCast_nonneg _,by show (N.2.1.length:Int) < _; omega⟩⟩)
   rw [thA_one] at t
   exact ⟨t,by show N.1.length < (N.1++[_]).length; rw [List.length_append,List.length_singleton]; omega⟩
 | elder p =>
   have g:=h.quest (q:=((home:Int),2,p)) ok (Int.natCast_nonneg _) (by show (home:Int) < _; omega) (by show (0:Int)≤2; decide)
   exact ⟨g.step (i:=home) (p:=(("elder" : Str),("by" : Str),(N.2.2.length:Int))) B.el (.inr ⟨rfl,Int.natCast_nonneg _,by show (N.2.2.length:Int) < ((N.2.2++[_]).length:Int); rw [List.length_append,List.length_singleton]; omega⟩),by show here < (stepA N.1 home _).length; rw [stepA_len]; exact hh⟩
 | all p on =>
   have g:=h.quest (q:=((home:Int),2,p)) ok (Int.natCast_nonneg _) (by show (home:Int) < _; omega) (by show (0:Int)≤2; decide)
   exact ⟨g.step (i:=home) (p:=((if on then ("allon" : Str) else ("all" : Str)),("by" : Str),(N.2.2.length:Int))) (by cases on; exact B.al; exact B.on) (.inr ⟨rfl,Int.natCast_nonneg _,by show (N.2.2.length:Int) < ((N.2.2++[_]).length:Int); rw [List.length_append,List.length_singleton]; omega⟩),by show here < (stepA N.1 home _).length; rw [stepA_len]; exact hh⟩
 | one r n p =>
   obtain ⟨o1,o2,o3⟩:=ok
   have g:=h.quest (q:=((home:Int),2,p)) o3 (Int.natCast_nonneg _) (by show (home:Int) < _; omega) (by show (0:Int)≤2; decide)
   exact ⟨g.tell (i:=home) (p:=(r,n,("by" : Str),(N.2.2.length:Int))) o1 o2 (.inr ⟨rfl,Int.natCast_nonneg _,by show (N.2.2.length:Int) < ((N.2.2++[_]).length:Int); rw [List.length_append,List.length_singleton]; omega⟩),by show here < (tellA N.1 home _).length; rw [tellA_len]; exact hh⟩
 | ask p=>exact ⟨h.quest (q:=((here:Int),0,p)) ok (Int.natCast_nonneg _) (by show (here:Int) < _; omega) (Int.le_refl _),hh⟩
mutual
def WkT (W:Str→Prop) (V:List Str→Prop):Tre→Prop
 | .leaf it=>ItmW W V it
 | .node r n ts=>W r∧W n∧WkL W V ts
def WkL (W:Str→Prop) (V:List Str→Prop):List Tre→Prop
 | []=>True
 | t :: ts=>WkT W V t∧WkL W V ts
end
theorem netW_N {N:NetT} {home here:Nat} {r n:Str} (B:BasW W) (h:NetW W V N) (h1:W r) (h2:W n) (hh:here < N.1.length):NetW W V (nodeN home here N r n):=by
 have g1:=h.scope (s:=([(("up" : Str),("to" : Str),(here:Int))],[])) (fun p hp=>by
  rw [List.mem_singleton.mp hp]
  exact ⟨B.up,.inl ⟨rfl,Int.natCast_nonneg _,by show (here:Int) < _; omega⟩⟩) (fun p hp=>by cases hp)
 have e:(N.1++[([(("up" : Str),("to" : Str),(here:Int))],([]:List Tlg))]).length=N.1.length + 1:=by rw [List.length_append]; rfl
 have g2:=g1.thing (t:=(("part" : Str),(N.1.length:Int))) (.inr (.inl ⟨rfl,Int.natCast_nonneg _,by show (N.1.length:Int) < ((N.1++[_]).length:Int); rw [e]; omega⟩))
 exact g2.tell (i:=home) (p:=(r,n,("thing" : Str),(N.2.1.length:Int))) h1 h2 (.inl ⟨rfl,Int.natCast_nonneg _,by show (N.2.1.length:Int) < ((N.2.1++[_]).length:Int); rw [List.length_append,List.length_singleton]; omega⟩)
mutual
theorem netW_T {t:Tre} {home here:Nat} {N:NetT} (B:BasW W) (h:NetW W V N) (np:NoPart t) (ok:WkT W V t) (hm:home < N.1.length) (hh:here < N.1.length):NetW W V (layT home here N t).1∧(layT home here N t).2 < (layT home here N t).1.1.length∧N.1.length≤(layT home here N t).1.1.length:=by
 cases t with
 | leaf it =>
   rw [layT]
   obtain ⟨a,b⟩:=netW_A B h np ok hm hh
   exact ⟨a,b,layA_len np⟩
 | node r n ts =>
   rw [layT]
   obtain ⟨o1,o2,o3⟩:=ok
   have e:(nodeN home here N r n).1.length=N.1.length + 1:=nodeN_len
   obtain ⟨a,b,c⟩:=netW_L (ts:=ts) (home:=N.1.length) (here:=N.1.length) B (netW_N (home:=home) B h o1 o2 hh) np o3 (by omega) (by omega)
   refine ⟨a,?_,?_⟩
   · show here < (laysT _ _ _ ts).1.1.length
     omega
   · show N.1.length≤(laysT _ _ _ ts).1.1.length
     omega
theorem netW_L {ts:List Tre} {home here:Nat} {N:NetT} (B:BasW W) (h:NetW W V N) (np:NoPartL ts) (ok:WkL W V ts) (hm:home < N.1.length) (hh:here < N.1.length):NetW W V (laysT home here N ts).1∧(laysT home here N ts).2 < (laysT home here N ts).1.1.length∧N.1.length≤(laysT home here N ts).1.1.length:=by
 cases ts with
 | nil =>
   rw [laysT]
   exact ⟨h,hh,Nat.le_refl _⟩
 | cons t ts =>
   rw [laysT]
   obtain ⟨a,b,c⟩:=netW_T (t:=t) (home:=home) (here:=here) B h np.1 ok.1 hm hh
   obtain ⟨d,e,f⟩:=netW_L (ts:=ts) (home:=home) B a np.2 ok.2 (by omega) b
   exact ⟨d,e,Nat.le_trans c f⟩
end
end
end L2
namespace L2
open PySem PySem.Spec PyProof.Rows Ord
structure NFits (ss:List Sco) (gs:List (Str × Int)) (qs:List Qu):Prop where
 ls:ss.length≤40
 lg:gs.length≤80
 lq:qs.length≤60
 st8:∀ s∈ss,s.1.length≤8
 tl12:∀ s∈ss,s.2.length≤12
 p6:∀ q∈qs,q.2.2.length≤6
theorem take_all {α:Type} {xs:List α} {i:Nat} {p:α→Prop} (h:∀ x∈xs.take i,p x) (hi:i < xs.length) (hp:p xs[i]):∀ x∈xs.take (i + 1),p x:=fun x hx=>by
 rw [List.take_succ,List.getElem?_eq_getElem hi] at hx
 rcases List.mem_append.mp hx with hx | hx
 · exact h x hx
 · simp at hx
   rw [hx]; exact hp
def wordsS (s:Sco):List Str:=s.1.map (·.1)++s.2.flatMap fun p=>[p.1,p.2.1]
def wordsN (ss:List Sco) (qs:List Qu):List Str:=ss.flatMap wordsS++qs.flatMap (·.2.2)
theorem take_one {α:Type} {xs:List α} {i:Nat} (hi:i < xs.length):xs.take (i + 1)=xs.take i++[xs[i]]:=by
 rw [List.take_succ,List.getElem?_eq_getElem hi]; rfl
theorem flat_take {α β:Type} {xs:List α} {f:α→List β} {i:Nat} (hi:i < xs.length):(xs.take (i + 1)).flatMap f=(xs.take i).flatMap f++f xs[i]:=by
 rw [take_one hi,List.flatMap_append,List.flatMap_singleton]
theorem map_take {α β:Type} {xs:List α} {f:α→β} {i:Nat} (hi:i < xs.length):(xs.take (i + 1)).map f=(xs.take i).map f++[f xs[i]]:=by
 rw [take_one hi,List.map_append]; rfl
theorem flat_two (l:List Tlg):(l.flatMap fun p=>[p.1,p.2.1]).length=2 * l.length:=by
 induction l with
 | nil=>rfl
 | cons a l ih =>
   simp only [List.flatMap_cons,List.length_append,ih,List.length_cons,List.length_nil]
   omega
theorem wordsS_len {s:Sco} (h:s.1.length≤8∧s.2.length≤12):(wordsS s).length≤32:=by
 unfold wordsS
 rw [List.length_append,List.length_map,flat_two]
 omega
theorem flat_len {α β:Type} {f:α→List β} {m:Nat}:∀ {xs:List α},(∀ x∈xs,(f x).length≤m)→(xs.flatMap f).length≤m * xs.length
 | [],_=>Nat.zero_le _
 | x :: xs,h=>by
   rw [List.flatMap_cons,List.length_append,List.length_cons,Nat.mul_succ]
   have h1:=h x List.mem_cons_self
   have h2:=flat_len (xs:=xs) fun y hy=>h y (List.mem_cons_of_mem _ hy)
   omega
def NNames (ss:List Sco) (qs:List Qu):Prop:=(∀ x∈wordsN ss qs,nameB x=true)∧∀ q∈qs,q.2.2≠[]
theorem vputE {kvs:List (Key × V)} {k j:Str} {v:V}:valV (putK kvs (.inr k) v) (.inr j:Key)=if j=k then some v else valV kvs (.inr j):=by
 rw [valV_put]
 by_cases e:j=k
 · rw [if_pos e,if_pos (by rw [e])]
 · rw [if_neg e,if_neg fun z=>e (Sum.inr.inj z)]
theorem kinds2 {x y j:Str} {a b:V}:valV (mergeK [] [((.inr x:Key),a),(.inr y,b)]) (.inr j)=if j=y then some b else if j=x then some a else none:=by
 show valV (putK (putK [] (.inr x) a) (.inr y) b) (.inr j:Key)=_
 rw [vputE,vputE]
 rfl
theorem kinds3 {x y z j:Str} {a b c:V}:valV (mergeK [] [((.inr x:Key),a),(.inr y,b),(.inr z,c)]) (.inr j)=if j=z then some c else if j=y then some b else if j=x then some a else none:=by
 show valV (putK (putK (putK [] (.inr x) a) (.inr y) b) (.inr z) c) (.inr j:Key)=_
 rw [vputE,vputE,vputE]
 rfl
structure NPlaces (ss:List Sco) (gs:List (Str × Int)) (qs:List Qu):Prop where
 kst:∀ s∈ss,∀ p∈s.1,stOk ss.length qs.length p
 ktl:∀ s∈ss,∀ p∈s.2,tlOk gs.length qs.length p
 kth:∀ p∈gs,thOk ss.length qs.length p
 kq:∀ q∈qs,0≤q.1∧q.1 < ss.length∧0≤q.2.1
theorem two_int {x y j:Str} {a b:Int} {kvs:List (Key × V)} (hk:∀ j:Str,valV kvs (.inr j:Key)=if j=y then some (.int b) else if j=x then some (.int a) else none):∀ v,valV kvs (.inr j:Key)=some v→∃ m,v=.int m:=fun v h=>by
 rw [hk] at h
 split at h
 · cases h; exact ⟨_,rfl⟩
 · split at h
   · cases h; exact ⟨_,rfl⟩
   · cases h
theorem two_place {x y j:Str} {a b n:Int} {kvs:List (Key × V)} (hxy:x≠y) (hk:∀ j:Str,valV kvs (.inr j:Key)=if j=y then some (.int b) else if j=x then some (.int a) else none) :
 (∀ m,valV kvs (.inr j:Key)=some (.int m)→0≤n∧n < m→(j=x∧0≤n∧n < a)∨(j=y∧0≤n∧n < b))∧((∀ m,valV kvs (.inr j:Key)=some (.int m)→¬ (0≤n∧n < m))→¬ ((j=x∧0≤n∧n < a)∨(j=y∧0≤n∧n < b))):=by
 refine ⟨fun m h hn=>?_,fun h z=>?_⟩
 · rw [hk] at h
   split at h
   · cases h; exact .inr ⟨‹_›,hn⟩
   · split at h
     · cases h; exact .inl ⟨‹_›,hn⟩
     · cases h
 · rcases z with ⟨e,hn⟩ | ⟨e,hn⟩
   · exact h a (by rw [hk,e,if_neg hxy,if_pos rfl]) hn
   · exact h b (by rw [hk,e,if_pos rfl]) hn
theorem three_int {x y z j:Str} {a b c:Int} {kvs:List (Key × V)} (hk:∀ j:Str,valV kvs (.inr j:Key)=if j=z then some (.int c) else if j=y then some (.int b) else if j=x then some (.int a) else none):∀ v,valV kvs (.inr j:Key)=some v→∃ m,v=.int m:=fun v h=>by
 rw [hk] at h
 split at h
 · cases h; exact ⟨_,rfl⟩
 · split at h
   · cases h; exact ⟨_,rfl⟩
   · split at h
     · cases h; exact ⟨_,rfl⟩
     · cases h
theorem three_place {x y z j:Str} {a b c n:Int} {kvs:List (Key × V)} (hxy:x≠y) (hxz:x≠z) (hyz:y≠z) (hk:∀ j:Str,valV kvs (.inr j:Key)=if j=z then some (.int c) else if j=y then some (.int b) else if j=x then some (.int a) else none) :
 (∀ m,valV kvs (.inr j:Key)=some (.int m)→0≤n∧n < m→(j=x∧0≤n∧n < a)∨(j=y∧0≤n∧n < b)∨(j=z∧0≤n∧n < c))∧((∀ m,valV kvs (.inr j:Key)=some (.int m)→¬ (0≤n∧n < m))→¬ ((j=x∧0≤n∧n < a)∨(j=y∧0≤n∧n < b)∨(j=z∧0≤n∧n < c))):=by
 refine ⟨fun m h hn=>?_,fun h w=>?_⟩
 · rw [hk] at h
   split at h
   · cases h; exact .inr (.inr ⟨‹_›,hn⟩)
   · split at h
     · cases h; exact .inr (.inl ⟨‹_›,hn⟩)
     · split at h
       · cases h; exact .inl ⟨‹_›,hn⟩
       · cases h
 · rcases w with ⟨e,hn⟩ | ⟨e,hn⟩ | ⟨e,hn⟩
   · exact h a (by rw [hk,e,if_neg hxz,if_neg hxy,if_pos rfl]) hn
   · exact h b (by rw [hk,e,if_neg hyz,if_pos rfl]) hn
   · exact h c (by rw [hk,e,if_pos rfl]) hn
end L2
namespace L2
open PySem PySem.Spec PyProof.Rows Ord
def nscI:Itm→Nat
 | .lett _ _=>1
 | _=>0
def nthI:Itm→Nat
 | .thing _ _ _=>1
 | .lett _ _=>1
 | _=>0
def nquO:Option (List Str)→Nat
 | none=>0
 | some _=>1
def nquI:Itm→Nat
 | .part _ _=>0
 | .thing _ _ o=>nquO o
 | .lett _ o=>nquO o
 | _=>1
mutual
def nscT:Tre→Nat
 | .leaf it=>nscI it
 | .node _ _ ts=>nscL ts + 1
def nscL:List Tre→Nat
 | []=>0
 | t :: ts=>nscT t + nscL ts
end
mutual
def nthT:Tre→Nat
 | .leaf it=>nthI it
 | .node _ _ ts=>nthL ts + 1
def nthL:List Tre→Nat
 | []=>0
 | t :: ts=>nthT t + nthL ts
end
mutual
def nquT:Tre→Nat
 | .leaf it=>nquI it
 | .node _ _ ts=>nquL ts
def nquL:List Tre→Nat
 | []=>0
 | t :: ts=>nquT t + nquL ts
end
theorem thA_q (o:Option (List Str)) (here:Nat) (N:NetT):(thA o here N).2.2.length=N.2.2.length + nquO o:=by
 cases o with
 | none=>rfl
 | some p=>show (N.2.2++[_]).length=_; rw [List.length_append]; rfl
theorem many_A {home here:Nat} {N:NetT} {it:Itm} (np:NotPart it):(layA home here N it).1.1.length=N.1.length + nscI it∧(layA home here N it).1.2.1.length=N.2.1.length + nthI it∧(layA home here N it).1.2.2.length=N.2.2.length + nquI it:=by
 cases it with
 | part r n=>exact np.elim
 | thing r n o=>exact ⟨by show (tellA N.1 home _).length=_; rw [tellA_len]; rfl,(thA_len o here N).1,thA_q o here N⟩
 | lett n o=>exact ⟨by show (N.1++[_]).length=_; rw [List.length_append]; rfl,(thA_len o here N).1,thA_q o here N⟩
 | elder p=>exact ⟨by show (stepA N.1 home _).length=_; rw [stepA_len]; rfl,rfl,by show (N.2.2++[_]).length=_; rw [List.length_append]; rfl⟩
 | all p on=>exact ⟨by show (stepA N.1 home _).length=_; rw [stepA_len]; rfl,rfl,by show (N.2.2++[_]).length=_; rw [List.length_append]; rfl⟩
 | one r n p=>exact ⟨by show (tellA N.1 home _).length=_; rw [tellA_len]; rfl,rfl,by show (N.2.2++[_]).length=_; rw [List.length_append]; rfl⟩
 | ask p=>exact ⟨rfl,rfl,by show (N.2.2++[_]).length=_; rw [List.length_append]; rfl⟩
mutual
theorem many_T {t:Tre} {home here:Nat} {N:NetT} (np:NoPart t):(layT home here N t).1.1.length=N.1.length + nscT t∧(layT home here N t).1.2.1.length=N.2.1.length + nthT t∧(layT home here N t).1.2.2.length=N.2.2.length + nquT t:=by
 cases t with
 | leaf it =>
   rw [layT,nscT,nthT,nquT]
   exact many_A np
 | node r n ts =>
   rw [layT,nscT,nthT,nquT]
   obtain ⟨a,b,c⟩:=many_L (ts:=ts) (home:=N.1.length) (here:=N.1.length) (N:=nodeN home here N r n) np
   have e1:(nodeN home here N r n).1.length=N.1.length + 1:=nodeN_len
   have e2:(nodeN home here N r n).2.1.length=N.2.1.length + 1:=by show (N.2.1++[_]).length=_; rw [List.length_append]; rfl
   have e3:(nodeN home here N r n).2.2.length=N.2.2.length:=rfl
   refine ⟨?_,?_,?_⟩
   · show (laysT _ _ _ ts).1.1.length=_
     omega
   · show (laysT _ _ _ ts).1.2.1.length=_
     omega
   · show (laysT _ _ _ ts).1.2.2.length=_
     omega
theorem many_L {ts:List Tre} {home here:Nat} {N:NetT} (np:NoPartL ts):(laysT home here N ts).1.1.length=N.1.length + nscL ts∧(laysT home here N ts).1.2.1.length=N.2.1.length + nthL ts∧(laysT home here N ts).1.2.2.length=N.2.2.length + nquL ts:=by
 cases ts with
 | nil =>
   rw [laysT,nscL,nthL,nquL]
   exact ⟨rfl,rfl,rfl⟩
 | cons t ts =>
   rw [laysT,nscL,nthL,nquL]
   obtain ⟨a,b,c⟩:=many_T (t:=t) (home:=home) (here:=here) (N:=N) np.1
   obtain ⟨d,e,f⟩:=many_L (ts:=ts) (home:=home) (here:=(layT home here N t).2) (N:=(layT home here N t).1) np.2
   exact ⟨by omega,by omega,by omega⟩
end
structure NetLe (N N':NetT):Prop where
 sc:∀ (i:Nat) (s:Sco),N.1[i]?=some s→∃ s',N'.1[i]?=some s'∧s.1.length≤s'.1.length∧s.2.length≤s'.2.length∧(∀ p∈s.1,p∈s'.1)∧∀ p∈s.2,p∈s'.2
 qu:∀ q∈N.2.2,q∈N'.2.2
theorem NetLe.refl (N:NetT):NetLe N N:=⟨fun i s h=>⟨s,h,Nat.le_refl _,Nat.le_refl _,fun _ h=>h,fun _ h=>h⟩,fun _ h=>h⟩
theorem NetLe.trans {A B C:NetT} (h:NetLe A B) (g:NetLe B C):NetLe A C:=⟨fun i s e=>by
 obtain ⟨s1,e1,a1,b1,c1,d1⟩:=h.sc i s e
 obtain ⟨s2,e2,a2,b2,c2,d2⟩:=g.sc i s1 e1
 exact ⟨s2,e2,Nat.le_trans a1 a2,Nat.le_trans b1 b2,fun p hp=>c2 p (c1 p hp),fun p hp=>d2 p (d1 p hp)⟩,fun q hq=>g.qu q (h.qu q hq)⟩
def ScLe (A B:List Sco):Prop:=∀ (i:Nat) (s:Sco),A[i]?=some s→∃ s',B[i]?=some s'∧s.1.length≤s'.1.length∧s.2.length≤s'.2.length∧(∀ p∈s.1,p∈s'.1)∧∀ p∈s.2,p∈s'.2
theorem ScLe.refl (A:List Sco):ScLe A A:=fun i s h=>⟨s,h,Nat.le_refl _,Nat.le_refl _,fun _ h=>h,fun _ h=>h⟩
theorem scLe_tell (ss:List Sco) (j:Nat) (p:Tlg):ScLe ss (tellA ss j p):=fun i s h=>by
 by_cases z:i=j
 · subst z
   have hl:=(List.getElem?_eq_some_iff.mp h).1
   unfold tellA
   rw [h]
   exact ⟨_,List.getElem?_set_self hl,Nat.le_refl _,by rw [List.length_append]; omega,fun _ h=>h,fun _ h=>List.mem_append_left _ h⟩
 · rw [tellA_ne z]
   exact ScLe.refl ss i s h
theorem scLe_step (ss:List Sco) (j:Nat) (p:Stp):ScLe ss (stepA ss j p):=fun i s h=>by
 by_cases z:i=j
 · subst z
   have hl:=(List.getElem?_eq_some_iff.mp h).1
   unfold stepA
   rw [h]
   exact ⟨_,List.getElem?_set_self hl,by rw [List.length_append]; omega,Nat.le_refl _,fun _ h=>List.mem_append_left _ h,fun _ h=>h⟩
 · rw [stepA_ne z]
   exact ScLe.refl ss i s h
theorem scLe_app (ss ts:List Sco):ScLe ss (ss++ts):=fun i s h=>by
 have hl:=(List.getElem?_eq_some_iff.mp h).1
 rw [List.getElem?_append_left hl]
 exact ScLe.refl ss i s h
theorem thA_le (o:Option (List Str)) (here:Nat) (N:NetT):∀ q∈N.2.2,q∈(thA o here N).2.2:=by
 cases o with
 | none=>exact fun _ h=>h
 | some p=>exact fun _ h=>List.mem_append_left _ h
theorem le_A {home here:Nat} {N:NetT} {it:Itm} (np:NotPart it):NetLe N (layA home here N it).1:=by
 cases it with
 | part r n=>exact np.elim
 | thing r n o=>exact ⟨scLe_tell _ _ _,thA_le o here N⟩
 | lett n o=>exact ⟨scLe_app _ _,thA_le o here N⟩
 | elder p=>exact ⟨scLe_step _ _ _,fun _ h=>List.mem_append_left _ h⟩
 | all p on=>exact ⟨scLe_step _ _ _,fun _ h=>List.mem_append_left _ h⟩
 | one r n p=>exact ⟨scLe_tell _ _ _,fun _ h=>List.mem_append_left _ h⟩
 | ask p=>exact ⟨ScLe.refl _,fun _ h=>List.mem_append_left _ h⟩
theorem le_N {home here:Nat} {N:NetT} {r n:Str}:NetLe N (nodeN home here N r n):=by
 refine ⟨fun i s h=>?_,fun _ h=>h⟩
 obtain ⟨s1,e1,a1,b1,c1,d1⟩:=scLe_app N.1 [([(("up" : Str),("to" : Str),(here:Int))],[])] i s h
 obtain ⟨s2,e2,a2,b2,c2,d2⟩:=scLe_tell (N.1++[([(("up" : Str),("to" : Str),(here:Int))],[])]) home (r,n,("thing" : Str),(N.2.1.length:Int)) i s1 e1
 exact ⟨s2,e2,Nat.le_trans a1 a2,Nat.le_trans b1 b2,fun p hp=>c2 p (c1 p hp),fun p hp=>d2 p (d1 p hp)⟩
mutual
theorem le_T {t:Tre} {home here:Nat} {N:NetT} (np:NoPart t):NetLe N (layT home here N t).1:=by
 cases t with
 | leaf it=>rw [layT]; exact le_A np
 | node r n ts=>rw [layT]; exact le_N.trans (le_L (ts:=ts) np)
theorem le_L {ts:List Tre} {home here:Nat} {N:NetT} (np:NoPartL ts):NetLe N (laysT home here N ts).1:=by
 cases ts with
 | nil=>rw [laysT]; exact NetLe.refl _
 | cons t ts=>rw [laysT]; exact (le_T np.1).trans (le_L np.2)
end
theorem home_A {home here:Nat} {N:NetT} {it:Itm} (np:NotPart it) {s:Sco} (h:N.1[home]?=some s):∃ s',(layA home here N it).1.1[home]?=some s'∧s'.1.length=s.1.length + stpI it∧s'.2.length=s.2.length + telI it:=by
 have hl:=(List.getElem?_eq_some_iff.mp h).1
 have ht:∀ p:Tlg,(tellA N.1 home p)[home]?=some (s.1,s.2++[p]):=fun p=>by unfold tellA; rw [h]; exact List.getElem?_set_self hl
 have hs:∀ p:Stp,(stepA N.1 home p)[home]?=some (s.1++[p],s.2):=fun p=>by unfold stepA; rw [h]; exact List.getElem?_set_self hl
 cases it with
 | part r n=>exact np.elim
 | thing r n o=>exact ⟨_,ht _,rfl,by rw [List.length_append]; rfl⟩
 | lett n o=>exact ⟨s,by show (N.1++[_])[home]?=_; rw [List.getElem?_append_left hl]; exact h,rfl,rfl⟩
 | elder p=>exact ⟨_,hs _,by rw [List.length_append]; rfl,rfl⟩
 | all p on=>exact ⟨_,hs _,by rw [List.length_append]; rfl,rfl⟩
 | one r n p=>exact ⟨_,ht _,rfl,by rw [List.length_append]; rfl⟩
 | ask p=>exact ⟨s,h,rfl,rfl⟩
theorem home_T {t:Tre} {home here:Nat} {N:NetT} (np:NoPart t) {s:Sco} (h:N.1[home]?=some s):∃ s',(layT home here N t).1.1[home]?=some s'∧s'.1.length=s.1.length + stpT t∧s'.2.length=s.2.length + telT t:=by
 cases t with
 | leaf it=>rw [layT]; exact home_A np h
 | node r n ts =>
   rw [layT]
   have hl:=(List.getElem?_eq_some_iff.mp h).1
   have e:(nodeN home here N r n).1.length=N.1.length + 1:=nodeN_len
   obtain ⟨f1,_⟩:=laysT_frame (ts:=ts) (home:=N.1.length) (here:=N.1.length) (i:=home) (N:=nodeN home here N r n) np (by omega) (Nat.ne_of_lt hl)
   refine ⟨(s.1,s.2++[(r,n,("thing" : Str),(N.2.1.length:Int))]),f1.trans ?_,rfl,by rw [List.length_append]; rfl⟩
   show (tellA (N.1++[_]) home _)[home]?=_
   unfold tellA
   rw [List.getElem?_append_left hl,h]
   exact List.getElem?_set_self (by rw [List.length_append]; omega)
theorem home_L:∀ {ts:List Tre} {home here:Nat} {N:NetT},NoPartL ts→∀ {s:Sco},N.1[home]?=some s→∃ s',(laysT home here N ts).1.1[home]?=some s'∧s'.1.length=s.1.length + stpL ts∧s'.2.length=s.2.length + telL ts
 | [],home,here,N,_,s,h=>by rw [laysT]; exact ⟨s,h,rfl,rfl⟩
 | t :: ts,home,here,N,np,s,h=>by
   rw [laysT,stpL,telL]
   obtain ⟨s1,e1,a1,b1⟩:=home_T (here:=here) np.1 h
   obtain ⟨s2,e2,a2,b2⟩:=home_L (ts:=ts) (here:=(layT home here N t).2) np.2 e1
   exact ⟨s2,e2,by omega,by omega⟩
theorem part_at : ∀ {ts : List Tre} {home here : Nat} {N : NetT} {r n : Str} {us : List Tre}, NoPartL ts → Tre.node r n us ∈ ts → ∃ s ∈ (laysT home here N ts).1.1, stpL us + 1 ≤ s.1.length ∧ telL us ≤ s.2.length
 | t :: ts, home, here, N, r, n, us, np, h => by
   rw [laysT]
   rcases List.mem_cons.mp h with rfl | h
   · have hnew:(nodeN home here N r n).1[N.1.length]?=some ([(("up" : Str),("to" : Str),(here:Int))],[])∨∃ p,(nodeN home here N r n).1[N.1.length]?=some ([(("up" : Str),("to" : Str),(here:Int))],[p]):=by
      show (tellA (N.1++[_]) home _)[N.1.length]?=_∨∃ p,(tellA (N.1++[_]) home _)[N.1.length]?=_
      have e0:(N.1++[(([(("up" : Str),("to" : Str),(here:Int))],[]):Sco)])[N.1.length]?=some ([(("up" : Str),("to" : Str),(here:Int))],[]):=by rw [List.getElem?_append_right (Nat.le_refl _),Nat.sub_self]; rfl
      by_cases z:N.1.length=home
      · right
        subst z
        unfold tellA
        rw [e0]
        exact ⟨_,List.getElem?_set_self (by rw [List.length_append]; show _ < _ + 1; omega)⟩
      · left
        rw [tellA_ne z]; exact e0
     obtain ⟨s0,e0,l1,l2⟩:∃ s0,(nodeN home here N r n).1[N.1.length]?=some s0∧s0.1.length=1∧0≤s0.2.length:=by
      rcases hnew with h | ⟨p,h⟩
      · exact ⟨_,h,rfl,Nat.le_refl _⟩
      · exact ⟨_,h,rfl,Nat.zero_le _⟩
     obtain ⟨s1,e1,a1,b1⟩:=home_L (ts:=us) (home:=N.1.length) (here:=N.1.length) np.1 e0
     obtain ⟨s2,e2,a2,b2,_,_⟩:=(le_L (ts:=ts) (home:=home) (here:=here) (N:=(laysT N.1.length N.1.length (nodeN home here N r n) us).1) np.2).sc _ _ e1
     rw [layT]
     exact ⟨s2,List.mem_of_getElem? e2,by omega,by omega⟩
   · exact part_at np.2 h
theorem item_at:∀ {ts:List Tre} {home here:Nat} {N:NetT} {t:Tre},NoPartL ts→t∈ts→home < N.1.length→∃ N1 here1,home < N1.1.length∧NetLe (layT home here1 N1 t).1 (laysT home here N ts).1
 | u :: ts, home, here, N, t, np, h, hh => by
   rw [laysT]
   rcases List.mem_cons.mp h with rfl | h
   · exact ⟨N,here,hh,le_L np.2⟩
   · refine item_at np.2 h ?_
     obtain ⟨s,hs⟩:∃ s,N.1[home]?=some s:=⟨_,List.getElem?_eq_getElem hh⟩
     obtain ⟨s',e',_⟩:=(le_T (t:=u) (home:=home) (here:=here) (N:=N) np.1).sc _ _ hs
     exact (List.getElem?_eq_some_iff.mp e').1
theorem tell_in {ss:List Sco} {i:Nat} {p:Tlg} (h:i < ss.length):∃ s∈tellA ss i p,p∈s.2:=by
 rw [tellA_eq h]
 exact ⟨_,List.mem_set h _,List.mem_append_right _ (by simp)⟩
def innN:Nat→List Tre→List Tre
 | 0,ts=>ts
 | n + 1,ts=>innN n (inn ts)
theorem innN_succ:∀ (n:Nat) (ts:List Tre),innN (n + 1) ts=inn (innN n ts)
 | 0,_=>rfl
 | n + 1,ts=>innN_succ n (inn ts)
theorem innN_nil:∀ n:Nat,innN n []=[]
 | 0=>rfl
 | n + 1=>innN_nil n
theorem dep_innN:∀ (n:Nat) (ts:List Tre),innN n ts=[]→depL ts≤n
 | 0,ts,h=>by
   have:ts=[]:=h
   rw [this,depL]; exact Nat.le_refl _
 | n + 1,ts,h=>by
   have:=dep_innN n (inn ts) h
   have:=dep_inn ts
   omega
where
 dep_inn:∀ ts:List Tre,depL ts≤depL (inn ts) + 1
  | []=>by rw [depL]; exact Nat.zero_le _
  | .leaf _ :: ts=>by
    have:=dep_inn ts
    rw [inn,depL,dep]; omega
  | .node _ _ vs :: ts=>by
    have:=dep_inn ts
    rw [inn,depL_app,depL,dep]; omega
theorem innN_of_dep:∀ (n:Nat) (ts:List Tre),depL ts < n→innN n ts=[]
 | 0,_,h=>absurd h (Nat.not_lt_zero _)
 | n + 1, ts, h => by
   by_cases e:inn ts=[]
   · show innN n (inn ts)=[]
     rw [e]; exact innN_nil n
   · have:=depL_inn ts e
     exact innN_of_dep n (inn ts) (by omega)
theorem inn_sub {ts us:List Tre} (h:ts.Sublist us):(inn ts).Sublist (inn us):=by
 induction h with
 | slnil=>exact List.Sublist.refl _
 | @cons l1 l2 a h ih =>
   cases a with
   | leaf it=>exact ih
   | node r n vs=>exact ih.trans (List.sublist_append_right vs _)
 | @cons_cons l1 l2 a h ih =>
   cases a with
   | leaf it=>exact ih
   | node r n vs=>exact (List.Sublist.refl vs).append ih
theorem innN_sub:∀ (n:Nat) {ts us:List Tre},ts.Sublist us→(innN n ts).Sublist (innN n us)
 | 0,_,_,h=>h
 | n + 1,_,_,h=>innN_sub n (inn_sub h)
section
variable {ts us:List Tre}
theorem nsc_sub (h:ts.Sublist us):nscL ts≤nscL us:=by
 induction h with
 | slnil=>exact Nat.le_refl _
 | cons a h ih=>rw [nscL]; omega
 | cons_cons a h ih=>rw [nscL,nscL]; omega
theorem nth_sub (h:ts.Sublist us):nthL ts≤nthL us:=by
 induction h with
 | slnil=>exact Nat.le_refl _
 | cons a h ih=>rw [nthL]; omega
 | cons_cons a h ih=>rw [nthL,nthL]; omega
theorem nqu_sub (h:ts.Sublist us):nquL ts≤nquL us:=by
 induction h with
 | slnil=>exact Nat.le_refl _
 | cons a h ih=>rw [nquL]; omega
 | cons_cons a h ih=>rw [nquL,nquL]; omega
theorem stp_sub (h:ts.Sublist us):stpL ts≤stpL us:=by
 induction h with
 | slnil=>exact Nat.le_refl _
 | cons a h ih=>rw [stpL]; omega
 | cons_cons a h ih=>rw [stpL,stpL]; omega
theorem tel_sub (h:ts.Sublist us):telL ts≤telL us:=by
 induction h with
 | slnil=>exact Nat.le_refl _
 | cons a h ih=>rw [telL]; omega
 | cons_cons a h ih=>rw [telL,telL]; omega
end
end L2
namespace L2
open PySem PySem.Spec PyProof.Rows Ord
mutual
theorem wkT_true:∀ {t:Tre},NoPart t→WkT (fun _=>True) (fun _=>True) t
 | .leaf it,h=>by
   cases it with
   | part r n=>exact h.elim
   | thing r n o=>exact ⟨trivial,trivial,fun _ _=>trivial⟩
   | lett n o=>exact ⟨trivial,fun _ _=>trivial⟩
   | elder p=>exact trivial
   | all p on=>exact trivial
   | one r n p=>exact ⟨trivial,trivial,trivial⟩
   | ask p=>exact trivial
 | .node _ _ _,h=>⟨trivial,trivial,wkL_true h⟩
theorem wkL_true:∀ {ts:List Tre},NoPartL ts→WkL (fun _=>True) (fun _=>True) ts
 | [],_=>trivial
 | _ :: _,h=>⟨wkT_true h.1,wkL_true h.2⟩
end
theorem netW0 {W:Str→Prop} {V:List Str→Prop}:NetW W V N0:=by
 have n0:∀ s∈N0.1,s=(([],[]):Sco):=fun s hs=>by simpa [N0] using hs
 exact ⟨fun s hs p hp=>(by rw [n0 s hs] at hp; cases hp),fun s hs p hp=>(by rw [n0 s hs] at hp; cases hp),fun p hp=>(by cases hp),fun q hq=>(by cases hq)⟩
theorem netW_all {W:Str→Prop} {V:List Str→Prop} (B:BasW W) {ts:List Tre} (np:NoPartL ts) (ok:WkL W V ts):NetW W V (laysT 0 0 N0 ts).1:=(netW_L (ts:=ts) (home:=0) (here:=0) B netW0 np ok (by decide) (by decide)).1
theorem places_T {ts:List Tre} (np:NoPartL ts):NPlaces (laysT 0 0 N0 ts).1.1 (laysT 0 0 N0 ts).1.2.1 (laysT 0 0 N0 ts).1.2.2:=by
 have G:=netW_all (W:=fun _=>True) (V:=fun _=>True) ⟨trivial,trivial,trivial,trivial,trivial⟩ np (wkL_true np)
 exact ⟨fun s hs p hp=>(G.st s hs p hp).2,fun s hs p hp=>(G.tl s hs p hp).2.2,G.th,fun q hq=>(G.qu q hq).2⟩
end L2
namespace L2
open PySem PySem.Spec PyProof.Rows Ord
section
variable {F:Tre→Nat} {L:List Tre→Nat}
structure SumL (F:Tre→Nat) (L:List Tre→Nat):Prop where
 nil:L []=0
 cons:∀ t ts,L (t :: ts)=F t + L ts
theorem SumL.app (h:SumL F L):∀ ts us:List Tre,L (ts++us)=L ts + L us
 | [],us=>by rw [List.nil_append,h.nil,Nat.zero_add]
 | t :: ts,us=>by rw [List.cons_append,h.cons,h.cons,h.app ts us,Nat.add_assoc]
theorem SumL.one (h:SumL F L) (t:Tre):L [t]=F t:=by rw [h.cons,h.nil]; rfl
theorem SumL.rep (h:SumL F L) (t:Tre):∀ n:Nat,L (List.replicate n t)=n * F t
 | 0=>by rw [Nat.zero_mul]; exact h.nil
 | n + 1=>by rw [List.replicate_succ,h.cons,h.rep t n,Nat.succ_mul,Nat.add_comm]
end
theorem sNsc:SumL nscT nscL:=⟨by rw [nscL],fun _ _=>by rw [nscL]⟩
theorem sNth:SumL nthT nthL:=⟨by rw [nthL],fun _ _=>by rw [nthL]⟩
theorem sNqu:SumL nquT nquL:=⟨by rw [nquL],fun _ _=>by rw [nquL]⟩
theorem sStp:SumL stpT stpL:=⟨by rw [stpL],fun _ _=>by rw [stpL]⟩
theorem sTel:SumL telT telL:=⟨by rw [telL],fun _ _=>by rw [telL]⟩
theorem sSz:SumL szT szL:=⟨by rw [szL],fun _ _=>by rw [szL]⟩
abbrev wa:Str := "a"
abbrev wb:Str := "b"
abbrev wc:Str := "c"
abbrev wOp:Str := "open"
abbrev wOw:Str := "own"
def rN (k:Nat):Str:=if k % 2=0 then wOp else wOw
def rH (k:Nat):Str:=if k % 2=0 then wOw else wOp
def nestT:Nat→List Tre→List Tre
 | 0,ts=>ts
 | n + 1,ts=>[.node (rN n) wa (nestT n ts)]
def homeT (us:List Tre):Nat→List Tre
 | 0=>[]
 | n + 1=>homeT us n++[.node (rH n) wa us]
def allT:Nat→List Tre
 | 0=>[]
 | n + 1=>allT n++[.leaf (.all [wa] (decide (n % 2=1)))]
abbrev tAsk:Tre:=.leaf (.ask [wa])
def muchT (k o:Nat):List Tre :=
 if k=0 then nestT (30 + o) [tAsk]
 else if k=1 then homeT (List.replicate 12 (.leaf (.thing wOp wb none))) 6++List.replicate (2 + o) (.leaf (.thing wOw wc none))
 else if k=2 then List.replicate (39 + o) (.leaf (.lett wa none))
 else if k=3 then homeT (homeT [] 12) 3++homeT [] o
 else if k=4 then homeT (List.replicate (60 + o) tAsk) 1
 else if k=5 then allT 8++List.replicate 10 (.leaf (.one wOw wa [wb]))++List.replicate 20 (.leaf (.lett wa (some [wb])))++List.replicate (22 + o) tAsk
 else if k=6 then allT (8 + o)
 else if k=7 then [.node wOw wb (List.replicate (7 + o) (.leaf (.elder [wa])))]
 else if k=8 then List.replicate (12 + o) (.leaf (.one wOp wa [wb]))
 else if k=9 then [.node wOw wb (List.replicate (12 + o) (.leaf (.thing wOw wa none)))]
 else [.leaf (.ask (List.replicate (6 + o) wa))]
section
variable {F:Tre→Nat} {L:List Tre→Nat}
theorem SumL.home (h:SumL F L) {us:List Tre} {c:Nat} (hc:∀ r,F (.node r wa us)=c):∀ n,L (homeT us n)=n * c
 | 0=>by rw [homeT,h.nil,Nat.zero_mul]
 | n + 1=>by rw [homeT,h.app,h.one,h.home hc n,hc,Nat.succ_mul]
theorem SumL.all (h:SumL F L) {c:Nat} (hc:∀ b,F (.leaf (.all [wa] b))=c):∀ n,L (allT n)=n * c
 | 0=>by rw [allT,h.nil,Nat.zero_mul]
 | n + 1=>by rw [allT,h.app,h.one,h.all hc n,hc,Nat.succ_mul]
end
structure AllL (P:Tre→Prop) (L:List Tre→Prop):Prop where
 nil:L []
 cons:∀ t ts,P t→L ts→L (t :: ts)
theorem AllL.of {P:Tre→Prop} {L:List Tre→Prop} (h:AllL P L):∀ {ts:List Tre},(∀ t∈ts,P t)→L ts
 | [],_=>h.nil
 | t :: ts,g=>h.cons t ts (g t (by simp)) (h.of fun u hu=>g u (List.mem_cons_of_mem _ hu))
theorem AllL.app {P:Tre→Prop} {L:List Tre→Prop} (h:AllL P L) (back:∀ ts,L ts→∀ t∈ts,P t) {ts us:List Tre} (a:L ts) (b:L us):L (ts++us):=h.of fun t ht=>by
 rcases List.mem_append.mp ht with ht | ht
 · exact back ts a t ht
 · exact back us b t ht
theorem mem_home {us:List Tre} {t:Tre}:∀ {n:Nat},t∈homeT us n→∃ r,LowW r∧t=.node r wa us
 | 0,h=>by cases h
 | n + 1, h => by
   rw [homeT] at h
   rcases List.mem_append.mp h with h | h
   · exact mem_home h
   · refine ⟨rH n,?_,List.mem_singleton.mp h⟩
     unfold rH
     split
     · exact low_own
     · exact low_open
theorem mem_all {t:Tre}:∀ {n:Nat},t∈allT n→∃ b,t=.leaf (.all [wa] b)
 | 0,h=>by cases h
 | n + 1,h=>by
   rw [allT] at h
   rcases List.mem_append.mp h with h | h
   · exact mem_all h
   · exact ⟨_,List.mem_singleton.mp h⟩
theorem mem_rep {α:Type} {t u:α} {n:Nat} (h:t∈List.replicate n u):t=u:=(List.mem_replicate.mp h).2
theorem aNp:AllL NoPart NoPartL:=⟨trivial,fun _ _ a b=>⟨a,b⟩⟩
theorem aRm:AllL RoomT RoomL:=⟨trivial,fun _ _ a b=>⟨a,b⟩⟩
theorem aWk {W:Str→Prop} {V:List Str→Prop}:AllL (WkT W V) (WkL W V):=⟨trivial,fun _ _ a b=>⟨a,b⟩⟩
theorem low_a:LowW wa:=lowB_ok (by decide +kernel)
theorem low_b:LowW wb:=lowB_ok (by decide +kernel)
theorem low_c:LowW wc:=lowB_ok (by decide +kernel)
structure Closed (P:Tre→Prop) (L:List Tre→Prop) (m:Nat):Prop where
 al:AllL P L
 nd:∀ r n us,LowW r→LowW n→L us→P (.node r n us)
 th:∀ r n,LowW r→LowW n→P (.leaf (.thing r n none))
 lt:∀ n,LowW n→P (.leaf (.lett n none))
 ls:P (.leaf (.lett wa (some [wb])))
 el:P (.leaf (.elder [wa]))
 aa:∀ b,P (.leaf (.all [wa] b))
 on:∀ r,LowW r→P (.leaf (.one r wa [wb]))
 ak:∀ p,1≤p.length→p.length≤m→(∀ x∈p,LowW x)→P (.leaf (.ask p))
theorem Closed.nest {P:Tre→Prop} {L:List Tre→Prop} {m:Nat} (c:Closed P L m) {ts:List Tre} (h:L ts):∀ n,L (nestT n ts)
 | 0=>h
 | n + 1=>c.al.of fun t ht=>by
   rw [List.mem_singleton.mp ht]
   refine c.nd _ _ _ ?_ low_a (c.nest h n)
   unfold rN
   split
   · exact low_open
   · exact low_own
theorem Closed.home {P:Tre→Prop} {L:List Tre→Prop} {m:Nat} (c:Closed P L m) {us:List Tre} (h:L us) (n:Nat):L (homeT us n):=c.al.of fun t ht=>by
 obtain ⟨r,hr,rfl⟩:=mem_home ht
 exact c.nd _ _ _ hr low_a h
theorem Closed.rep {P:Tre→Prop} {L:List Tre→Prop} {m:Nat} (c:Closed P L m) {t:Tre} (h:P t) (n:Nat):L (List.replicate n t):=c.al.of fun u hu=>by rw [mem_rep hu]; exact h
theorem Closed.much {P:Tre→Prop} {L:List Tre→Prop} {m:Nat} (c:Closed P L m) (back:∀ ts,L ts→∀ t∈ts,P t) (k o:Nat) (hm:6 + o≤m):L (muchT k o):=by
 have ak:P tAsk:=c.ak _ (by decide) (by show 1≤m; omega) (fun x hx=>by rw [List.mem_singleton.mp hx]; exact low_a)
 have ap:=@AllL.app P L c.al back
 unfold muchT
 repeat' split
 · exact c.nest (c.al.of fun t ht=>by rw [List.mem_singleton.mp ht]; exact ak) _
 · exact ap (c.home (c.rep (c.th _ _ low_open low_b) _) _) (c.rep (c.th _ _ low_own low_c) _)
 · exact c.rep (c.lt _ low_a) _
 · exact ap (c.home (c.home c.al.nil _) _) (c.home c.al.nil _)
 · exact c.home (c.rep ak _) _
 · exact ap (ap (ap (c.al.of fun t ht=>by obtain ⟨b,rfl⟩:=mem_all ht; exact c.aa b) (c.rep (c.on _ low_own) _)) (c.rep c.ls _)) (c.rep ak _)
 · exact c.al.of fun t ht=>by obtain ⟨b,rfl⟩:=mem_all ht; exact c.aa b
 · exact c.al.of fun t ht=>by rw [List.mem_singleton.mp ht]; exact c.nd _ _ _ low_own low_b (c.rep c.el _)
 · exact c.rep (c.on _ low_open) _
 · exact c.al.of fun t ht=>by rw [List.mem_singleton.mp ht]; exact c.nd _ _ _ low_own low_b (c.rep (c.th _ _ low_own low_a) _)
 · refine c.al.of fun t ht=>?_
   rw [List.mem_singleton.mp ht]
   exact c.ak _ (by rw [List.length_replicate]; omega) (by rw [List.length_replicate]; exact hm) (fun x hx=>by rw [mem_rep hx]; exact low_a)
end L2
namespace L2
open PySem PySem.Spec PyProof.Rows Ord
theorem npL_mem:∀ ts:List Tre,NoPartL ts→∀ t∈ts,NoPart t
 | u :: us,h,t,m=>by
   rcases List.mem_cons.mp m with rfl | m
   · exact h.1
   · exact npL_mem us h.2 t m
theorem wkL_mem {W:Str→Prop} {V:List Str→Prop}:∀ ts:List Tre,WkL W V ts→∀ t∈ts,WkT W V t
 | u :: us,h,t,m=>by
   rcases List.mem_cons.mp m with rfl | m
   · exact h.1
   · exact wkL_mem us h.2 t m
theorem rmL_mem:∀ ts:List Tre,RoomL ts→∀ t∈ts,RoomT t
 | u :: us,h,t,m=>by
   rcases List.mem_cons.mp m with rfl | m
   · exact h.1
   · exact rmL_mem us h.2 t m
theorem cNp:Closed NoPart NoPartL 7:=⟨aNp,fun _ _ _ _ _ h=>h,fun _ _ _ _=>trivial,fun _ _=>trivial,trivial,trivial,fun _=>trivial,fun _ _=>trivial,fun _ _ _ _=>trivial⟩
theorem cWk {W:Str→Prop} {V:List Str→Prop} {m:Nat} (hm:1≤m) (hw:∀ x,LowW x→W x) (hv:∀ p,1≤p.length→p.length≤m→(∀ x∈p,LowW x)→V p):Closed (WkT W V) (WkL W V) m:=by
 have one:∀ x,LowW x→V [x]:=fun x hx=>hv _ (Nat.le_refl _) hm fun y hy=>by rw [List.mem_singleton.mp hy]; exact hx
 exact ⟨aWk,fun r n us hr hn h=>⟨hw _ hr,hw _ hn,h⟩,fun r n hr hn=>⟨hw _ hr,hw _ hn,fun p e=>by cases e⟩,fun n hn=>⟨hw _ hn,fun p e=>by cases e⟩,⟨hw _ low_a,fun p e=>by cases e; exact one _ low_b⟩,one _ low_a,fun _=>one _ low_a,fun r hr=>⟨hw _ hr,hw _ low_a,one _ low_b⟩,fun p h1 h2 h3=>hv p h1 h2 h3⟩
theorem fits_T {ts:List Tre} (np:NoPartL ts) (hr:RoomL ts) (h1:stpL ts≤8) (h2:telL ts≤12) (n1:nscL ts≤39) (n2:nthL ts≤80) (n3:nquL ts≤60) (hp:WkL (fun _=>True) (fun p=>p.length≤6) ts):NFits (laysT 0 0 N0 ts).1.1 (laysT 0 0 N0 ts).1.2.1 (laysT 0 0 N0 ts).1.2.2:=by
 have G:=netW_all (W:=fun _=>True) (V:=fun p=>p.length≤6) ⟨trivial,trivial,trivial,trivial,trivial⟩ np hp
 obtain ⟨l1,l2,l3⟩:=many_L (ts:=ts) (home:=0) (here:=0) (N:=N0) np
 have c0:Cnt 0 0 0 N0.1:=⟨fun s e=>by cases e; exact ⟨Nat.le_refl _,Nat.le_refl _⟩,fun i s hn e=>by
  have hl:=(List.getElem?_eq_some_iff.mp e).1
  have:N0.1.length=1:=rfl
  omega⟩
 have C:=cnt_L (ts:=ts) (home:=0) (here:=0) (N:=N0) np hr (by decide) c0 (by omega) (by omega)
 have cs:∀ s∈(laysT 0 0 N0 ts).1.1,s.1.length≤8∧s.2.length≤12:=fun s hs=>by
  obtain ⟨i,hi⟩:=List.getElem?_of_mem hs
  by_cases z:i=0
  · subst z
    have:=C.at_ s hi
    omega
  · exact C.ne i s z hi
 have e1:N0.1.length=1:=rfl
 have e2:N0.2.1.length=0:=rfl
 have e3:N0.2.2.length=0:=rfl
 exact ⟨by omega,by omega,by omega,fun s hs=>(cs s hs).1,fun s hs=>(cs s hs).2,fun q hq=>(G.qu q hq).1⟩
theorem names_T {ts:List Tre} (np:NoPartL ts) (hp:WkL (fun x=>nameB x=true) (fun p=>p≠[]∧∀ x∈p,nameB x=true) ts):NNames (laysT 0 0 N0 ts).1.1 (laysT 0 0 N0 ts).1.2.2:=by
 have G:=netW_all (W:=fun x=>nameB x=true) (V:=fun p=>p≠[]∧∀ x∈p,nameB x=true) ⟨by decide +kernel,by decide +kernel,by decide +kernel,by decide +kernel,by decide +kernel⟩ np hp
 refine ⟨fun x hx=>?_,fun q hq=>(G.qu q hq).1.1⟩
 rcases List.mem_append.mp hx with hx | hx
 · obtain ⟨s,hs,hx⟩:=List.mem_flatMap.mp hx
   rcases List.mem_append.mp hx with hx | hx
   · obtain ⟨p,hp,rfl⟩:=List.mem_map.mp hx
     exact (G.st s hs p hp).1
   · obtain ⟨p,hp,hx⟩:=List.mem_flatMap.mp hx
     simp only [List.mem_cons,List.not_mem_nil,or_false] at hx
     rcases hx with rfl | rfl
     · exact (G.tl s hs p hp).1
     · exact (G.tl s hs p hp).2.1
 · obtain ⟨q,hq,hx⟩:=List.mem_flatMap.mp hx
   exact (G.qu q hq).1.2 x hx
abbrev W1:Str→Prop:=fun x=>x.length≤1000
abbrev V1:List Str→Prop:=fun p=>∀ x∈p,x.length≤1000
theorem words_T {ts:List Tre} (np:NoPartL ts) (hp:WkL W1 V1 ts):∀ x∈wordsN (laysT 0 0 N0 ts).1.1 (laysT 0 0 N0 ts).1.2.2,x.length≤1000:=by
 have G:=netW_all (W:=W1) (V:=V1) ⟨by decide +kernel,by decide +kernel,by decide +kernel,by decide +kernel,by decide +kernel⟩ np hp
 intro x hx
 rcases List.mem_append.mp hx with hx | hx
 · obtain ⟨s,hs,hx⟩:=List.mem_flatMap.mp hx
   rcases List.mem_append.mp hx with hx | hx
   · obtain ⟨p,hp,rfl⟩:=List.mem_map.mp hx
     exact (G.st s hs p hp).1
   · obtain ⟨p,hp,hx⟩:=List.mem_flatMap.mp hx
     simp only [List.mem_cons,List.not_mem_nil,or_false] at hx
     rcases hx with rfl | rfl
     · exact (G.tl s hs p hp).1
     · exact (G.tl s hs p hp).2.1
 · obtain ⟨q,hq,hx⟩:=List.mem_flatMap.mp hx
   exact (G.qu q hq).1 x hx
theorem not_fits {ts:List Tre} (np:NoPartL ts) (h:40≤nscL ts∨81≤nthL ts∨61≤nquL ts∨9≤stpL ts∨13≤telL ts∨(∃ r n us,Tre.node r n us∈ts∧(8≤stpL us∨13≤telL us))∨∃ p,Tre.leaf (.ask p)∈ts∧7≤p.length):¬ NFits (laysT 0 0 N0 ts).1.1 (laysT 0 0 N0 ts).1.2.1 (laysT 0 0 N0 ts).1.2.2:=fun F=>by
 obtain ⟨l1,l2,l3⟩:=many_L (ts:=ts) (home:=0) (here:=0) (N:=N0) np
 have e1:N0.1.length=1:=rfl
 have e2:N0.2.1.length=0:=rfl
 have e3:N0.2.2.length=0:=rfl
 have f1:=F.ls
 have f2:=F.lg
 have f3:=F.lq
 obtain ⟨s,es,a,b⟩:=home_L (ts:=ts) (home:=0) (here:=0) (N:=N0) np (s:=([],[])) rfl
 have ms:=List.mem_of_getElem? es
 have f4:=F.st8 s ms
 have f5:=F.tl12 s ms
 have a:s.1.length=0 + stpL ts:=a
 have b:s.2.length=0 + telL ts:=b
 rcases h with h | h | h | h | h | ⟨r,n,us,hm,h⟩ | ⟨p,hm,h⟩
 · omega
 · omega
 · omega
 · omega
 · omega
 · obtain ⟨s',ms',a',b'⟩:=part_at (home:=0) (here:=0) (N:=N0) np hm
   have f4:=F.st8 s' ms'
   have f5:=F.tl12 s' ms'
   omega
 · obtain ⟨N1,here1,hh,le⟩:=item_at (home:=0) (here:=0) (N:=N0) np hm (by decide)
   rw [layT] at le
   have hq:((here1:Int),(0:Int),p)∈(layA 0 here1 N1 (.ask p)).1.2.2:=by
    show _∈N1.2.2++[_]
    exact List.mem_append_right _ (by simp)
   have:=F.p6 _ (le.qu _ hq)
   have:p.length≤6:=this
   omega
theorem nest_in:∀ (n:Nat) (ts:List Tre),innN n (nestT n ts)=ts
 | 0,_=>rfl
 | n + 1,ts=>by
   show innN n (inn (nestT (n + 1) ts))=ts
   rw [nestT]
   show innN n (nestT n ts++[])=ts
   rw [List.append_nil]; exact nest_in n ts
theorem much_great {k:Nat} {ts:List Tre} (np:NoPartL ts) (h:(muchT k 1).Sublist ts):innN 31 ts≠[]∨¬ NFits (laysT 0 0 N0 ts).1.1 (laysT 0 0 N0 ts).1.2.1 (laysT 0 0 N0 ts).1.2.2:=by
 have s1:=nsc_sub h
 have s2:=nth_sub h
 have s3:=nqu_sub h
 have s4:=stp_sub h
 have s5:=tel_sub h
 have s6:=innN_sub 31 h
 have s7:=h.subset
 unfold muchT at s1 s2 s3 s4 s5 s6 s7
 by_cases z:k=0
 · simp only [if_pos z] at s6
   left
   rw [nest_in] at s6
   intro e
   rw [e] at s6
   cases s6
 right
 refine not_fits np ?_
 simp only [if_neg z] at s1 s2 s3 s4 s5 s7
 by_cases z:k=1
 · have e0:nthL (homeT (List.replicate 12 (.leaf (.thing wOp wb none))) 6)=6 * 13:=sNth.home (fun r=>by rw [nthT,sNth.rep]; rfl) 6
   simp only [if_pos z,sNth.app,sNth.rep,e0] at s2
   simp only [nthT,nthI] at s2
   exact .inr (.inl (by omega))
 simp only [if_neg z] at s1 s2 s3 s4 s5 s7
 by_cases z:k=2
 · simp only [if_pos z,sNsc.rep] at s1
   simp only [nscT,nscI] at s1
   exact .inl (by omega)
 simp only [if_neg z] at s1 s2 s3 s4 s5 s7
 by_cases z:k=3
 · have e0:nscL (homeT [] 12)=12 * 1:=sNsc.home (fun r=>by rw [nscT,nscL]) 12
   have e1:nscL (homeT [] 1)=1 * 1:=sNsc.home (fun r=>by rw [nscT,nscL]) 1
   simp only [if_pos z,sNsc.app,sNsc.home (us:=homeT [] 12) (c:=13) (fun r=>by rw [nscT,e0]),e1] at s1
   exact .inl (by omega)
 simp only [if_neg z] at s1 s2 s3 s4 s5 s7
 by_cases z:k=4
 · have e0:nquL (homeT (List.replicate (60 + 1) tAsk) 1)=1 * 61:=sNqu.home (fun r=>by rw [nquT,sNqu.rep]; rfl) 1
   simp only [if_pos z,e0] at s3
   exact .inr (.inr (.inl (by omega)))
 simp only [if_neg z] at s1 s2 s3 s4 s5 s7
 by_cases z:k=5
 · simp only [if_pos z,sNqu.app,sNqu.rep,sNqu.all (c:=1) (fun b=>by rw [nquT]; rfl)] at s3
   simp only [nquT,nquI,nquO] at s3
   exact .inr (.inr (.inl (by omega)))
 simp only [if_neg z] at s1 s2 s3 s4 s5 s7
 by_cases z:k=6
 · simp only [if_pos z,sStp.all (c:=1) (fun b=>by rw [stpT]; rfl)] at s4
   exact .inr (.inr (.inr (.inl (by omega))))
 simp only [if_neg z] at s1 s2 s3 s4 s5 s7
 by_cases z:k=7
 · simp only [if_pos z] at s7
   exact .inr (.inr (.inr (.inr (.inr (.inl ⟨_,_,_,s7 (List.mem_singleton.mpr rfl),.inl (by rw [sStp.rep]; exact Nat.le_refl _)⟩)))))
 simp only [if_neg z] at s1 s2 s3 s4 s5 s7
 by_cases z:k=8
 · simp only [if_pos z,sTel.rep] at s5
   simp only [telT,telI] at s5
   exact .inr (.inr (.inr (.inr (.inl (by omega)))))
 simp only [if_neg z] at s1 s2 s3 s4 s5 s7
 by_cases z:k=9
 · simp only [if_pos z] at s7
   exact .inr (.inr (.inr (.inr (.inr (.inl ⟨_,_,_,s7 (List.mem_singleton.mpr rfl),.inr (by rw [sTel.rep]; exact Nat.le_refl _)⟩)))))
 simp only [if_neg z] at s1 s2 s3 s4 s5 s7
 exact .inr (.inr (.inr (.inr (.inr (.inr ⟨_,s7 (List.mem_singleton.mpr rfl),by rw [List.length_replicate]; exact Nat.le_refl _⟩)))))
theorem dep_nest (ts:List Tre) (h:depL ts=0):∀ n,depL (nestT n ts)=n
 | 0=>h
 | n + 1=>by rw [nestT,depL,dep,dep_nest ts h n,depL]; omega
theorem depL_of {m:Nat}:∀ {ts:List Tre},(∀ t∈ts,dep t≤m)→depL ts≤m
 | [],_=>by rw [depL]; exact Nat.zero_le _
 | t :: ts,h=>by
   rw [depL]
   have:=h t (by simp)
   have:=depL_of (ts:=ts) fun u hu=>h u (List.mem_cons_of_mem _ hu)
   omega
theorem dep_home {us:List Tre} {n m:Nat} (h:depL us + 1≤m):depL (homeT us n)≤m:=depL_of fun t ht=>by
 obtain ⟨r,_,rfl⟩:=mem_home ht
 rw [dep]; exact h
theorem dep_rep {it:Itm} {n:Nat}:depL (List.replicate n (.leaf it))=0:=Nat.le_zero.mp (depL_of fun t ht=>by rw [mem_rep ht,dep]; exact Nat.le_refl _)
theorem dep_allT {n:Nat}:depL (allT n)=0:=Nat.le_zero.mp (depL_of fun t ht=>by obtain ⟨b,rfl⟩:=mem_all ht; rw [dep]; exact Nat.le_refl _)
theorem rm_rep {it:Itm} {n:Nat}:RoomL (List.replicate n (.leaf it)):=aRm.of fun t ht=>by rw [mem_rep ht]; trivial
theorem rm_all {n:Nat}:RoomL (allT n):=aRm.of fun t ht=>by obtain ⟨b,rfl⟩:=mem_all ht; trivial
theorem rm_home {us:List Tre} {n:Nat} (h:RoomT (.node wa wa us)):RoomL (homeT us n):=aRm.of fun t ht=>by
 obtain ⟨r,_,rfl⟩:=mem_home ht
 exact h
structure Fit (ts:List Tre):Prop where
 rm:RoomL ts
 st:stpL ts≤8
 tl:telL ts≤12
 n1:nscL ts≤39
 n2:nthL ts≤80
 n3:nquL ts≤60
 dp:depL ts≤30
theorem sums_nest {F:Tre→Nat} {L:List Tre→Nat} (h:SumL F L) {c:Nat} (hc:∀ r us,F (.node r wa us)=L us + c) (ts:List Tre):∀ n,L (nestT n ts)=L ts + n * c
 | 0=>by rw [nestT]; omega
 | n + 1=>by rw [nestT,h.one,hc,sums_nest h hc ts n,Nat.succ_mul]; omega
theorem rm_nest:∀ n,RoomL (nestT n [tAsk])∧stpL (nestT n [tAsk])=0∧telL (nestT n [tAsk])≤1
 | 0=>⟨⟨trivial,trivial⟩,rfl,Nat.zero_le _⟩
 | n + 1=>by
   obtain ⟨a,b,c⟩:=rm_nest n
   exact ⟨⟨⟨by omega,by omega,a⟩,trivial⟩,rfl,Nat.le_refl _⟩
theorem rmL_ap {ts us:List Tre} (a:RoomL ts) (b:RoomL us):RoomL (ts++us):=aRm.app rmL_mem a b
theorem much_fit (k:Nat):Fit (muchT k 0):=by
 unfold muchT
 by_cases z:k=0
 · simp only [if_pos z,Nat.add_zero]
   obtain ⟨a,b,c⟩:=rm_nest 30
   have e1:=sums_nest sNsc (c:=1) (fun r us=>by rw [nscT]) [tAsk] 30
   have e2:=sums_nest sNth (c:=1) (fun r us=>by rw [nthT]) [tAsk] 30
   have e3:=sums_nest sNqu (c:=0) (fun r us=>by rw [nquT]; rfl) [tAsk] 30
   have t1:nscL [tAsk]=0:=rfl
   have t2:nthL [tAsk]=0:=rfl
   have t3:nquL [tAsk]=1:=rfl
   exact ⟨a,by omega,by omega,by omega,by omega,by omega,Nat.le_of_eq (dep_nest [tAsk] (by decide) 30)⟩
 simp only [if_neg z]
 by_cases z:k=1
 · simp only [if_pos z]
   refine ⟨rmL_ap (rm_home ⟨?_,?_,rm_rep⟩) rm_rep,?_,?_,?_,?_,?_,?_⟩
   · rw [sStp.rep]; decide
   · rw [sTel.rep]; decide
   · rw [sStp.app,sStp.rep,sStp.home (us:=List.replicate 12 (.leaf (.thing wOp wb none))) (c:=0) fun r=>rfl]; decide
   · rw [sTel.app,sTel.rep,sTel.home (us:=List.replicate 12 (.leaf (.thing wOp wb none))) (c:=1) fun r=>rfl]; decide
   · rw [sNsc.app,sNsc.rep,sNsc.home (us:=List.replicate 12 (.leaf (.thing wOp wb none))) (c:=1) fun r=>by rw [nscT,sNsc.rep]; rfl]; decide
   · rw [sNth.app,sNth.rep,sNth.home (us:=List.replicate 12 (.leaf (.thing wOp wb none))) (c:=13) fun r=>by rw [nthT,sNth.rep]; rfl]; decide
   · rw [sNqu.app,sNqu.rep,sNqu.home (us:=List.replicate 12 (.leaf (.thing wOp wb none))) (c:=0) fun r=>by rw [nquT,sNqu.rep]; rfl]; decide
   · rw [depL_app]
     have:=dep_home (us:=List.replicate 12 (.leaf (.thing wOp wb none))) (n:=6) (m:=1) (by rw [dep_rep]; decide)
     have:depL (List.replicate (2 + 0) (Tre.leaf (.thing wOw wc none)))=0:=dep_rep
     omega
 simp only [if_neg z]
 by_cases z:k=2
 · simp only [if_pos z]
   exact ⟨rm_rep,by rw [sStp.rep]; decide,by rw [sTel.rep]; decide,by rw [sNsc.rep]; decide,by rw [sNth.rep]; decide,by rw [sNqu.rep]; decide,by rw [dep_rep]; decide⟩
 simp only [if_neg z]
 by_cases z:k=3
 · simp only [if_pos z]
   have r0:RoomL (homeT [] 12):=rm_home ⟨by decide,by decide,trivial⟩
   have i1:stpL (homeT [] 12)=12 * 0:=sStp.home (fun r=>rfl) 12
   have i2:telL (homeT [] 12)=12 * 1:=sTel.home (fun r=>rfl) 12
   have i3:nscL (homeT [] 12)=12 * 1:=sNsc.home (fun r=>rfl) 12
   have i4:nthL (homeT [] 12)=12 * 1:=sNth.home (fun r=>rfl) 12
   have i5:nquL (homeT [] 12)=12 * 0:=sNqu.home (fun r=>rfl) 12
   have z0:homeT [] 0=[]:=rfl
   rw [z0,List.append_nil]
   refine ⟨rm_home ⟨by omega,by omega,r0⟩,?_,?_,?_,?_,?_,?_⟩
   · rw [sStp.home (c:=0) fun r=>rfl]; decide
   · rw [sTel.home (c:=1) fun r=>rfl]; decide
   · rw [sNsc.home (c:=13) fun r=>by rw [nscT,i3]]; decide
   · rw [sNth.home (c:=13) fun r=>by rw [nthT,i4]]; decide
   · rw [sNqu.home (c:=0) fun r=>by rw [nquT,i5]]; decide
   · have:=dep_home (us:=[]) (n:=12) (m:=1) (by decide)
     exact Nat.le_trans (dep_home (us:=homeT [] 12) (n:=3) (m:=2) (by omega)) (by decide)
 simp only [if_neg z]
 by_cases z:k=4
 · simp only [if_pos z]
   refine ⟨rm_home ⟨by rw [sStp.rep]; decide,by rw [sTel.rep]; decide,rm_rep⟩,?_,?_,?_,?_,?_,?_⟩
   · rw [sStp.home (us:=List.replicate (60 + 0) tAsk) (c:=0) fun r=>rfl]; decide
   · rw [sTel.home (us:=List.replicate (60 + 0) tAsk) (c:=1) fun r=>rfl]; decide
   · rw [sNsc.home (us:=List.replicate (60 + 0) tAsk) (c:=1) fun r=>by rw [nscT,sNsc.rep]; rfl]; decide
   · rw [sNth.home (us:=List.replicate (60 + 0) tAsk) (c:=1) fun r=>by rw [nthT,sNth.rep]; rfl]; decide
   · rw [sNqu.home (us:=List.replicate (60 + 0) tAsk) (c:=60) fun r=>by rw [nquT,sNqu.rep]; rfl]; decide
   · exact Nat.le_trans (dep_home (m:=1) (by rw [dep_rep]; decide)) (by decide)
 simp only [if_neg z]
 by_cases z:k=5
 · simp only [if_pos z]
   refine ⟨rmL_ap (rmL_ap (rmL_ap rm_all rm_rep) rm_rep) rm_rep,?_,?_,?_,?_,?_,?_⟩
   · rw [sStp.app,sStp.app,sStp.app,sStp.rep,sStp.rep,sStp.rep,sStp.all (c:=1) fun b=>rfl]; decide
   · rw [sTel.app,sTel.app,sTel.app,sTel.rep,sTel.rep,sTel.rep,sTel.all (c:=0) fun b=>rfl]; decide
   · rw [sNsc.app,sNsc.app,sNsc.app,sNsc.rep,sNsc.rep,sNsc.rep,sNsc.all (c:=0) fun b=>rfl]; decide
   · rw [sNth.app,sNth.app,sNth.app,sNth.rep,sNth.rep,sNth.rep,sNth.all (c:=0) fun b=>rfl]; decide
   · rw [sNqu.app,sNqu.app,sNqu.app,sNqu.rep,sNqu.rep,sNqu.rep,sNqu.all (c:=1) fun b=>rfl]; decide
   · rw [depL_app,depL_app,depL_app,dep_rep,dep_rep,dep_rep,dep_allT]; decide
 simp only [if_neg z]
 by_cases z:k=6
 · simp only [if_pos z]
   exact ⟨rm_all,by rw [sStp.all (c:=1) fun b=>rfl]; decide,by rw [sTel.all (c:=0) fun b=>rfl]; decide,by rw [sNsc.all (c:=0) fun b=>rfl]; decide,by rw [sNth.all (c:=0) fun b=>rfl]; decide,by rw [sNqu.all (c:=1) fun b=>rfl]; decide,by rw [dep_allT]; decide⟩
 simp only [if_neg z]
 by_cases z:k=7
 · simp only [if_pos z]
   refine ⟨⟨⟨by rw [sStp.rep]; decide,by rw [sTel.rep]; decide,rm_rep⟩,trivial⟩,?_,?_,?_,?_,?_,?_⟩
   · rw [sStp.one]; decide
   · rw [sTel.one]; decide
   · rw [sNsc.one,nscT,sNsc.rep]; decide
   · rw [sNth.one,nthT,sNth.rep]; decide
   · rw [sNqu.one,nquT,sNqu.rep]; decide
   · rw [depL,dep,dep_rep,depL]; decide
 simp only [if_neg z]
 by_cases z:k=8
 · simp only [if_pos z]
   exact ⟨rm_rep,by rw [sStp.rep]; decide,by rw [sTel.rep]; decide,by rw [sNsc.rep]; decide,by rw [sNth.rep]; decide,by rw [sNqu.rep]; decide,by rw [dep_rep]; decide⟩
 simp only [if_neg z]
 by_cases z:k=9
 · simp only [if_pos z]
   refine ⟨⟨⟨by rw [sStp.rep]; decide,by rw [sTel.rep]; decide,rm_rep⟩,trivial⟩,?_,?_,?_,?_,?_,?_⟩
   · rw [sStp.one]; decide
   · rw [sTel.one]; decide
   · rw [sNsc.one,nscT,sNsc.rep]; decide
   · rw [sNth.one,nthT,sNth.rep]; decide
   · rw [sNqu.one,nquT,sNqu.rep]; decide
   · rw [depL,dep,dep_rep,depL]; decide
 simp only [if_neg z]
 exact ⟨⟨trivial,trivial⟩,by decide,by decide,by decide,by decide,by decide,by decide⟩
theorem much_sz (k:Nat) {o:Nat} (ho:o≤1):szL (muchT k o)≤81:=by
 unfold muchT
 by_cases z:k=0
 · simp only [if_pos z]
   have e1:=sums_nest sSz (c:=1) (fun r us=>by rw [szT]) [tAsk] (30 + o)
   have t1:szL [tAsk]=1:=rfl
   omega
 simp only [if_neg z]
 by_cases z:k=1
 · simp only [if_pos z]
   rw [sSz.app,sSz.rep,sSz.home (us:=List.replicate 12 (.leaf (.thing wOp wb none))) (c:=13) fun r=>by rw [szT,sSz.rep]; rfl]
   show _ + (2 + o) * 1≤81
   omega
 simp only [if_neg z]
 by_cases z:k=2
 · simp only [if_pos z]
   rw [sSz.rep]
   show (39 + o) * 1≤81
   omega
 simp only [if_neg z]
 by_cases z:k=3
 · simp only [if_pos z]
   have i0:szL (homeT [] 12)=12 * 1:=sSz.home (fun r=>rfl) 12
   rw [sSz.app,sSz.home (us:=homeT [] 12) (c:=13) fun r=>by rw [szT,i0],sSz.home (us:=[]) (c:=1) fun r=>rfl]
   omega
 simp only [if_neg z]
 by_cases z:k=4
 · simp only [if_pos z]
   rw [sSz.home (us:=List.replicate (60 + o) tAsk) (c:=61 + o) fun r=>by rw [szT,sSz.rep]; show (60 + o) * 1 + 1=_; omega]
   omega
 simp only [if_neg z]
 by_cases z:k=5
 · simp only [if_pos z]
   rw [sSz.app,sSz.app,sSz.app,sSz.rep,sSz.rep,sSz.rep,sSz.all (c:=1) fun b=>rfl]
   show _ + (22 + o) * 1≤81
   have:8 * 1 + 10 * szT (.leaf (.one wOw wa [wb])) + 20 * szT (.leaf (.lett wa (some [wb])))=38:=rfl
   omega
 simp only [if_neg z]
 by_cases z:k=6
 · simp only [if_pos z]
   rw [sSz.all (c:=1) fun b=>rfl]
   omega
 simp only [if_neg z]
 by_cases z:k=7
 · simp only [if_pos z]
   rw [sSz.one,szT,sSz.rep]
   show (7 + o) * 1 + 1≤81
   omega
 simp only [if_neg z]
 by_cases z:k=8
 · simp only [if_pos z]
   rw [sSz.rep]
   show (12 + o) * 1≤81
   omega
 simp only [if_neg z]
 by_cases z:k=9
 · simp only [if_pos z]
   rw [sSz.one,szT,sSz.rep]
   show (12 + o) * 1 + 1≤81
   omega
 simp only [if_neg z]
 show 1≤81
 decide
end L2
namespace L2
open PySem PySem.Spec PyProof.Rows Ord
def PlT (t:Tre):Prop:=∃ n,LowW n∧((∃ r,LowW r∧t=.leaf (.thing r n none))∨t=.leaf (.lett n none)∨t=.leaf (.ask [n,wa])∨t=.node wOp n [.leaf (.ask [wb])])
def BadP (p:List Str):Prop:=p.length≤6∧(∀ x∈p,x.length≤1000)∧(p=[]∨∃ x∈p,nameB x=false)
def BadX (x:Str):Prop:=x.length≤1000∧nameB x=false
def BadT (t:Tre):Prop:=(∃ x,BadX x∧(t=.node wOp x []∨t=.leaf (.thing wOw x none)∨t=.leaf (.lett x none)∨t=.leaf (.one wOw x [wa]))) ∨
 ∃ p,BadP p∧(t=.leaf (.elder p)∨t=.leaf (.all p true)∨t=.leaf (.thing wOw wa (some p))∨t=.node wOw wa [.leaf (.lett wb (some p))])
structure SmT (t:Tre):Prop where
 np:NoPart t
 sz:szT t≤2
 n1:nscT t≤2
 n2:nthT t≤2
 n3:nquT t≤2
 st:stpT t≤1
 tl:telT t≤1
 rm:RoomT t
 dp:dep t≤1
 wk:WkT (fun _=>True) (fun p=>p.length≤6) t
 wl:WkT W1 V1 t
theorem low1000 {x:Str} (h:LowW x):x.length≤1000:=Nat.le_trans h.2.1 (by decide)
theorem one1000 {x:Str} (h:LowW x):V1 [x]:=fun y hy=>by rw [List.mem_singleton.mp hy]; exact low1000 h
theorem PlT.sm {t:Tre} (h:PlT t):SmT t:=by
 obtain ⟨n,hn,⟨r,hr,rfl⟩ | rfl | rfl | rfl⟩:=h
 · exact ⟨trivial,Nat.le_of_ble_eq_true rfl,Nat.le_of_ble_eq_true rfl,Nat.le_of_ble_eq_true rfl,Nat.le_of_ble_eq_true rfl,Nat.le_of_ble_eq_true rfl,Nat.le_of_ble_eq_true rfl,trivial,Nat.le_of_ble_eq_true rfl,⟨trivial,trivial,(fun p e=>by cases e)⟩,⟨low1000 hr,low1000 hn,(fun p e=>by cases e)⟩⟩
 · exact ⟨trivial,Nat.le_of_ble_eq_true rfl,Nat.le_of_ble_eq_true rfl,Nat.le_of_ble_eq_true rfl,Nat.le_of_ble_eq_true rfl,Nat.le_of_ble_eq_true rfl,Nat.le_of_ble_eq_true rfl,trivial,Nat.le_of_ble_eq_true rfl,⟨trivial,fun p e=>by cases e⟩,⟨low1000 hn,fun p e=>by cases e⟩⟩
 · exact ⟨trivial,Nat.le_of_ble_eq_true rfl,Nat.le_of_ble_eq_true rfl,Nat.le_of_ble_eq_true rfl,Nat.le_of_ble_eq_true rfl,Nat.le_of_ble_eq_true rfl,Nat.le_of_ble_eq_true rfl,trivial,Nat.le_of_ble_eq_true rfl,(by show [n,wa].length≤6; exact Nat.le_of_ble_eq_true rfl),fun x hx=>by
    simp only [List.mem_cons,List.not_mem_nil,or_false] at hx
    rcases hx with rfl | rfl
    · exact low1000 hn
    · exact low1000 low_a⟩
 · exact ⟨⟨trivial,trivial⟩,Nat.le_of_ble_eq_true rfl,Nat.le_of_ble_eq_true rfl,Nat.le_of_ble_eq_true rfl,Nat.le_of_ble_eq_true rfl,Nat.le_of_ble_eq_true rfl,Nat.le_of_ble_eq_true rfl,⟨Nat.le_of_ble_eq_true rfl,Nat.le_of_ble_eq_true rfl,trivial,trivial⟩,Nat.le_of_ble_eq_true rfl,⟨trivial,trivial,(by show [wb].length≤6; exact Nat.le_of_ble_eq_true rfl),trivial⟩,⟨low1000 low_open,low1000 hn,one1000 low_b,trivial⟩⟩
theorem BadT.sm {t:Tre} (h:BadT t):SmT t:=by
 rcases h with ⟨x,⟨hx,_⟩,rfl | rfl | rfl | rfl⟩ | ⟨p,⟨h6,hl,_⟩,rfl | rfl | rfl | rfl⟩
 · exact ⟨trivial,Nat.le_of_ble_eq_true rfl,Nat.le_of_ble_eq_true rfl,Nat.le_of_ble_eq_true rfl,Nat.le_of_ble_eq_true rfl,Nat.le_of_ble_eq_true rfl,Nat.le_of_ble_eq_true rfl,⟨Nat.le_of_ble_eq_true rfl,Nat.le_of_ble_eq_true rfl,trivial⟩,Nat.le_of_ble_eq_true rfl,⟨trivial,trivial,trivial⟩,⟨low1000 low_open,hx,trivial⟩⟩
 · exact ⟨trivial,Nat.le_of_ble_eq_true rfl,Nat.le_of_ble_eq_true rfl,Nat.le_of_ble_eq_true rfl,Nat.le_of_ble_eq_true rfl,Nat.le_of_ble_eq_true rfl,Nat.le_of_ble_eq_true rfl,trivial,Nat.le_of_ble_eq_true rfl,⟨trivial,trivial,fun p e=>by cases e⟩,⟨low1000 low_own,hx,fun p e=>by cases e⟩⟩
 · exact ⟨trivial,Nat.le_of_ble_eq_true rfl,Nat.le_of_ble_eq_true rfl,Nat.le_of_ble_eq_true rfl,Nat.le_of_ble_eq_true rfl,Nat.le_of_ble_eq_true rfl,Nat.le_of_ble_eq_true rfl,trivial,Nat.le_of_ble_eq_true rfl,⟨trivial,fun p e=>by cases e⟩,⟨hx,fun p e=>by cases e⟩⟩
 · exact ⟨trivial,Nat.le_of_ble_eq_true rfl,Nat.le_of_ble_eq_true rfl,Nat.le_of_ble_eq_true rfl,Nat.le_of_ble_eq_true rfl,Nat.le_of_ble_eq_true rfl,Nat.le_of_ble_eq_true rfl,trivial,Nat.le_of_ble_eq_true rfl,⟨trivial,trivial,(by show [wa].length≤6; exact Nat.le_of_ble_eq_true rfl)⟩,⟨low1000 low_own,hx,one1000 low_a⟩⟩
 · exact ⟨trivial,Nat.le_of_ble_eq_true rfl,Nat.le_of_ble_eq_true rfl,Nat.le_of_ble_eq_true rfl,Nat.le_of_ble_eq_true rfl,Nat.le_of_ble_eq_true rfl,Nat.le_of_ble_eq_true rfl,trivial,Nat.le_of_ble_eq_true rfl,h6,hl⟩
 · exact ⟨trivial,Nat.le_of_ble_eq_true rfl,Nat.le_of_ble_eq_true rfl,Nat.le_of_ble_eq_true rfl,Nat.le_of_ble_eq_true rfl,Nat.le_of_ble_eq_true rfl,Nat.le_of_ble_eq_true rfl,trivial,Nat.le_of_ble_eq_true rfl,h6,hl⟩
 · exact ⟨trivial,Nat.le_of_ble_eq_true rfl,Nat.le_of_ble_eq_true rfl,Nat.le_of_ble_eq_true rfl,Nat.le_of_ble_eq_true rfl,Nat.le_of_ble_eq_true rfl,Nat.le_of_ble_eq_true rfl,trivial,Nat.le_of_ble_eq_true rfl,⟨trivial,trivial,fun q e=>by cases e; exact h6⟩,⟨low1000 low_own,low1000 low_a,fun q e=>by cases e; exact hl⟩⟩
 · exact ⟨⟨trivial,trivial⟩,Nat.le_of_ble_eq_true rfl,Nat.le_of_ble_eq_true rfl,Nat.le_of_ble_eq_true rfl,Nat.le_of_ble_eq_true rfl,Nat.le_of_ble_eq_true rfl,Nat.le_of_ble_eq_true rfl,⟨Nat.le_of_ble_eq_true rfl,Nat.le_of_ble_eq_true rfl,trivial,trivial⟩,Nat.le_of_ble_eq_true rfl,⟨trivial,trivial,⟨trivial,fun q e=>by cases e; exact h6⟩,trivial⟩,⟨low1000 low_own,low1000 low_a,⟨low1000 low_b,fun q e=>by cases e; exact hl⟩,trivial⟩⟩
theorem SumL.le {F:Tre→Nat} {L:List Tre→Nat} (h:SumL F L) {c:Nat}:∀ {ts:List Tre},(∀ t∈ts,F t≤c)→L ts≤ts.length * c
 | [],_=>by rw [h.nil]; exact Nat.zero_le _
 | t :: ts,g=>by
   have a:=g t (by simp)
   have b:=h.le (ts:=ts) fun u hu=>g u (List.mem_cons_of_mem _ hu)
   rw [h.cons,List.length_cons,Nat.succ_mul]; omega
theorem small_all {ts:List Tre} (h:∀ t∈ts,SmT t) (hl:ts.length≤5):NoPartL ts∧szL ts≤10∧WkL W1 V1 ts∧innN 31 ts=[]∧NFits (laysT 0 0 N0 ts).1.1 (laysT 0 0 N0 ts).1.2.1 (laysT 0 0 N0 ts).1.2.2:=by
 have np:NoPartL ts:=aNp.of fun t ht=>(h t ht).np
 have a0:=sSz.le fun t ht=>(h t ht).sz
 have a1:=sNsc.le fun t ht=>(h t ht).n1
 have a2:=sNth.le fun t ht=>(h t ht).n2
 have a3:=sNqu.le fun t ht=>(h t ht).n3
 have a4:=sStp.le fun t ht=>(h t ht).st
 have a5:=sTel.le fun t ht=>(h t ht).tl
 have dp:=depL_of fun t ht=>(h t ht).dp
 exact ⟨np,by omega,aWk.of fun t ht=>(h t ht).wl,innN_of_dep 31 ts (by omega),fits_T np (aRm.of fun t ht=>(h t ht).rm) (by omega) (by omega) (by omega) (by omega) (by omega) (aWk.of fun t ht=>(h t ht).wk)⟩
abbrev WN:Str→Prop:=fun x=>nameB x=true
abbrev VN:List Str→Prop:=fun p=>p≠[]∧∀ x∈p,nameB x=true
theorem vn_of {p:List Str} (h1:1≤p.length) (h:∀ x∈p,LowW x):VN p:=⟨(fun z=>by rw [z] at h1; cases h1),fun x hx=>(h x hx).name⟩
theorem PlT.nm {t:Tre} (h:PlT t):WkT WN VN t:=by
 obtain ⟨n,hn,⟨r,hr,rfl⟩ | rfl | rfl | rfl⟩:=h
 · exact ⟨hr.name,hn.name,fun p e=>by cases e⟩
 · exact ⟨hn.name,fun p e=>by cases e⟩
 · refine vn_of (Nat.le_of_ble_eq_true rfl) fun x hx=>?_
   simp only [List.mem_cons,List.not_mem_nil,or_false] at hx
   rcases hx with rfl | rfl
   · exact hn
   · exact low_a
 · exact ⟨low_open.name,hn.name,vn_of (Nat.le_of_ble_eq_true rfl) fun x hx=>by rw [List.mem_singleton.mp hx]; exact low_b,trivial⟩
theorem plain_names {ts:List Tre} (h:∀ t∈ts,PlT t):NNames (laysT 0 0 N0 ts).1.1 (laysT 0 0 N0 ts).1.2.2:=names_T (aNp.of fun t ht=>(h t ht).sm.np) (aWk.of fun t ht=>(h t ht).nm)
theorem much_names (k:Nat):NNames (laysT 0 0 N0 (muchT k 0)).1.1 (laysT 0 0 N0 (muchT k 0)).1.2.2:=names_T (cNp.much npL_mem k 0 (by decide)) ((cWk (W:=WN) (V:=VN) (m:=7) (by decide) (fun x hx=>hx.name) fun p h1 _ h3=>vn_of h1 h3).much wkL_mem k 0 (by decide))
theorem much_made (k:Nat):innN 31 (muchT k 0)=[]∧NFits (laysT 0 0 N0 (muchT k 0)).1.1 (laysT 0 0 N0 (muchT k 0)).1.2.1 (laysT 0 0 N0 (muchT k 0)).1.2.2:=by
 have F:=much_fit k
 exact ⟨innN_of_dep 31 _ (by have:=F.dp; omega),fits_T (cNp.much npL_mem k 0 (by decide)) F.rm F.st F.tl F.n1 F.n2 F.n3 ((cWk (W:=fun _=>True) (V:=fun p=>p.length≤6) (m:=6) (by decide) (fun _ _=>trivial) fun p _ h2 _=>h2).much wkL_mem k 0 (by decide))⟩
theorem much_words (k:Nat) {o:Nat} (ho:o≤1):WkL W1 V1 (muchT k o):=(cWk (W:=W1) (V:=V1) (m:=7) (by decide) (fun x hx=>low1000 hx) fun p _ _ h3 x hx=>low1000 (h3 x hx)).much wkL_mem k o (by omega)
theorem much_np (k:Nat) {o:Nat} (ho:o≤1):NoPartL (muchT k o):=cNp.much npL_mem k o (by omega)
theorem bad_names {ts:List Tre} (np:NoPartL ts) {t:Tre} (hm:t∈ts) (hb:BadT t):¬ NNames (laysT 0 0 N0 ts).1.1 (laysT 0 0 N0 ts).1.2.2:=fun n=>by
 obtain ⟨N1,here1,hh,le⟩:=item_at (home:=0) (here:=0) (N:=N0) np hm (by decide)
 have tel:∀ {s:Sco} {p:Tlg},s∈(layT 0 here1 N1 t).1.1→p∈s.2→nameB p.2.1=true:=fun {s p} hs hp=>by
  obtain ⟨i,hi⟩:=List.getElem?_of_mem hs
  obtain ⟨s',e',_,_,_,d'⟩:=le.sc _ _ hi
  refine n.1 _ (List.mem_append_left _ (List.mem_flatMap.mpr ⟨s',List.mem_of_getElem? e',List.mem_append_right _ (List.mem_flatMap.mpr ⟨p,d' p hp,by simp⟩)⟩))
 have que:∀ {q:Qu},q∈(layT 0 here1 N1 t).1.2.2→VN q.2.2:=fun {q} hq=>⟨n.2 q (le.qu q hq),fun x hx=>n.1 x (List.mem_append_right _ (List.mem_flatMap.mpr ⟨q,le.qu q hq,hx⟩))⟩
 have vbad:∀ {p:List Str},BadP p→¬ VN p:=fun hp z=>by
  rcases hp.2.2 with rfl | ⟨x,hx,hx2⟩
  · exact z.1 rfl
  · rw [z.2 x hx] at hx2; cases hx2
 have xbad:∀ {x:Str},BadX x→¬ nameB x=true:=fun hx z=>by have:=hx.2; rw [z] at this; cases this
 rcases hb with ⟨x,hx,rfl | rfl | rfl | rfl⟩ | ⟨p,hp,rfl | rfl | rfl | rfl⟩
 · rw [layT,laysT] at tel
   obtain ⟨s,hs,hp⟩:=tell_in (ss:=N1.1++[([(("up" : Str),("to" : Str),(here1:Int))],[])]) (i:=0) (p:=(wOp,x,("thing" : Str),(N1.2.1.length:Int))) (by rw [List.length_append]; omega)
   exact xbad hx (tel hs hp)
 · rw [layT] at tel
   obtain ⟨s,hs,hp⟩:=tell_in (ss:=N1.1) (p:=(wOw,x,("thing" : Str),(N1.2.1.length:Int))) hh
   exact xbad hx (tel hs hp)
 · rw [layT] at tel
   exact xbad hx (tel (s:=([(("up" : Str),("to" : Str),(here1:Int))],[(("let" : Str),x,("thing" : Str),(N1.2.1.length:Int))])) (p:=(("let" : Str),x,("thing" : Str),(N1.2.1.length:Int))) (List.mem_append_right _ (List.mem_singleton.mpr rfl)) (List.mem_singleton.mpr rfl))
 · rw [layT] at tel
   obtain ⟨s,hs,hp⟩:=tell_in (ss:=N1.1) (p:=(wOw,x,("by" : Str),(N1.2.2.length:Int))) hh
   exact xbad hx (tel hs hp)
 · rw [layT] at que
   exact vbad hp (que (q:=(((0:Nat):Int),2,p)) (List.mem_append_right _ (List.mem_singleton.mpr rfl)))
 · rw [layT] at que
   exact vbad hp (que (q:=(((0:Nat):Int),2,p)) (List.mem_append_right _ (List.mem_singleton.mpr rfl)))
 · rw [layT] at que
   exact vbad hp (que (q:=((here1:Int),0,p)) (List.mem_append_right _ (List.mem_singleton.mpr rfl)))
 · rw [layT,laysT,laysT,layT] at que
   exact vbad hp (que (q:=((N1.1.length:Int),0,p)) (List.mem_append_right _ (List.mem_singleton.mpr rfl)))
mutual
theorem TreH.toF {K:PySem.W.Frag} {H:Hp} {a:Addr} {t:Tre} (h:TreH K H a t):TreF K (fun x=>H x≠none) H a t:=by
 cases h with
 | leaf np h=>exact .leaf np h
 | node h hl t=>exact .node h hl (by rw [hl]; intro z; cases z) (TresH.toF t)
theorem TresH.toF {K:PySem.W.Frag} {H:Hp} {as:List Addr} {ts:List Tre} (h:TresH K H as ts):TresF K (fun x=>H x≠none) H as ts:=by
 cases h with
 | nil=>exact .nil
 | cons h t=>exact .cons (TreH.toF h) (TresH.toF t)
end
theorem comp_tre {K:PySem.W.Frag} {k:Nat} {caps:List Nat} {g:TG} {te:TE} {σ:St} {H1:Hp} {Q:Addr→Hp→Prop} {lo:Int} {n:Nat} (hn:n≤1000) (f:Nat→List Tre) (h0:f 0=[]) (t:Nat→Tre) (hf:∀ i,f (i + 1)=f i++[t i])
 (hs:∀ (i:Nat) (H2:Hp) (R:VK),i < n→Same H1 H2→(∀ a H3,Same H2 H3→TreF K (fun x=>H1 x≠none∨H2 x=none) H3 a (t i)→R (.ref a) H3)→g (.int (lo + i)) (compSt k caps σ) H2 fun σ4 H4=>te σ4 H4 R)
 (hd:∀ (D:Addr) (as:List Addr) (H2:Hp),Same H1 H2→H1 D=none→H2 D=some (.lst (as.map V.ref))→TresH K H2 as (f n)→Q D H2) :
 ∀ D,H1 D=none→∃ W:Nat→Nat→List V→Hp→Prop,(∃ m,W 0 m [] (upd H1 D (.lst [])))∧∀ i m ys H2,W i m ys H2 →
  ((Itr lo n).stop i H2∧Q D H2)∨((Itr lo n).go i H2∧∀ x H3,(Itr lo n).yld i H2 x H3→g x (compSt k caps σ) H3 fun σ4 H4=>tYes σ4 H4 fun b H5 =>
   if b=true then te σ4 H5 fun y H6=>H6 D=some (.lst ys)∧ys.length < sizeLine∧∃ m',m' < m∧W (i + 1) m' (ys++[y]) (upd H6 D (.lst (ys++[y]))) else ∃ m',m' < m∧W (i + 1) m' ys H5) :=
 comp_rangeI (fun D i ys H'=>∃ as:List Addr,ys=as.map V.ref∧as.length=i∧Same H1 H'∧H' D=some (.lst ys)∧TresF K (fun x=>x≠D) H' as (f i)) (fun D hD=>⟨[],rfl,rfl,same_new hD,upd_same,by rw [h0]; exact .nil⟩)
  (fun D i ys H2 R hD hi hv k=>by
   obtain ⟨as,rfl,hl,s2,eD,hT⟩:=hv
   refine hs i H2 _ hi s2 fun a H3 s3 ht=>?_
   have e3:=s3 _ _ eD
   have kp:Keeps (·=D) H3 (upd H3 D (.lst (as.map V.ref++[.ref a]))):=Keeps.one e3
   refine k (.ref a) H3 e3 (by rw [List.length_map]; exact small1000 (by omega)) ⟨as++[a],by rw [List.map_append]; rfl,by rw [List.length_append,hl]; rfl,same_own (s2.trans s3) hD,upd_same,?_⟩
   rw [hf]
   refine TresF.snoc (ht.keeps kp (fun x z m=>?_) fun x z m=>?_) ((hT.same s3).keeps kp (fun x z m=>z m) fun _ z=>z)
   · subst m
     rcases z with z | z
     · exact z hD
     · rw [eD] at z; cases z
   · subst m
     rcases z with z | z
     · exact z hD
     · rw [eD] at z; cases z)
  fun D ys H2 hD hv=>by
   obtain ⟨as,rfl,hl,s2,eD,hT⟩:=hv
   exact hd D as H2 s2 hD eD hT.toH
end L2
namespace L2
open PySem PySem.Spec PyProof.Rows Ord
section
variable {X:Cx}
def rMulL:R2:=fun x y H Q=>∃ l xs n,x=.ref l∧y=.int n∧H l=some (.lst xs)∧(0≤n∧n≤1000)∧xs.length * n.toNat≤1000∧∀ p,H p=none→Q (.ref p) (upd H p (.lst (List.replicate n.toNat xs).flatten))
theorem rep_vals:∀ (n:Nat) {xs:List V} {us:List Value},Vals xs us→Vals (List.replicate n xs).flatten (List.replicate n us).flatten
 | 0,_,_,_=>.nil
 | n + 1,xs,us,h=>by
   rw [List.replicate_succ,List.replicate_succ,List.flatten_cons,List.flatten_cons]
   exact h.append (rep_vals n h)
theorem op_mulL:OpR X (binaryOp .Mult) rMulL:=by
 intro pins s σ H x y v u Q I rx ry h
 obtain ⟨l,xs,n,rfl,rfl,hl,hn,hz,q⟩:=h
 obtain rfl:v=Value.ref l:=rx
 obtain ⟨t,rfl⟩:=ry
 obtain ⟨z,its,c,rv,e⟩:=(show ObjOk X.prog X.w _ s.heap l (.lst xs) from I.hok l _ hl)
 have hlen:=rv.length
 have hsz:its.toArray.size * n.toNat≤1000:=by rw [List.size_toArray,←hlen]; exact hz
 have hsz':its.length * n.toNat≤1000:=by rw [←hlen]; exact hz
 refine wpAny_binaryOp_repeat_ref (T := "list") (U := "int") (by decide) ⟨_,e,rfl⟩ (fun s'=>typeIs_int s' n t) noFill_list_mul F.fills_int_mul F.slot_int_rmul repeat_list F.slot_int_index.lookup
  (call_meets F.slot_int_rmul (typeIs_int s n t) F.entry_int_rmul (F.args_int_rmul_2 _ _) (int___rmul___int_list n t l its.toArray c)
   ⟨e,rfl,⟨_,e,rfl⟩,call_meets F.slot_list_mul ⟨_,e,rfl⟩ F.entry_list_mul (F.args_list_mul_2 _ _) (AutoListH.list___mul___list_int_3 l its.toArray c n t (by simp [Builtin.List.listFitsIndex]; omega) (by omega) (by simp [Builtin.List.listTooLong,sizeLine]; omega)) ⟨e,?_⟩⟩)
 rw [listMul_foldl_if]
 have rr:=rep_vals n.toNat rv
 refine ⟨.ref s.heap.objs.size,_,I.laid (a:=s.heap.objs.size) (o:=.lst (List.replicate n.toNat xs).flatten) (t':=s.toks) (fun _ _ q=>Heap.get?_push_of_some _ q) (Nat.le_refl _) ⟨?_,_,0,rr,Heap.get?_push_size _ rfl⟩,rfl,q _ (I.hok.fresh (Nat.le_refl _))⟩
 rw [List.length_flatten,List.map_replicate,List.sum_replicate_nat,Nat.mul_comm]
 exact Nat.le_of_lt (small1000 (by omega))
end
theorem mk_k {H:Hp} {x dx C:Addr} {fs:List (Str × V)} {R:VK} {v:V} (hx:H x=none) (hdx:H dx=none) (k:∀ H3,Same H H3→H3 x=some (.ins C dx fs)→R v H3):R v (upd (upd (upd H dx (.own x)) x (.ins C dx [])) x (.ins C dx fs)):=by
 rw [upd_upd]
 exact k _ (fresh_ins hx hdx) upd_same
theorem comp_rep {K:PySem.W.Frag} {k:Nat} {caps:List Nat} {g:TG} {te:TE} {σ:L2.St} {H1:Hp} {Q:Addr→Hp→Prop} {lo:Int} {n:Nat} (hn:n≤1000) (t:Tre)
 (hs:∀ (i:Nat) (H2:Hp) (R:VK),Same H1 H2→(∀ a H3,Same H2 H3→(∀ F,TreF K F H3 a t)→R (.ref a) H3)→g (.int (lo + i)) (compSt k caps σ) H2 fun σ4 H4=>te σ4 H4 R)
 (hd:∀ (D:Addr) (as:List Addr) (H2:Hp),Same H1 H2→H1 D=none→H2 D=some (.lst (as.map V.ref))→TresH K H2 as (List.replicate n t)→Q D H2) :
 ∀ D,H1 D=none→∃ W:Nat→Nat→List V→Hp→Prop,(∃ m,W 0 m [] (upd H1 D (.lst [])))∧∀ i m ys H2,W i m ys H2 →
  ((Itr lo n).stop i H2∧Q D H2)∨((Itr lo n).go i H2∧∀ x H3,(Itr lo n).yld i H2 x H3→g x (compSt k caps σ) H3 fun σ4 H4=>tYes σ4 H4 fun b H5 =>
   if b=true then te σ4 H5 fun y H6=>H6 D=some (.lst ys)∧ys.length < sizeLine∧∃ m',m' < m∧W (i + 1) m' (ys++[y]) (upd H6 D (.lst (ys++[y]))) else ∃ m',m' < m∧W (i + 1) m' ys H5) :=
 comp_tre hn (fun i=>List.replicate i t) rfl (fun _=>t) (fun i=>List.replicate_succ') (fun i H2 R _ s2 k=>hs i H2 R s2 fun a H3 s3 h=>k a H3 s3 (h _)) hd
theorem dec_all (i:Nat):decide (V.int ((0 + (i:Int)) % 2)=V.int 1)=decide (i % 2=1):=by
 refine decide_eq_decide.mpr ⟨fun h=>?_,fun h=>?_⟩
 · have:=V.int.inj h
   omega
 · rw [show (0 + (i:Int)) % 2=1 by omega]
theorem home_len {us:List Tre}:∀ n,(homeT us n).length=n
 | 0=>rfl
 | n + 1=>by rw [homeT,List.length_append,home_len n]; rfl
theorem all_len:∀ n,(allT n).length=n
 | 0=>rfl
 | n + 1=>by rw [allT,List.length_append,all_len n]; rfl
theorem cat_tres {K:PySem.W.Frag} {H:Hp} {a b:Addr} {as bs:List Addr} {ts us:List Tre} {Q:VK} (ea:H a=some (.lst (as.map V.ref))) (eb:H b=some (.lst (bs.map V.ref))) (ta:TresH K H as ts) (tb:TresH K H bs us) (hl:ts.length + us.length≤1000)
 (k:∀ (p:Addr) (cs:List Addr) (H':Hp),Same H H'→H' p=some (.lst (cs.map V.ref))→TresH K H' cs (ts++us)→Q (.ref p) H'):rCat (.ref a) (.ref b) H Q :=
 ⟨a,b,_,_,rfl,rfl,ea,eb,by rw [List.length_map,List.length_map,ta.len,tb.len]; exact Nat.le_of_lt (small1000 hl),fun p hp=>k p (as++bs) _ (same_new hp) (by rw [upd_same,List.map_append]) ((TresH.app tb ta).same (same_new hp))⟩
end L2
abbrev L2.SF (n:List (PySem.Str × PySem.NameKind)):PySem.Scope:={ kind:=.function,names:=n,isGenerator:=false,isCoroutine:=false,more:=[] }
theorem L2.new_at {H:L2.Hp} {a:PySem.Addr} {o:L2.HO} (h:H a=none):∃ H':L2.Hp,H'=L2.upd H a o∧L2.Same H H'∧H' a=some o:=⟨_,rfl,L2.same_new h,L2.upd_same⟩
theorem L2.getm {α β:Type} {f:α→β} {l:List α} {i:Nat} {x:β} (h:(l.map f)[i]?=some x):∃ z,l[i]?=some z∧f z=x:=by
 rw [List.getElem?_map] at h
 exact Option.map_eq_some_iff.mp h
namespace K74
open PySem PySem.Spec PyProof.Rows L2 Ord
local macro_rules | `(tactic| trivial) => `(tactic| exact ⟨rfl, rfl, rfl, by decide +kernel, rfl, by decide +kernel, by decide +kernel⟩)
local macro_rules | `(tactic| trivial) => `(tactic| exact ⟨rfl, by decide +kernel, by decide +kernel, by decide +kernel, rfl, by decide +kernel, by decide +kernel⟩)
theorem sc_Thing__init__:FnScope ["self", "reach", "name", "of"] ["self", "reach", "name", "of"] (defScope s_Thing__init__):=by trivial
theorem sc_Let__init__:FnScope ["self", "name", "of"] ["self", "name", "of"] (defScope s_Let__init__):=by trivial
theorem sc_Ask__init__:FnScope ["self", "path"] ["self", "path"] (defScope s_Ask__init__):=by trivial
theorem sc_Part__init__:FnScope ["self", "reach", "name", "items"] ["self", "reach", "name", "items"] (defScope s_Part__init__):=by trivial
theorem sc__law_plain:FnScope ["_law_cell", "_law_name"] ["_law_cell"] (defScope s__law_plain):=by trivial
theorem sc__law_cell_at:FnScope ["_law_script", "_law_k"] ["_law_script", "_law_k"] (defScope s__law_cell_at):=by trivial
theorem sc__law_nested:FnScope ["_law_many", "_law_items", "_law_k"] ["_law_many", "_law_items"] (defScope s__law_nested):=by trivial
theorem sc__law_homes:FnScope ["_law_many", "_law_items"] ["_law_many", "_law_items"] (defScope s__law_homes):=by trivial
theorem _law_homes_cs1:CompScope (defScope s__law_homes) ["_law_many", "_law_items"] (SF [ (".0",.local),("_law_k",.local),("Part",.globalImplicit),("_law_items",.free)]) ["_law_k", "_law_items"] 1 [1]:=by trivial
theorem sc_All__init__:FnScope ["self", "path", "on"] ["self", "path", "on"] (defScope s_All__init__):=by trivial
theorem sc_One__init__:FnScope ["self", "reach", "name", "path"] ["self", "reach", "name", "path"] (defScope s_One__init__):=by trivial
theorem sc_Elder__init__:FnScope ["self", "path"] ["self", "path"] (defScope s_Elder__init__):=by trivial
theorem sc__law_much:FnScope ["_law_cell", "_law_over", "_law_homes_here", "_law_some"] ["_law_cell", "_law_over"] (defScope s__law_much):=by trivial
theorem _law_much_cs1:CompScope (defScope s__law_much) ["_law_cell", "_law_over", "_law_homes_here", "_law_some"] (SF [ (".0",.local),("_law_k",.local),("Thing",.globalImplicit)]) ["_law_k"] 1 []:=by trivial
theorem _law_much_cs2:CompScope (defScope s__law_much) ["_law_cell", "_law_over", "_law_homes_here", "_law_some"] (SF [ (".0",.local),("_law_k",.local),("Thing",.globalImplicit)]) ["_law_k"] 1 []:=by trivial
theorem _law_much_cs3:CompScope (defScope s__law_much) ["_law_cell", "_law_over", "_law_homes_here", "_law_some"] (SF [ (".0",.local),("_law_k",.local),("Let",.globalImplicit)]) ["_law_k"] 1 []:=by trivial
theorem _law_much_cs4:CompScope (defScope s__law_much) ["_law_cell", "_law_over", "_law_homes_here", "_law_some"] (SF [ (".0",.local),("_law_k",.local),("Ask",.globalImplicit)]) ["_law_k"] 1 []:=by trivial
theorem _law_much_cs5:CompScope (defScope s__law_much) ["_law_cell", "_law_over", "_law_homes_here", "_law_some"] (SF [ (".0",.local),("_law_k",.local),("All",.globalImplicit)]) ["_law_k"] 1 []:=by trivial
theorem _law_much_cs6:CompScope (defScope s__law_much) ["_law_cell", "_law_over", "_law_homes_here", "_law_some"] (SF [ (".0",.local),("_law_k",.local),("One",.globalImplicit)]) ["_law_k"] 1 []:=by trivial
theorem _law_much_cs7:CompScope (defScope s__law_much) ["_law_cell", "_law_over", "_law_homes_here", "_law_some"] (SF [ (".0",.local),("_law_k",.local),("Let",.globalImplicit)]) ["_law_k"] 1 []:=by trivial
theorem _law_much_cs8:CompScope (defScope s__law_much) ["_law_cell", "_law_over", "_law_homes_here", "_law_some"] (SF [ (".0",.local),("_law_k",.local),("Ask",.globalImplicit)]) ["_law_k"] 1 []:=by trivial
theorem _law_much_cs9:CompScope (defScope s__law_much) ["_law_cell", "_law_over", "_law_homes_here", "_law_some"] (SF [ (".0",.local),("_law_k",.local),("All",.globalImplicit)]) ["_law_k"] 1 []:=by trivial
theorem _law_much_cs10:CompScope (defScope s__law_much) ["_law_cell", "_law_over", "_law_homes_here", "_law_some"] (SF [ (".0",.local),("_law_k",.local),("Elder",.globalImplicit)]) ["_law_k"] 1 []:=by trivial
theorem _law_much_cs11:CompScope (defScope s__law_much) ["_law_cell", "_law_over", "_law_homes_here", "_law_some"] (SF [ (".0",.local),("_law_k",.local),("One",.globalImplicit)]) ["_law_k"] 1 []:=by trivial
theorem _law_much_cs12:CompScope (defScope s__law_much) ["_law_cell", "_law_over", "_law_homes_here", "_law_some"] (SF [ (".0",.local),("_law_k",.local),("Thing",.globalImplicit)]) ["_law_k"] 1 []:=by trivial
theorem sc__law_no_name:FnScope ["_law_cell", "_law_word", "_law_path", "_law_way"] ["_law_cell"] (defScope s__law_no_name):=by trivial
theorem sc_items_within:FnScope ["layer", "within", "item"] ["layer"] (defScope s_items_within):=by trivial
theorem sc_refuse_too_great_2:FnScope ["program", "many", "around", "layer"] ["program"] (defScope s_refuse_too_great_2):=by trivial
theorem sc_Ground__init__:FnScope ["self"] ["self"] (defScope s_Ground__init__):=by trivial
theorem sc_Ground_new_scope:FnScope ["self", "steps", "tellings"] ["self", "steps", "tellings"] (defScope s_Ground_new_scope):=by trivial
theorem sc_Ground_new_thing:FnScope ["self", "kind", "number"] ["self", "kind", "number"] (defScope s_Ground_new_thing):=by trivial
theorem sc_Ground_more_tellings:FnScope ["self", "scope", "telling"] ["self", "scope", "telling"] (defScope s_Ground_more_tellings):=by trivial
theorem sc_Ground_new_question:FnScope ["self", "scope", "state", "path"] ["self", "scope", "state", "path"] (defScope s_Ground_new_question):=by trivial
theorem sc_thing_of:FnScope ["ground", "path", "here"] ["ground", "path", "here"] (defScope s_thing_of):=by trivial
theorem sc_Ground_more_steps:FnScope ["self", "scope", "step"] ["self", "scope", "step"] (defScope s_Ground_more_steps):=by trivial
theorem sc_lay_step:FnScope ["ground", "label", "path", "home", "question"] ["ground", "label", "path", "home"] (defScope s_lay_step):=by trivial
theorem sc_lay_part:FnScope ["ground", "item", "home", "here", "scope", "thing"] ["ground", "item", "home", "here"] (defScope s_lay_part):=by trivial
theorem sc_lay_item:FnScope ["ground", "item", "home", "here", "thing", "question"] ["ground", "item", "home", "here"] (defScope s_lay_item):=by trivial
theorem sc_lay_items:FnScope ["ground", "program", "home", "here", "item"] ["ground", "program", "home"] (defScope s_lay_items):=by trivial
theorem sc_refuse_more:FnScope ["parts", "most", "words"] ["parts", "most", "words"] (defScope s_refuse_more):=by trivial
theorem sc_refuse_too_great:FnScope ["scopes", "things", "questions", "steps", "tellings", "scope", "state", "path"] ["scopes", "things", "questions"] (defScope s_refuse_too_great):=by trivial
theorem sc_words_told:FnScope ["scopes", "questions", "words", "steps", "tellings", "label", "kind", "number", "name", "scope", "state", "path"] ["scopes", "questions"] (defScope s_words_told):=by trivial
theorem sc_is_name:FnScope ["thing"] ["thing"] (defScope s_is_name):=by trivial
theorem is_name_cs1:CompScope (defScope s_is_name) ["thing"] (SF [(".0",.local),("sign",.local)]) ["sign"] 1 []:=by trivial
theorem sc_refuse_no_names:FnScope ["scopes", "questions", "word", "scope", "state", "path"] ["scopes", "questions"] (defScope s_refuse_no_names):=by trivial
theorem sc_is_whole:FnScope ["thing"] ["thing"] (defScope s_is_whole):=by trivial
theorem sc_is_place:FnScope ["number", "many"] ["number", "many"] (defScope s_is_place):=by trivial
theorem sc_refuse_no_place:FnScope ["kinds", "kind", "number"] ["kinds", "kind", "number"] (defScope s_refuse_no_place):=by trivial
theorem sc_refuse_no_places:FnScope ["scopes", "things", "questions", "step_kinds", "telling_kinds", "thing_kinds", "steps", "tellings", "label", "kind", "number", "name", "scope", "state", "path"] ["scopes", "things", "questions"] (defScope s_refuse_no_places):=by trivial
theorem sc_net_of:FnScope ["scopes", "things", "questions"] ["scopes", "things", "questions"] (defScope s_net_of):=by trivial
theorem net_of_cs1:CompScope (defScope s_net_of) ["scopes", "things", "questions"] (SF [ (".0",.local),("steps",.local),("tellings",.local),("list",.globalImplicit)]) ["steps", "tellings"] 2 []:=by trivial
theorem sc_net_by:FnScope ["program", "ground"] ["program"] (defScope s_net_by):=by trivial
theorem sc__law_outcome:FnScope ["_law_program", "_law_error", "e", "_law_some"] ["_law_program"] (defScope s__law_outcome):=by trivial
theorem sc_law:FnScope ["_law_script", "_law_plain_here", "_law_faults", "_law_over", "_law_program", "_law_at", "_law_due", "_law_item", "_law_handed"] ["_law_script"] (defScope s_law):=by trivial
theorem law_cs1:CompScope (defScope s_law) ["_law_script", "_law_plain_here", "_law_faults", "_law_over", "_law_program", "_law_at", "_law_due", "_law_item", "_law_handed"] (SF [ (".0",.local),("_law_cell",.local),("_law_plain",.globalImplicit)]) ["_law_cell"] 1 []:=by trivial
structure Blt (mg:Str→Option Value):Prop where
 b_ValueError:mg "ValueError" = none
 b_all:mg "all" = none
 b_bool:mg "bool" = none
 b_int:mg "int" = none
 b_isinstance:mg "isinstance" = none
 b_len:mg "len" = none
 b_list:mg "list" = none
 b_range:mg "range" = none
 b_str:mg "str" = none
 b_tuple:mg "tuple" = none
 c_ANYWHERE:∃ t,mg "ANYWHERE" = some (.int 0 t)
 c_LONGEST_NAME:∃ t,mg "LONGEST_NAME" = some (.int 8 t)
 c_LONGEST_PATH:∃ t,mg "LONGEST_PATH" = some (.int 6 t)
 c_MOST_AROUND:∃ t,mg "MOST_AROUND" = some (.int 30 t)
 c_MOST_ITEMS:∃ t,mg "MOST_ITEMS" = some (.int 200 t)
 c_MOST_QUESTIONS:∃ t,mg "MOST_QUESTIONS" = some (.int 60 t)
 c_MOST_SCOPES:∃ t,mg "MOST_SCOPES" = some (.int 40 t)
 c_MOST_STEPS:∃ t,mg "MOST_STEPS" = some (.int 8 t)
 c_MOST_TELLINGS:∃ t,mg "MOST_TELLINGS" = some (.int 12 t)
 c_MOST_THINGS:∃ t,mg "MOST_THINGS" = some (.int 80 t)
 c_OUTSIDE:∃ t,mg "OUTSIDE" = some (.int 2 t)
structure Ers (K:PySem.W.Frag) (mg:Str→Option Value):Prop where
 e_Caught:mg "Caught" = some (.ref (clsA K "Caught"))
 e_NoName:mg "NoName" = some (.ref (clsA K "NoName"))
 e_NoPlace:mg "NoPlace" = some (.ref (clsA K "NoPlace"))
 e_NoRow:mg "NoRow" = some (.ref (clsA K "NoRow"))
 e_NoText:mg "NoText" = some (.ref (clsA K "NoText"))
 e_PathError:mg "PathError" = some (.ref (clsA K "PathError"))
 e_Ring:mg "Ring" = some (.ref (clsA K "Ring"))
 e_Tangled:mg "Tangled" = some (.ref (clsA K "Tangled"))
 e_TooGreat:mg "TooGreat" = some (.ref (clsA K "TooGreat"))
 e_Twice:mg "Twice" = some (.ref (clsA K "Twice"))
 k_NoName:Exk K mg "NoName" (clsA K "NoName")
 k_NoPlace:Exk K mg "NoPlace" (clsA K "NoPlace")
 k_PathError:Exk K mg "PathError" (clsA K "PathError")
 k_TooGreat:Exk K mg "TooGreat" (clsA K "TooGreat")
 d_NoName:ExcCl K (clsA K "NoName")
 v_NoName:AskC K (clsA K "NoName") (.type "ValueError") true
 s_NoName_PathError:L2.subIn K (clsA K "NoName") (clsA K "PathError")=true
 a_NoName_Caught:AskC K (clsA K "NoName") (.ref (clsA K "Caught")) false
 a_NoName_NoName:AskC K (clsA K "NoName") (.ref (clsA K "NoName")) true
 a_NoName_NoPlace:AskC K (clsA K "NoName") (.ref (clsA K "NoPlace")) false
 a_NoName_NoRow:AskC K (clsA K "NoName") (.ref (clsA K "NoRow")) false
 a_NoName_NoText:AskC K (clsA K "NoName") (.ref (clsA K "NoText")) false
 a_NoName_Ring:AskC K (clsA K "NoName") (.ref (clsA K "Ring")) false
 a_NoName_Tangled:AskC K (clsA K "NoName") (.ref (clsA K "Tangled")) false
 a_NoName_TooGreat:AskC K (clsA K "NoName") (.ref (clsA K "TooGreat")) false
 a_NoName_Twice:AskC K (clsA K "NoName") (.ref (clsA K "Twice")) false
 n_NoName_Caught:(Value.ref (clsA K "NoName") == Value.ref (clsA K "Caught"))=false
 n_NoName_NoPlace:(Value.ref (clsA K "NoName") == Value.ref (clsA K "NoPlace"))=false
 n_NoName_NoRow:(Value.ref (clsA K "NoName") == Value.ref (clsA K "NoRow"))=false
 n_NoName_NoText:(Value.ref (clsA K "NoName") == Value.ref (clsA K "NoText"))=false
 n_NoName_Ring:(Value.ref (clsA K "NoName") == Value.ref (clsA K "Ring"))=false
 n_NoName_Tangled:(Value.ref (clsA K "NoName") == Value.ref (clsA K "Tangled"))=false
 n_NoName_TooGreat:(Value.ref (clsA K "NoName") == Value.ref (clsA K "TooGreat"))=false
 n_NoName_Twice:(Value.ref (clsA K "NoName") == Value.ref (clsA K "Twice"))=false
 d_NoPlace:ExcCl K (clsA K "NoPlace")
 v_NoPlace:AskC K (clsA K "NoPlace") (.type "ValueError") true
 s_NoPlace_PathError:L2.subIn K (clsA K "NoPlace") (clsA K "PathError")=true
 a_NoPlace_Caught:AskC K (clsA K "NoPlace") (.ref (clsA K "Caught")) false
 a_NoPlace_NoName:AskC K (clsA K "NoPlace") (.ref (clsA K "NoName")) false
 a_NoPlace_NoPlace:AskC K (clsA K "NoPlace") (.ref (clsA K "NoPlace")) true
 a_NoPlace_NoRow:AskC K (clsA K "NoPlace") (.ref (clsA K "NoRow")) false
 a_NoPlace_NoText:AskC K (clsA K "NoPlace") (.ref (clsA K "NoText")) false
 a_NoPlace_Ring:AskC K (clsA K "NoPlace") (.ref (clsA K "Ring")) false
 a_NoPlace_Tangled:AskC K (clsA K "NoPlace") (.ref (clsA K "Tangled")) false
 a_NoPlace_TooGreat:AskC K (clsA K "NoPlace") (.ref (clsA K "TooGreat")) false
 a_NoPlace_Twice:AskC K (clsA K "NoPlace") (.ref (clsA K "Twice")) false
 n_NoPlace_Caught:(Value.ref (clsA K "NoPlace") == Value.ref (clsA K "Caught"))=false
 n_NoPlace_NoName:(Value.ref (clsA K "NoPlace") == Value.ref (clsA K "NoName"))=false
 n_NoPlace_NoRow:(Value.ref (clsA K "NoPlace") == Value.ref (clsA K "NoRow"))=false
 n_NoPlace_NoText:(Value.ref (clsA K "NoPlace") == Value.ref (clsA K "NoText"))=false
 n_NoPlace_Ring:(Value.ref (clsA K "NoPlace") == Value.ref (clsA K "Ring"))=false
 n_NoPlace_Tangled:(Value.ref (clsA K "NoPlace") == Value.ref (clsA K "Tangled"))=false
 n_NoPlace_TooGreat:(Value.ref (clsA K "NoPlace") == Value.ref (clsA K "TooGreat"))=false
 n_NoPlace_Twice:(Value.ref (clsA K "NoPlace") == Value.ref (clsA K "Twice"))=false
 d_TooGreat:ExcCl K (clsA K "TooGreat")
 v_TooGreat:AskC K (clsA K "TooGreat") (.type "ValueError") true
 s_TooGreat_PathError:L2.subIn K (clsA K "TooGreat") (clsA K "PathError")=true
 a_TooGreat_Caught:AskC K (clsA K "TooGreat") (.ref (clsA K "Caught")) false
 a_TooGreat_NoName:AskC K (clsA K "TooGreat") (.ref (clsA K "NoName")) false
 a_TooGreat_NoPlace:AskC K (clsA K "TooGreat") (.ref (clsA K "NoPlace")) false
 a_TooGreat_NoRow:AskC K (clsA K "TooGreat") (.ref (clsA K "NoRow")) false
 a_TooGreat_NoText:AskC K (clsA K "TooGreat") (.ref (clsA K "NoText")) false
 a_TooGreat_Ring:AskC K (clsA K "TooGreat") (.ref (clsA K "Ring")) false
 a_TooGreat_Tangled:AskC K (clsA K "TooGreat") (.ref (clsA K "Tangled")) false
 a_TooGreat_TooGreat:AskC K (clsA K "TooGreat") (.ref (clsA K "TooGreat")) true
 a_TooGreat_Twice:AskC K (clsA K "TooGreat") (.ref (clsA K "Twice")) false
 n_TooGreat_Caught:(Value.ref (clsA K "TooGreat") == Value.ref (clsA K "Caught"))=false
 n_TooGreat_NoName:(Value.ref (clsA K "TooGreat") == Value.ref (clsA K "NoName"))=false
 n_TooGreat_NoPlace:(Value.ref (clsA K "TooGreat") == Value.ref (clsA K "NoPlace"))=false
 n_TooGreat_NoRow:(Value.ref (clsA K "TooGreat") == Value.ref (clsA K "NoRow"))=false
 n_TooGreat_NoText:(Value.ref (clsA K "TooGreat") == Value.ref (clsA K "NoText"))=false
 n_TooGreat_Ring:(Value.ref (clsA K "TooGreat") == Value.ref (clsA K "Ring"))=false
 n_TooGreat_Tangled:(Value.ref (clsA K "TooGreat") == Value.ref (clsA K "Tangled"))=false
 n_TooGreat_Twice:(Value.ref (clsA K "TooGreat") == Value.ref (clsA K "Twice"))=false
 e_All:mg "All" = some (.ref (clsA K "All"))
 e_Ask:mg "Ask" = some (.ref (clsA K "Ask"))
 e_Elder:mg "Elder" = some (.ref (clsA K "Elder"))
 e_Ground:mg "Ground" = some (.ref (clsA K "Ground"))
 e_Let:mg "Let" = some (.ref (clsA K "Let"))
 e_One:mg "One" = some (.ref (clsA K "One"))
 e_Part:mg "Part" = some (.ref (clsA K "Part"))
 e_Thing:mg "Thing" = some (.ref (clsA K "Thing"))
 cl_All:Cls K (clsA K "All")
 ci_All:ClsI K (clsA K "All")
 na_All_on:NoAttr K (clsA K "All") "on"
 na_All_path:NoAttr K (clsA K "All") "path"
 ai_All_All:AskI K (clsA K "All") (clsA K "All") true
 ai_All_Elder:AskI K (clsA K "All") (clsA K "Elder") false
 ai_All_Let:AskI K (clsA K "All") (clsA K "Let") false
 ai_All_One:AskI K (clsA K "All") (clsA K "One") false
 ai_All_Part:AskI K (clsA K "All") (clsA K "Part") false
 ai_All_Thing:AskI K (clsA K "All") (clsA K "Thing") false
 cl_Ask:Cls K (clsA K "Ask")
 ci_Ask:ClsI K (clsA K "Ask")
 na_Ask_path:NoAttr K (clsA K "Ask") "path"
 ai_Ask_All:AskI K (clsA K "Ask") (clsA K "All") false
 ai_Ask_Elder:AskI K (clsA K "Ask") (clsA K "Elder") false
 ai_Ask_Let:AskI K (clsA K "Ask") (clsA K "Let") false
 ai_Ask_One:AskI K (clsA K "Ask") (clsA K "One") false
 ai_Ask_Part:AskI K (clsA K "Ask") (clsA K "Part") false
 ai_Ask_Thing:AskI K (clsA K "Ask") (clsA K "Thing") false
 cl_Elder:Cls K (clsA K "Elder")
 ci_Elder:ClsI K (clsA K "Elder")
 na_Elder_path:NoAttr K (clsA K "Elder") "path"
 ai_Elder_All:AskI K (clsA K "Elder") (clsA K "All") false
 ai_Elder_Elder:AskI K (clsA K "Elder") (clsA K "Elder") true
 ai_Elder_Let:AskI K (clsA K "Elder") (clsA K "Let") false
 ai_Elder_One:AskI K (clsA K "Elder") (clsA K "One") false
 ai_Elder_Part:AskI K (clsA K "Elder") (clsA K "Part") false
 ai_Elder_Thing:AskI K (clsA K "Elder") (clsA K "Thing") false
 cl_Ground:Cls K (clsA K "Ground")
 na_Ground_questions:NoAttr K (clsA K "Ground") "questions"
 na_Ground_scopes:NoAttr K (clsA K "Ground") "scopes"
 na_Ground_things:NoAttr K (clsA K "Ground") "things"
 cl_Let:Cls K (clsA K "Let")
 ci_Let:ClsI K (clsA K "Let")
 na_Let_name:NoAttr K (clsA K "Let") "name"
 na_Let_of:NoAttr K (clsA K "Let") "of"
 ai_Let_All:AskI K (clsA K "Let") (clsA K "All") false
 ai_Let_Elder:AskI K (clsA K "Let") (clsA K "Elder") false
 ai_Let_Let:AskI K (clsA K "Let") (clsA K "Let") true
 ai_Let_One:AskI K (clsA K "Let") (clsA K "One") false
 ai_Let_Part:AskI K (clsA K "Let") (clsA K "Part") false
 ai_Let_Thing:AskI K (clsA K "Let") (clsA K "Thing") false
 cl_One:Cls K (clsA K "One")
 ci_One:ClsI K (clsA K "One")
 na_One_name:NoAttr K (clsA K "One") "name"
 na_One_path:NoAttr K (clsA K "One") "path"
 na_One_reach:NoAttr K (clsA K "One") "reach"
 ai_One_All:AskI K (clsA K "One") (clsA K "All") false
 ai_One_Elder:AskI K (clsA K "One") (clsA K "Elder") false
 ai_One_Let:AskI K (clsA K "One") (clsA K "Let") false
 ai_One_One:AskI K (clsA K "One") (clsA K "One") true
 ai_One_Part:AskI K (clsA K "One") (clsA K "Part") false
 ai_One_Thing:AskI K (clsA K "One") (clsA K "Thing") false
 cl_Part:Cls K (clsA K "Part")
 ci_Part:ClsI K (clsA K "Part")
 na_Part_inner:NoAttr K (clsA K "Part") "inner"
 na_Part_name:NoAttr K (clsA K "Part") "name"
 na_Part_reach:NoAttr K (clsA K "Part") "reach"
 ai_Part_All:AskI K (clsA K "Part") (clsA K "All") false
 ai_Part_Elder:AskI K (clsA K "Part") (clsA K "Elder") false
 ai_Part_Let:AskI K (clsA K "Part") (clsA K "Let") false
 ai_Part_One:AskI K (clsA K "Part") (clsA K "One") false
 ai_Part_Part:AskI K (clsA K "Part") (clsA K "Part") true
 ai_Part_Thing:AskI K (clsA K "Part") (clsA K "Thing") false
 cl_Thing:Cls K (clsA K "Thing")
 ci_Thing:ClsI K (clsA K "Thing")
 na_Thing_name:NoAttr K (clsA K "Thing") "name"
 na_Thing_of:NoAttr K (clsA K "Thing") "of"
 na_Thing_reach:NoAttr K (clsA K "Thing") "reach"
 ai_Thing_All:AskI K (clsA K "Thing") (clsA K "All") false
 ai_Thing_Elder:AskI K (clsA K "Thing") (clsA K "Elder") false
 ai_Thing_Let:AskI K (clsA K "Thing") (clsA K "Let") false
 ai_Thing_One:AskI K (clsA K "Thing") (clsA K "One") false
 ai_Thing_Part:AskI K (clsA K "Thing") (clsA K "Part") false
 ai_Thing_Thing:AskI K (clsA K "Thing") (clsA K "Thing") true
theorem len_1 {us:List Value} (h:us.length=1):∃ x0,us=[x0]:=by
 cases us with
 | nil=>cases h
 | cons x0 t=>exact ⟨x0,by rw [List.length_eq_zero_iff.mp (Nat.succ.inj h)]⟩
theorem len_2 {us:List Value} (h:us.length=2):∃ x0 x1,us=[x0,x1]:=by
 cases us with
 | nil=>cases h
 | cons x0 t =>
   obtain ⟨x1,rfl⟩:=len_1 (Nat.succ.inj h)
   exact ⟨x0,x1,rfl⟩
theorem len_3 {us:List Value} (h:us.length=3):∃ x0 x1 x2,us=[x0,x1,x2]:=by
 cases us with
 | nil=>cases h
 | cons x0 t =>
   obtain ⟨x1,x2,rfl⟩:=len_2 (Nat.succ.inj h)
   exact ⟨x0,x1,x2,rfl⟩
theorem len_4 {us:List Value} (h:us.length=4):∃ x0 x1 x2 x3,us=[x0,x1,x2,x3]:=by
 cases us with
 | nil=>cases h
 | cons x0 t =>
   obtain ⟨x1,x2,x3,rfl⟩:=len_3 (Nat.succ.inj h)
   exact ⟨x0,x1,x2,x3,rfl⟩
theorem len_5 {us:List Value} (h:us.length=5):∃ x0 x1 x2 x3 x4,us=[x0,x1,x2,x3,x4]:=by
 cases us with
 | nil=>cases h
 | cons x0 t =>
   obtain ⟨x1,x2,x3,x4,rfl⟩:=len_4 (Nat.succ.inj h)
   exact ⟨x0,x1,x2,x3,x4,rfl⟩
theorem len_6 {us:List Value} (h:us.length=6):∃ x0 x1 x2 x3 x4 x5,us=[x0,x1,x2,x3,x4,x5]:=by
 cases us with
 | nil=>cases h
 | cons x0 t =>
   obtain ⟨x1,x2,x3,x4,x5,rfl⟩:=len_5 (Nat.succ.inj h)
   exact ⟨x0,x1,x2,x3,x4,x5,rfl⟩
theorem len_7 {us:List Value} (h:us.length=7):∃ x0 x1 x2 x3 x4 x5 x6,us=[x0,x1,x2,x3,x4,x5,x6]:=by
 cases us with
 | nil=>cases h
 | cons x0 t =>
   obtain ⟨x1,x2,x3,x4,x5,x6,rfl⟩:=len_6 (Nat.succ.inj h)
   exact ⟨x0,x1,x2,x3,x4,x5,x6,rfl⟩
theorem len_8 {us:List Value} (h:us.length=8):∃ x0 x1 x2 x3 x4 x5 x6 x7,us=[x0,x1,x2,x3,x4,x5,x6,x7]:=by
 cases us with
 | nil=>cases h
 | cons x0 t =>
   obtain ⟨x1,x2,x3,x4,x5,x6,x7,rfl⟩:=len_7 (Nat.succ.inj h)
   exact ⟨x0,x1,x2,x3,x4,x5,x6,x7,rfl⟩
section
set_option maxHeartbeats 4000000
seal L2.PE L2.PA L2.PS L2.PSs L2.PT L2.PW L2.PC L2.PG L2.PGs L2.PI L2.PF L2.PSet L2.OpR L2.UnR L2.CallR L2.MtR L2.IxR L2.SlR L2.PO
variable {P:Program} {w:World} {K:PySem.W.Frag} {mg:Str→Option Value} {base:Heap} {f:Addr} {fd:FuncData}
def sp_Thing__init__ (K:PySem.W.Frag):Sp:=fun vs H Q _=>∃ (x dx:Addr) (v0 v1 v2:V),vs=[.ref x,v0,v1,v2]∧H x=some (.ins (clsA K "Thing") dx [])∧Q .non (upd H x (.ins (clsA K "Thing") dx [(("reach" : Str),v0),(("name" : Str),v1),(("of" : Str),v2)]))
theorem ok_Thing__init__ {T f:Addr} {fd:FuncData} (B:Blt mg) (ER:Ers K mg)  (F:FunD K "__init__" "Thing.__init__" s_Thing__init__ T f fd):FnOk P w K mg base CX0 1 f fd ["self", "reach", "name", "of"] (sp_Thing__init__ K):=by
 refine F.ok sc_Thing__init__ (fun vs H Q E h=>?_) (fun cdv A outer s H vs Q E hr h=>?_)
 · obtain ⟨x,dx,v0,v1,v2,rfl,_⟩:=h
   rfl
 · obtain ⟨x,dx,v0,v1,v2,rfl,hx,q⟩:=h
   refine ⟨_,(pss_cons (ps_fld (pv 0) (pv 1) rfl)
    (pss_cons (ps_fld (pv 0) (pv 2) rfl)
    (pss_one (ps_fld (pv 0) (pv 3) rfl)))),?_⟩
   refine ⟨_,rfl,_,rfl,x,_,dx,[],rfl,hx,ER.cl_Thing,ER.na_Thing_reach,by show _ < 1000; simp,?_⟩
   rw [show putF "reach" v0 []=[(("reach" : Str),v0)] from rfl]
   refine ⟨_,rfl,_,rfl,x,_,dx,[(("reach" : Str),v0)],rfl,upd_same,ER.cl_Thing,ER.na_Thing_name,by show _ < 1000; simp,?_⟩
   rw [show putF "name" v1 [(("reach" : Str),v0)]=[(("reach" : Str),v0),(("name" : Str),v1)] from rfl]
   rw [upd_upd]
   refine ⟨_,rfl,_,rfl,x,_,dx,[(("reach" : Str),v0),(("name" : Str),v1)],rfl,upd_same,ER.cl_Thing,ER.na_Thing_of,by show _ < 1000; simp,?_⟩
   rw [show putF "of" v2 [(("reach" : Str),v0),(("name" : Str),v1)]=[(("reach" : Str),v0),(("name" : Str),v1),(("of" : Str),v2)] from rfl]
   rw [upd_upd]
   exact q
theorem call_Thing__init__ {f:Addr} {fd:FuncData} {T:Addr} {oT:Obj} {nT:Nat} (lT:K.lookup T=some oT) (hT:oT.data=.seq #[.none] nT) (B:Blt mg) (ER:Ers K mg)  (F:FunD K "__init__" "Thing.__init__" s_Thing__init__ T f fd) (M:Mk K (clsA K "Thing") f):CalleeN P w K mg base (clsA K "Thing") 1 ["self", "reach", "name", "of"] [] (sp_Thing__init__ K) :=
 ⟨f,fd,ok_Thing__init__ B ER  F,M,F.binds lT hT fun _ _ _ _ _ _ us hl=>(by rw [List.append_nil] at hl ⊢; obtain ⟨x0,x1,x2,x3,rfl⟩:=len_4 hl; exact ⟨_,rfl,rfl⟩)⟩
theorem call_Thing__init___D {f:Addr} {fd:FuncData} {T:Addr} {oT:Obj} {nT:Nat} (lT:K.lookup T=some oT) (hT:oT.data=.seq #[.none] nT) (B:Blt mg) (ER:Ers K mg)  (F:FunD K "__init__" "Thing.__init__" s_Thing__init__ T f fd) (M:Mk K (clsA K "Thing") f):CalleeN P w K mg base (clsA K "Thing") 1 ["self", "reach", "name", "of"] [.none] (sp_Thing__init__ K) :=
 ⟨f,fd,ok_Thing__init__ B ER  F,M,F.binds lT hT fun _ _ _ _ _ _ us hl=>(by rw [List.length_append] at hl; obtain ⟨x0,x1,x2,rfl⟩:=len_3 (Nat.succ.inj hl); exact ⟨_,rfl,rfl⟩)⟩
def sp_Let__init__ (K:PySem.W.Frag):Sp:=fun vs H Q _=>∃ (x dx:Addr) (v0 v1:V),vs=[.ref x,v0,v1]∧H x=some (.ins (clsA K "Let") dx [])∧Q .non (upd H x (.ins (clsA K "Let") dx [(("name" : Str),v0),(("of" : Str),v1)]))
theorem ok_Let__init__ {T f:Addr} {fd:FuncData} (B:Blt mg) (ER:Ers K mg)  (F:FunD K "__init__" "Let.__init__" s_Let__init__ T f fd):FnOk P w K mg base CX0 1 f fd ["self", "name", "of"] (sp_Let__init__ K):=by
 refine F.ok sc_Let__init__ (fun vs H Q E h=>?_) (fun cdv A outer s H vs Q E hr h=>?_)
 · obtain ⟨x,dx,v0,v1,rfl,_⟩:=h
   rfl
 · obtain ⟨x,dx,v0,v1,rfl,hx,q⟩:=h
   refine ⟨_,(pss_cons (ps_fld (pv 0) (pv 1) rfl)
    (pss_one (ps_fld (pv 0) (pv 2) rfl))),?_⟩
   refine ⟨_,rfl,_,rfl,x,_,dx,[],rfl,hx,ER.cl_Let,ER.na_Let_name,by show _ < 1000; simp,?_⟩
   rw [show putF "name" v0 []=[(("name" : Str),v0)] from rfl]
   refine ⟨_,rfl,_,rfl,x,_,dx,[(("name" : Str),v0)],rfl,upd_same,ER.cl_Let,ER.na_Let_of,by show _ < 1000; simp,?_⟩
   rw [show putF "of" v1 [(("name" : Str),v0)]=[(("name" : Str),v0),(("of" : Str),v1)] from rfl]
   rw [upd_upd]
   exact q
theorem call_Let__init__ {f:Addr} {fd:FuncData} {T:Addr} {oT:Obj} {nT:Nat} (lT:K.lookup T=some oT) (hT:oT.data=.seq #[.none] nT) (B:Blt mg) (ER:Ers K mg)  (F:FunD K "__init__" "Let.__init__" s_Let__init__ T f fd) (M:Mk K (clsA K "Let") f):CalleeN P w K mg base (clsA K "Let") 1 ["self", "name", "of"] [] (sp_Let__init__ K) :=
 ⟨f,fd,ok_Let__init__ B ER  F,M,F.binds lT hT fun _ _ _ _ _ _ us hl=>(by rw [List.append_nil] at hl ⊢; obtain ⟨x0,x1,x2,rfl⟩:=len_3 hl; exact ⟨_,rfl,rfl⟩)⟩
theorem call_Let__init___D {f:Addr} {fd:FuncData} {T:Addr} {oT:Obj} {nT:Nat} (lT:K.lookup T=some oT) (hT:oT.data=.seq #[.none] nT) (B:Blt mg) (ER:Ers K mg)  (F:FunD K "__init__" "Let.__init__" s_Let__init__ T f fd) (M:Mk K (clsA K "Let") f):CalleeN P w K mg base (clsA K "Let") 1 ["self", "name", "of"] [.none] (sp_Let__init__ K) :=
 ⟨f,fd,ok_Let__init__ B ER  F,M,F.binds lT hT fun _ _ _ _ _ _ us hl=>(by rw [List.length_append] at hl; obtain ⟨x0,x1,rfl⟩:=len_2 (Nat.succ.inj hl); exact ⟨_,rfl,rfl⟩)⟩
def sp_Ask__init__ (K:PySem.W.Frag):Sp:=fun vs H Q _=>∃ (x dx:Addr) (v0:V),vs=[.ref x,v0]∧H x=some (.ins (clsA K "Ask") dx [])∧Q .non (upd H x (.ins (clsA K "Ask") dx [(("path" : Str),v0)]))
theorem ok_Ask__init__ (B:Blt mg) (ER:Ers K mg)  (F:Fun K "__init__" "Ask.__init__" s_Ask__init__ f fd):FnOk P w K mg base CX0 1 f fd ["self", "path"] (sp_Ask__init__ K):=by
 refine F.ok sc_Ask__init__ (fun vs H Q E h=>?_) (fun cdv A outer s H vs Q E hr h=>?_)
 · obtain ⟨x,dx,v0,rfl,_⟩:=h
   rfl
 · obtain ⟨x,dx,v0,rfl,hx,q⟩:=h
   refine ⟨_,(pss_one (ps_fld (pv 0) (pv 1) rfl)),?_⟩
   refine ⟨_,rfl,_,rfl,x,_,dx,[],rfl,hx,ER.cl_Ask,ER.na_Ask_path,by show _ < 1000; simp,?_⟩
   rw [show putF "path" v0 []=[(("path" : Str),v0)] from rfl]
   exact q
theorem call_Ask__init__ (B:Blt mg) (ER:Ers K mg)  (F:Fun K "__init__" "Ask.__init__" s_Ask__init__ f fd) (M:Mk K (clsA K "Ask") f):CalleeN P w K mg base (clsA K "Ask") 1 ["self", "path"] [] (sp_Ask__init__ K) :=
 ⟨f,fd,ok_Ask__init__ B ER  F,M,F.binds fun _ _ _ _ _ _ us hl=>(by obtain ⟨x0,x1,rfl⟩:=len_2 hl; rfl)⟩
def sp_Part__init__ (K:PySem.W.Frag):Sp:=fun vs H Q _=>∃ (x dx p:Addr) (v0 v1:V) (ys:List V),vs=[.ref x,v0,v1,.ref p]∧H x=some (.ins (clsA K "Part") dx [])∧H p=some (.lst ys)∧∀ (l:Addr) (H':Hp),H l=none→H' x=some (.ins (clsA K "Part") dx [(("reach" : Str),v0),(("name" : Str),v1),(("inner" : Str),.ref l)])→H' l=some (.lst ys)→(∀ b o,b≠x→H b=some o→H' b=some o)→Q .non H'
theorem ok_Part__init__ (B:Blt mg) (ER:Ers K mg)  (F:Fun K "__init__" "Part.__init__" s_Part__init__ f fd):FnOk P w K mg base CX0 1 f fd ["self", "reach", "name", "items"] (sp_Part__init__ K):=by
 refine F.ok sc_Part__init__ (fun vs H Q E h=>?_) (fun cdv A outer s H vs Q E hr h=>?_)
 · obtain ⟨x,dx,p,v0,v1,ys,rfl,_⟩:=h
   rfl
 · obtain ⟨x,dx,p,v0,v1,ys,rfl,hx,hp,q⟩:=h
   refine ⟨_,(pss_cons (ps_fld (pv 0) (pv 1) rfl)
    (pss_cons (ps_fld (pv 0) (pv 2) rfl)
    (pss_one (ps_fld (pv 0) (pe_callTy call_list_of B.b_list (pa_cons (pv 3) pa_nil)) rfl)))),?_⟩
   refine ⟨_,rfl,_,rfl,x,_,dx,[],rfl,hx,ER.cl_Part,ER.na_Part_reach,by show _ < 1000; simp,?_⟩
   rw [show putF "reach" v0 []=[(("reach" : Str),v0)] from rfl]
   refine ⟨_,rfl,_,rfl,x,_,dx,[(("reach" : Str),v0)],rfl,upd_same,ER.cl_Part,ER.na_Part_name,by show _ < 1000; simp,?_⟩
   rw [show putF "name" v1 [(("reach" : Str),v0)]=[(("reach" : Str),v0),(("name" : Str),v1)] from rfl]
   rw [upd_upd]
   have np:p≠x:=fun z=>by rw [z,hx] at hp; cases hp
   refine ⟨_,rfl,p,ys,rfl,Or.inl (SqL.of (by rw [upd_ne np]; exact hp)),fun l hl=>?_⟩
   have nl:l≠x:=fun z=>by rw [z,upd_same] at hl; cases hl
   have hl0:H l=none:=by rw [upd_ne nl] at hl; exact hl
   refine ⟨_,rfl,x,_,dx,[(("reach" : Str),v0),(("name" : Str),v1)],rfl,by rw [upd_ne (Ne.symm nl),upd_same],ER.cl_Part,ER.na_Part_inner,by show _ < 1000; simp,?_⟩
   rw [show putF "inner" (V.ref l) [(("reach" : Str),v0),(("name" : Str),v1)]=[(("reach" : Str),v0),(("name" : Str),v1),(("inner" : Str),V.ref l)] from rfl]
   exact q l _ hl0 (by rw [upd_same]) (by rw [upd_ne nl,upd_same]) (fun b o n e=>by rw [upd_ne n,upd_ne (ne_of_none e hl0),upd_ne n]; exact e)
theorem call_Part__init__ (B:Blt mg) (ER:Ers K mg)  (F:Fun K "__init__" "Part.__init__" s_Part__init__ f fd) (M:Mk K (clsA K "Part") f):CalleeN P w K mg base (clsA K "Part") 1 ["self", "reach", "name", "items"] [] (sp_Part__init__ K) :=
 ⟨f,fd,ok_Part__init__ B ER  F,M,F.binds fun _ _ _ _ _ _ us hl=>(by obtain ⟨x0,x1,x2,x3,rfl⟩:=len_4 hl; rfl)⟩
def sp__law_plain (K:PySem.W.Frag):Sp:=fun vs H Q _=>∃ (c:Int),vs=[.int c]∧∀ (a:Addr) (t:Tre) (H':Hp),Same H H'→TreF K (fun x=>H x=none) H' a t→PlT t→Q (.ref a) H'
theorem ok__law_plain (B:Blt mg) (ER:Ers K mg) (c_Thing__init___D:CalleeN P w K mg base (clsA K "Thing") 1 ["self", "reach", "name", "of"] [.none] (sp_Thing__init__ K)) (c_Let__init___D:CalleeN P w K mg base (clsA K "Let") 1 ["self", "name", "of"] [.none] (sp_Let__init__ K)) (c_Ask__init__:CalleeN P w K mg base (clsA K "Ask") 1 ["self", "path"] [] (sp_Ask__init__ K)) (c_Part__init__:CalleeN P w K mg base (clsA K "Part") 1 ["self", "reach", "name", "items"] [] (sp_Part__init__ K)) (F:Fun K "_law_plain" "_law_plain" s__law_plain f fd):FnOk P w K mg base CX0 3 f fd ["_law_cell"] (sp__law_plain K):=by
 refine F.ok sc__law_plain (fun vs H Q E h=>?_) (fun cdv A outer s H vs Q E hr h=>?_)
 · obtain ⟨c,rfl,_⟩:=h
   rfl
 · obtain ⟨c,rfl,q⟩:=h
   refine ⟨_,(pss_cons (ps_set (i:=1) sc__law_plain.nd (pe_ix ix_seq (pe_lst (pa_cons pe_str (pa_cons pe_str (pa_cons pe_str (pa_cons pe_str pa_nil))))) (pe_op op_mod (pe_op op_fdiv (pv 0) pe_int) pe_int)))
    (pss_cons (ps_if (pt_cmpR op_eq (pe_op op_mod (pv 0) pe_int) pe_int (nomark _)) (pss_one (ps_ret (pe_mk c_Thing__init___D (hr.mono (by decide)) rfl ER.e_Thing (show Vals [V.non] _ from .cons rfl .nil) (pa_cons (pe_ix ix_seq (pe_lst (pa_cons pe_str (pa_cons pe_str pa_nil))) (pe_op op_mod (pe_op op_fdiv (pv 0) pe_int) pe_int)) (pa_cons (pv 1) pa_nil))))) pss_nil)
    (pss_cons (ps_if (pt_cmpR op_eq (pe_op op_mod (pv 0) pe_int) pe_int (nomark _)) (pss_one (ps_ret (pe_mk c_Let__init___D (hr.mono (by decide)) rfl ER.e_Let (show Vals [V.non] _ from .cons rfl .nil) (pa_cons (pv 1) pa_nil)))) pss_nil)
    (pss_cons (ps_if (pt_cmpR op_eq (pe_op op_mod (pv 0) pe_int) pe_int (nomark _)) (pss_one (ps_ret (pe_mk c_Ask__init__ (hr.mono (by decide)) rfl ER.e_Ask .nil (pa_cons (pe_tup (pa_cons (pv 1) (pa_cons pe_str pa_nil))) pa_nil)))) pss_nil)
    (pss_one (ps_ret (pe_mk c_Part__init__ (hr.mono (by decide)) rfl ER.e_Part .nil (pa_cons pe_str (pa_cons (pv 1) (pa_cons (pe_lst (pa_cons (pe_mk c_Ask__init__ (hr.mono (by decide)) rfl ER.e_Ask .nil (pa_cons (pe_tup (pa_cons pe_str pa_nil)) pa_nil)) pa_nil)) pa_nil)))))))))),?_⟩
   refine ⟨four_le,fun l hl=>?_⟩
   obtain ⟨H1,qH1,s1,el⟩:=new_at (o:=.lst [.str ("a" : Str),.str ("ab" : Str),.str ("abcdefgh" : Str),.str ("b" : Str)]) hl
   rw [←qH1]
   obtain ⟨n,hn1,hn⟩:∃ n:Str,atI [V.str ("a" : Str),V.str ("ab" : Str),V.str ("abcdefgh" : Str),V.str ("b" : Str)] (c / 4 % 4)=some (.str n)∧LowW n:=by
    have y0:=Int.emod_nonneg (c / 4) (by decide:(4:Int)≠0)
    have y1:=Int.emod_lt_of_pos (c / 4) (by decide:(0:Int) < 4)
    generalize c / 4 % 4=z at y0 y1 ⊢
    have:z=0∨z=1∨z=2∨z=3:=by omega
    rcases this with rfl | rfl | rfl | rfl
    · exact ⟨_,rfl,lowB_ok (by decide +kernel)⟩
    · exact ⟨_,rfl,lowB_ok (by decide +kernel)⟩
    · exact ⟨_,rfl,lowB_ok (by decide +kernel)⟩
    · exact ⟨_,rfl,lowB_ok (by decide +kernel)⟩
   refine ⟨_,rfl,_,_,rfl,rfl,⟨by decide,by decide⟩,_,_,rfl,rfl,(by show (0:Int) < 4; decide),Or.inl ⟨l,_,_,.str n,rfl,rfl,SqL.of el,hn1,?_⟩⟩
   refine g_in ?_
   try dsimp only
   refine ⟨_,rfl,_,_,rfl,rfl,(by show (0:Int) < 4; decide),rfl,_,rfl,ite2 (fun _=>?_) (fun _=>?_)⟩
   · refine ⟨two_le,fun l2 hl2=>?_⟩
     obtain ⟨H2,qH2,s2,el2⟩:=new_at (o:=.lst [.str ("open" : Str),.str ("own" : Str)]) hl2
     rw [←qH2]
     obtain ⟨r,hr1,hr2⟩:∃ r:Str,atI [V.str ("open" : Str),V.str ("own" : Str)] (c / 16 % 2)=some (.str r)∧LowW r:=by
      have y0:=Int.emod_nonneg (c / 16) (by decide:(2:Int)≠0)
      have y1:=Int.emod_lt_of_pos (c / 16) (by decide:(0:Int) < 2)
      generalize c / 16 % 2=z at y0 y1 ⊢
      have:z=0∨z=1:=by omega
      rcases this with rfl | rfl
      · exact ⟨_,rfl,low_open⟩
      · exact ⟨_,rfl,low_own⟩
     refine ⟨_,rfl,_,_,rfl,rfl,⟨by decide,by decide⟩,_,_,rfl,rfl,(by show (0:Int) < 2; decide),Or.inl ⟨l2,_,_,.str r,rfl,rfl,SqL.of el2,hr1,_,rfl,fun x dx hx hdx hne=>⟨x,dx,_,_,_,rfl,upd_same,rfl,?_⟩⟩⟩
     rw [upd_upd]
     exact q x (.leaf (.thing r n none)) _ ((s1.trans s2).trans (fresh_ins hx hdx)) (.leaf trivial ⟨dx,.non,upd_same,rfl⟩) ⟨n,hn,.inl ⟨r,hr2,rfl⟩⟩
   refine ⟨_,rfl,_,_,rfl,rfl,(by show (0:Int) < 4; decide),rfl,_,rfl,ite2 (fun _=>?_) (fun _=>?_)⟩
   · refine ⟨_,rfl,fun x dx hx hdx hne=>⟨x,dx,_,_,rfl,upd_same,rfl,?_⟩⟩
     rw [upd_upd]
     exact q x (.leaf (.lett n none)) _ (s1.trans (fresh_ins hx hdx)) (.leaf trivial ⟨dx,.non,upd_same,rfl⟩) ⟨n,hn,.inr (.inl rfl)⟩
   refine ⟨_,rfl,_,_,rfl,rfl,(by show (0:Int) < 4; decide),rfl,_,rfl,ite2 (fun _=>?_) (fun _=>?_)⟩
   · refine ⟨_,rfl,two_le,fun u hu=>?_⟩
     have s2:=same_new (o:=.tup ([n,("a" : Str)].map V.str)) hu
     have eu:(upd H1 u (.tup ([n,("a" : Str)].map V.str))) u=some (.tup ([n,("a" : Str)].map V.str)):=upd_same
     rw [show (HO.tup [.str n,.str ("a" : Str)])=.tup ([n,("a" : Str)].map V.str) from rfl]
     generalize upd H1 u (.tup ([n,("a" : Str)].map V.str))=H2 at s2 eu ⊢
     refine fun x dx hx hdx hne=>⟨x,dx,_,rfl,upd_same,rfl,?_⟩
     rw [upd_upd]
     have s3:=fresh_ins (o:=.own x) (o':=.ins (clsA K "Ask") dx [(("path" : Str),V.ref u)]) hx hdx
     exact q x (.leaf (.ask [n,wa])) _ ((s1.trans s2).trans s3) (.leaf trivial ⟨dx,_,upd_same,u,rfl,s3 _ _ eu⟩) ⟨n,hn,.inr (.inr (.inl rfl))⟩
   refine ⟨_,rfl,one_le,fun u hu=>?_⟩
   have s2:=same_new (o:=.tup ([("b" : Str)].map V.str)) hu
   have eu:(upd H1 u (.tup ([("b" : Str)].map V.str))) u=some (.tup ([("b" : Str)].map V.str)):=upd_same
   rw [show (HO.tup [.str ("b" : Str)])=.tup ([("b" : Str)].map V.str) from rfl]
   generalize upd H1 u (.tup ([("b" : Str)].map V.str))=H2 at s2 eu ⊢
   refine fun y dy hy hdy hney=>⟨y,dy,_,rfl,upd_same,rfl,?_⟩
   rw [upd_upd]
   have s3:=fresh_ins (o:=.own y) (o':=.ins (clsA K "Ask") dy [(("path" : Str),V.ref u)]) hy hdy
   have ey:(upd (upd H2 dy (.own y)) y (.ins (clsA K "Ask") dy [(("path" : Str),V.ref u)])) y=some (.ins (clsA K "Ask") dy [(("path" : Str),V.ref u)]):=upd_same
   generalize upd (upd H2 dy (.own y)) y (.ins (clsA K "Ask") dy [(("path" : Str),V.ref u)])=H3 at s3 ey ⊢
   refine ⟨one_le,fun P hP=>?_⟩
   have s4:=same_new (o:=.lst ([y].map V.ref)) hP
   have eP:(upd H3 P (.lst ([y].map V.ref))) P=some (.lst ([y].map V.ref)):=upd_same
   rw [show (HO.lst [.ref y])=.lst ([y].map V.ref) from rfl]
   generalize upd H3 P (.lst ([y].map V.ref))=H4 at s4 eP ⊢
   refine fun x dx hx hdx hne=>⟨x,dx,P,_,_,[y].map V.ref,rfl,upd_same,?_,fun l' H5 fl ex el' k=>⟨rfl,?_⟩⟩
   · rw [upd_ne (ne_of_none eP hx),upd_ne (ne_of_none eP hdx)]; exact eP
   have s5:Same H4 H5:=fun b o e=>k b o (ne_of_none e hx) (by rw [upd_ne (ne_of_none e hx),upd_ne (ne_of_none e hdx)]; exact e)
   have sA:=s1.trans (s2.trans (s3.trans s4))
   have s35:=s4.trans s5
   exact q x (.node wOp n [.leaf (.ask [wb])]) _ (sA.trans s5) (.node ex el' (sA.free ((fresh_ins hx hdx).free fl)) (.cons (.leaf trivial ⟨dy,_,s35 _ _ ey,u,rfl,(s3.trans s35) _ _ eu⟩) .nil)) ⟨n,hn,.inr (.inr (.inr rfl))⟩
variable (P w K mg base) in
abbrev C__law_plain:Prop:=Callee P w K mg base "_law_plain" 3 ["_law_cell"] (sp__law_plain K)
theorem call__law_plain (B:Blt mg) (ER:Ers K mg) (c_Thing__init___D:CalleeN P w K mg base (clsA K "Thing") 1 ["self", "reach", "name", "of"] [.none] (sp_Thing__init__ K)) (c_Let__init___D:CalleeN P w K mg base (clsA K "Let") 1 ["self", "name", "of"] [.none] (sp_Let__init__ K)) (c_Ask__init__:CalleeN P w K mg base (clsA K "Ask") 1 ["self", "path"] [] (sp_Ask__init__ K)) (c_Part__init__:CalleeN P w K mg base (clsA K "Part") 1 ["self", "reach", "name", "items"] [] (sp_Part__init__ K)) (F:Fun K "_law_plain" "_law_plain" s__law_plain f fd) (hm:mg "_law_plain" = some (.ref f)):C__law_plain P w K mg base :=
 ⟨f,fd,ok__law_plain B ER c_Thing__init___D c_Let__init___D c_Ask__init__ c_Part__init__ F,hm,F.kp,F.binds fun _ _ _ _ _ _ us hl=>(by obtain ⟨x0,rfl⟩:=len_1 hl; rfl)⟩
theorem cell_some {ns:List Int} {k:Int} (hk:0≤k) (hlt:k < ns.length):atI (ns.map V.int) k=some (V.int (cellAt ns k)):=by
 obtain ⟨n,rfl⟩:=Int.eq_ofNat_of_zero_le hk
 have hn:n < ns.length:=by omega
 refine atI_nat ?_
 rw [List.getElem?_map,List.getElem?_eq_getElem hn]
 show some (V.int ns[n])=some (V.int ((ns[((n:Int)).toNat]?).getD 0))
 rw [Int.toNat_natCast,List.getElem?_eq_getElem hn]
 rfl
theorem cell_none {ns:List Int} {k:Int} (hk:0≤k) (hlt:¬ k < ns.length):cellAt ns k=0:=by
 unfold cellAt
 rw [List.getElem?_eq_none (by omega)]
 rfl
def sp__law_cell_at (K:PySem.W.Frag):Sp:=fun vs H Q _=>∃ a ns k,vs=[.ref a,.int k]∧0≤k∧SqL K H a (ns.map V.int)∧Q (.int (cellAt ns k)) H
theorem ok__law_cell_at (B:Blt mg) (ER:Ers K mg)  (F:Fun K "_law_cell_at" "_law_cell_at" s__law_cell_at f fd):FnOk P w K mg base CX0 1 f fd ["_law_script", "_law_k"] (sp__law_cell_at K):=by
 refine F.ok sc__law_cell_at (fun vs H Q E h=>?_) (fun cdv A outer s H vs Q E hr h=>?_)
 · obtain ⟨a,ns,k,rfl,_⟩:=h
   rfl
 · obtain ⟨a,ns,k,rfl,hk,hS,q⟩:=h
   refine ⟨_,(pss_cons (ps_if (pt_cmpR op_lt (pv 1) (pe_callB call_len B.b_len (pa_cons (pv 0) pa_nil)) (nomark _)) (pss_one (ps_ret (pe_ix ix_seq (pv 0) (pv 1)))) pss_nil)
    (pss_one (ps_ret pe_int))),?_⟩
   refine ⟨_,rfl,_,rfl,_,_,rfl,Or.inl ⟨_,hS,rfl⟩,_,_,rfl,rfl,_,rfl,?_⟩
   rw [List.length_map]
   refine ite2 (fun hlt=>?_) (fun hge=>?_)
   · have hlt:=of_decide_eq_true hlt
     exact ⟨_,rfl,_,rfl,Or.inl ⟨_,_,_,_,rfl,rfl,hS,cell_some hk hlt,q⟩⟩
   · have hge:¬ k < (ns.length:Int):=fun z=>hge (decide_eq_true z)
     show Q (.int 0) H
     rw [cell_none hk hge] at q
     exact q
variable (P w K mg base) in
abbrev C__law_cell_at:Prop:=Callee P w K mg base "_law_cell_at" 1 ["_law_script", "_law_k"] (sp__law_cell_at K)
theorem call__law_cell_at (B:Blt mg) (ER:Ers K mg)  (F:Fun K "_law_cell_at" "_law_cell_at" s__law_cell_at f fd) (hm:mg "_law_cell_at" = some (.ref f)):C__law_cell_at P w K mg base :=
 ⟨f,fd,ok__law_cell_at B ER  F,hm,F.kp,F.binds fun _ _ _ _ _ _ us hl=>(by obtain ⟨x0,x1,rfl⟩:=len_2 hl; rfl)⟩
theorem rN_at (k:Nat):atI [V.str ("open" : Str),V.str ("own" : Str)] ((0 + (k:Int)) % 2)=some (.str (rN k)):=by
 unfold rN
 have y0:=Nat.mod_two_eq_zero_or_one k
 rcases y0 with h | h
 · rw [if_pos h,show (0 + (k:Int)) % 2=0 by omega]; rfl
 · rw [if_neg (by omega),show (0 + (k:Int)) % 2=1 by omega]; rfl
def sp__law_nested (K:PySem.W.Frag):Sp:=fun vs H Q _=>∃ (n:Nat) (P:Addr) (as:List Addr) (ts:List Tre),vs=[.int (n:Int),.ref P]∧n≤100∧H P=some (.lst (as.map V.ref))∧TresH K H as ts∧∀ (P':Addr) (as':List Addr) (H':Hp),Same H H'→H' P'=some (.lst (as'.map V.ref))→TresH K H' as' (nestT n ts)→Q (.ref P') H'
theorem ok__law_nested (B:Blt mg) (ER:Ers K mg) (c_Part__init__:CalleeN P w K mg base (clsA K "Part") 1 ["self", "reach", "name", "items"] [] (sp_Part__init__ K)) (F:Fun K "_law_nested" "_law_nested" s__law_nested f fd):FnOk P w K mg base CX0 3 f fd ["_law_many", "_law_items"] (sp__law_nested K):=by
 refine F.ok sc__law_nested (fun vs H Q E h=>?_) (fun cdv A outer s H vs Q E hr h=>?_)
 · obtain ⟨n,P,as,ts,rfl,_⟩:=h
   rfl
 · obtain ⟨n,P,as,ts,rfl,hn,eP,hT,q⟩:=h
   refine ⟨_,(pss_cons (ps_for PassesOwn.never rfl (pi_range1 rfl B.b_range (pa_cons (pv 0) pa_nil)) (pg_name (i:=2) sc__law_nested.nd) (pss_one (ps_set (i:=1) sc__law_nested.nd (pe_lst (pa_cons (pe_mk c_Part__init__ (hr.mono (by decide)) rfl ER.e_Part .nil (pa_cons (pe_ix ix_seq (pe_lst (pa_cons pe_str (pa_cons pe_str pa_nil))) (pe_op op_mod (pv 2) pe_int)) (pa_cons pe_str (pa_cons (pv 1) pa_nil)))) pa_nil)))))
    (pss_one (ps_ret (pv 1)))),?_⟩
   refine ⟨_,rfl,_,rfl,by omega,by omega,for_range (lo:=0) (n:=((n:Nat):Int).toNat) (fun i σ H'=>∃ (w2:Option V) (P':Addr) (as':List Addr),σ=[some (.int (n:Int)),some (.ref P'),w2]∧Same H H'∧H' P'=some (.lst (as'.map V.ref))∧TresH K H' as' (nestT i ts)) ⟨none,P,as,rfl,Same.refl _,eP,hT⟩ ?_ ?_⟩
   rotate_left
   · rintro σ H2 ⟨w2,P',as',rfl,s2,eP',hT'⟩
     rw [Int.toNat_natCast] at hT'
     exact ⟨_,rfl,q P' as' H2 s2 eP' hT'⟩
   rintro i σ H2 hi ⟨w2,P',as',rfl,s2,eP',hT'⟩
   refine g_in ?_
   try dsimp only
   refine ⟨two_le,fun l hl=>?_⟩
   obtain ⟨H3,qH3,s3,el⟩:=new_at (o:=.lst [.str ("open" : Str),.str ("own" : Str)]) hl
   rw [←qH3]
   refine ⟨_,rfl,_,_,rfl,rfl,(by show (0:Int) < 2; decide),Or.inl ⟨l,_,_,.str (rN i),rfl,rfl,SqL.of el,rN_at i,?_⟩⟩
   have e3:=s3 _ _ eP'
   refine ⟨_,rfl,fun x dx hx hdx hne=>⟨x,dx,P',_,_,as'.map V.ref,rfl,upd_same,?_,fun l' H5 fl ex el' k=>⟨rfl,?_⟩⟩⟩
   · rw [upd_ne (ne_of_none e3 hx),upd_ne (ne_of_none e3 hdx)]; exact e3
   have s5:Same H3 H5:=fun b o e=>k b o (ne_of_none e hx) (by rw [upd_ne (ne_of_none e hx),upd_ne (ne_of_none e hdx)]; exact e)
   refine ⟨one_le,fun L hL=>?_⟩
   have s6:=same_new (o:=.lst [.ref x]) hL
   refine ⟨_,L,[x],rfl,s2.trans (s3.trans (s5.trans s6)),upd_same,?_⟩
   rw [nestT]
   exact .cons (.node (s6 _ _ ex) (s6 _ _ el') (hT'.same (s3.trans (s5.trans s6)))) .nil
variable (P w K mg base) in
abbrev C__law_nested:Prop:=Callee P w K mg base "_law_nested" 3 ["_law_many", "_law_items"] (sp__law_nested K)
theorem call__law_nested (B:Blt mg) (ER:Ers K mg) (c_Part__init__:CalleeN P w K mg base (clsA K "Part") 1 ["self", "reach", "name", "items"] [] (sp_Part__init__ K)) (F:Fun K "_law_nested" "_law_nested" s__law_nested f fd) (hm:mg "_law_nested" = some (.ref f)):C__law_nested P w K mg base :=
 ⟨f,fd,ok__law_nested B ER c_Part__init__ F,hm,F.kp,F.binds fun _ _ _ _ _ _ us hl=>(by obtain ⟨x0,x1,rfl⟩:=len_2 hl; rfl)⟩
theorem rH_at (k:Nat):atI [V.str ("own" : Str),V.str ("open" : Str)] ((0 + (k:Int)) % 2)=some (.str (rH k)):=by
 unfold rH
 have y0:=Nat.mod_two_eq_zero_or_one k
 rcases y0 with h | h
 · rw [if_pos h,show (0 + (k:Int)) % 2=0 by omega]; rfl
 · rw [if_neg (by omega),show (0 + (k:Int)) % 2=1 by omega]; rfl
def sp__law_homes (K:PySem.W.Frag):Sp:=fun vs H Q _=>∃ (n:Nat) (P:Addr) (as:List Addr) (ts:List Tre),vs=[.int (n:Int),.ref P]∧n≤100∧H P=some (.lst (as.map V.ref))∧TresH K H as ts∧∀ (P':Addr) (as':List Addr) (H':Hp),Same H H'→H' P'=some (.lst (as'.map V.ref))→TresH K H' as' (homeT ts n)→Q (.ref P') H'
theorem ok__law_homes (B:Blt mg) (ER:Ers K mg) (c_Part__init__:CalleeN P w K mg base (clsA K "Part") 1 ["self", "reach", "name", "items"] [] (sp_Part__init__ K)) (F:Fun K "_law_homes" "_law_homes" s__law_homes f fd):FnOk P w K mg base CX0 3 f fd ["_law_many", "_law_items"] (sp__law_homes K):=by
 refine F.ok sc__law_homes (fun vs H Q E h=>?_) (fun cdv A outer s H vs Q E hr h=>?_)
 · obtain ⟨n,P,as,ts,rfl,_⟩:=h
   rfl
 · obtain ⟨n,P,as,ts,rfl,hn,eP,hT,q⟩:=h
   refine ⟨_,(pss_one (ps_ret (pe_comp (te:=tMake (clsA K "Part") (sp_Part__init__ K) [] E0 (tCons (tOp (rIx K) (tLst (tCons (tC (.str "own")) (tCons (tC (.str "open")) tNil))) (tOp (rI (fun _ j=>0 < j) fun i j=>V.int (i % j)) (tVar 0) (tC (.int 2)))) (tCons (tC (.str "a")) (tCons (tVar 1) tNil)))) rfl _law_homes_cs1 (pi_range1 rfl B.b_range (pa_cons (pv 0) pa_nil)) (fun _ _ _ _ _=>(pg_name (i:=0) _law_homes_cs1.nd)) (fun _ _ _ _ _=>pf_nil) (fun _ _ _ _ _=>(pe_mk c_Part__init__ (hr.mono (by decide)) rfl ER.e_Part .nil (pa_cons (pe_ix ix_seq (pe_lst (pa_cons pe_str (pa_cons pe_str pa_nil))) (pe_op op_mod (pv 0) pe_int)) (pa_cons pe_str (pa_cons (pv 1) pa_nil)))))))),?_⟩
   refine ⟨_,rfl,_,rfl,by omega,by omega,comp_tre (K:=K) (by rw [Int.toNat_natCast]; omega) (homeT ts) rfl (fun i=>.node (rH i) wa ts) (fun i=>rfl) (fun i H2 R hi s2 k=>?_) (fun D as' H2 s2 hD eD hT'=>?_)⟩
   · refine ⟨two_le,fun l hl=>?_⟩
     obtain ⟨H3,qH3,s3,el⟩:=new_at (o:=.lst [.str ("own" : Str),.str ("open" : Str)]) hl
     rw [←qH3]
     refine ⟨_,rfl,_,_,rfl,rfl,(by show (0:Int) < 2; decide),Or.inl ⟨l,_,_,.str (rH i),rfl,rfl,SqL.of el,rH_at i,?_⟩⟩
     have s23:=s2.trans s3
     have e3:=s23 _ _ eP
     refine ⟨_,rfl,fun x dx hx hdx hne=>⟨x,dx,P,_,_,as.map V.ref,rfl,upd_same,?_,fun l' H5 fl ex el' k2=>⟨rfl,?_⟩⟩⟩
     · rw [upd_ne (ne_of_none e3 hx),upd_ne (ne_of_none e3 hdx)]; exact e3
     have s5:Same H3 H5:=fun b o e=>k2 b o (ne_of_none e hx) (by rw [upd_ne (ne_of_none e hx),upd_ne (ne_of_none e hdx)]; exact e)
     exact k x H5 (s3.trans s5) (.node ex el' (.inr (s3.free ((fresh_ins hx hdx).free fl))) (hT.toF.keeps (s23.trans s5).toKeeps (fun _ _ z=>z) fun y z=>.inl z))
   · rw [Int.toNat_natCast] at hT'
     exact q D as' H2 s2 eD hT'
variable (P w K mg base) in
abbrev C__law_homes:Prop:=Callee P w K mg base "_law_homes" 3 ["_law_many", "_law_items"] (sp__law_homes K)
theorem call__law_homes (B:Blt mg) (ER:Ers K mg) (c_Part__init__:CalleeN P w K mg base (clsA K "Part") 1 ["self", "reach", "name", "items"] [] (sp_Part__init__ K)) (F:Fun K "_law_homes" "_law_homes" s__law_homes f fd) (hm:mg "_law_homes" = some (.ref f)):C__law_homes P w K mg base :=
 ⟨f,fd,ok__law_homes B ER c_Part__init__ F,hm,F.kp,F.binds fun _ _ _ _ _ _ us hl=>(by obtain ⟨x0,x1,rfl⟩:=len_2 hl; rfl)⟩
def sp_All__init__ (K:PySem.W.Frag):Sp:=fun vs H Q _=>∃ (x dx:Addr) (v0 v1:V),vs=[.ref x,v0,v1]∧H x=some (.ins (clsA K "All") dx [])∧Q .non (upd H x (.ins (clsA K "All") dx [(("path" : Str),v0),(("on" : Str),v1)]))
theorem ok_All__init__ {T f:Addr} {fd:FuncData} (B:Blt mg) (ER:Ers K mg)  (F:FunD K "__init__" "All.__init__" s_All__init__ T f fd):FnOk P w K mg base CX0 1 f fd ["self", "path", "on"] (sp_All__init__ K):=by
 refine F.ok sc_All__init__ (fun vs H Q E h=>?_) (fun cdv A outer s H vs Q E hr h=>?_)
 · obtain ⟨x,dx,v0,v1,rfl,_⟩:=h
   rfl
 · obtain ⟨x,dx,v0,v1,rfl,hx,q⟩:=h
   refine ⟨_,(pss_cons (ps_fld (pv 0) (pv 1) rfl)
    (pss_one (ps_fld (pv 0) (pv 2) rfl))),?_⟩
   refine ⟨_,rfl,_,rfl,x,_,dx,[],rfl,hx,ER.cl_All,ER.na_All_path,by show _ < 1000; simp,?_⟩
   rw [show putF "path" v0 []=[(("path" : Str),v0)] from rfl]
   refine ⟨_,rfl,_,rfl,x,_,dx,[(("path" : Str),v0)],rfl,upd_same,ER.cl_All,ER.na_All_on,by show _ < 1000; simp,?_⟩
   rw [show putF "on" v1 [(("path" : Str),v0)]=[(("path" : Str),v0),(("on" : Str),v1)] from rfl]
   rw [upd_upd]
   exact q
theorem call_All__init__ {f:Addr} {fd:FuncData} {T:Addr} {oT:Obj} {nT:Nat} (lT:K.lookup T=some oT) (hT:oT.data=.seq #[.bool false] nT) (B:Blt mg) (ER:Ers K mg)  (F:FunD K "__init__" "All.__init__" s_All__init__ T f fd) (M:Mk K (clsA K "All") f):CalleeN P w K mg base (clsA K "All") 1 ["self", "path", "on"] [] (sp_All__init__ K) :=
 ⟨f,fd,ok_All__init__ B ER  F,M,F.binds lT hT fun _ _ _ _ _ _ us hl=>(by rw [List.append_nil] at hl ⊢; obtain ⟨x0,x1,x2,rfl⟩:=len_3 hl; exact ⟨_,rfl,rfl⟩)⟩
theorem call_All__init___D {f:Addr} {fd:FuncData} {T:Addr} {oT:Obj} {nT:Nat} (lT:K.lookup T=some oT) (hT:oT.data=.seq #[.bool false] nT) (B:Blt mg) (ER:Ers K mg)  (F:FunD K "__init__" "All.__init__" s_All__init__ T f fd) (M:Mk K (clsA K "All") f):CalleeN P w K mg base (clsA K "All") 1 ["self", "path", "on"] [(.bool false)] (sp_All__init__ K) :=
 ⟨f,fd,ok_All__init__ B ER  F,M,F.binds lT hT fun _ _ _ _ _ _ us hl=>(by rw [List.length_append] at hl; obtain ⟨x0,x1,rfl⟩:=len_2 (Nat.succ.inj hl); exact ⟨_,rfl,rfl⟩)⟩
def sp_One__init__ (K:PySem.W.Frag):Sp:=fun vs H Q _=>∃ (x dx:Addr) (v0 v1 v2:V),vs=[.ref x,v0,v1,v2]∧H x=some (.ins (clsA K "One") dx [])∧Q .non (upd H x (.ins (clsA K "One") dx [(("reach" : Str),v0),(("name" : Str),v1),(("path" : Str),v2)]))
theorem ok_One__init__ (B:Blt mg) (ER:Ers K mg)  (F:Fun K "__init__" "One.__init__" s_One__init__ f fd):FnOk P w K mg base CX0 1 f fd ["self", "reach", "name", "path"] (sp_One__init__ K):=by
 refine F.ok sc_One__init__ (fun vs H Q E h=>?_) (fun cdv A outer s H vs Q E hr h=>?_)
 · obtain ⟨x,dx,v0,v1,v2,rfl,_⟩:=h
   rfl
 · obtain ⟨x,dx,v0,v1,v2,rfl,hx,q⟩:=h
   refine ⟨_,(pss_cons (ps_fld (pv 0) (pv 1) rfl)
    (pss_cons (ps_fld (pv 0) (pv 2) rfl)
    (pss_one (ps_fld (pv 0) (pv 3) rfl)))),?_⟩
   refine ⟨_,rfl,_,rfl,x,_,dx,[],rfl,hx,ER.cl_One,ER.na_One_reach,by show _ < 1000; simp,?_⟩
   rw [show putF "reach" v0 []=[(("reach" : Str),v0)] from rfl]
   refine ⟨_,rfl,_,rfl,x,_,dx,[(("reach" : Str),v0)],rfl,upd_same,ER.cl_One,ER.na_One_name,by show _ < 1000; simp,?_⟩
   rw [show putF "name" v1 [(("reach" : Str),v0)]=[(("reach" : Str),v0),(("name" : Str),v1)] from rfl]
   rw [upd_upd]
   refine ⟨_,rfl,_,rfl,x,_,dx,[(("reach" : Str),v0),(("name" : Str),v1)],rfl,upd_same,ER.cl_One,ER.na_One_path,by show _ < 1000; simp,?_⟩
   rw [show putF "path" v2 [(("reach" : Str),v0),(("name" : Str),v1)]=[(("reach" : Str),v0),(("name" : Str),v1),(("path" : Str),v2)] from rfl]
   rw [upd_upd]
   exact q
theorem call_One__init__ (B:Blt mg) (ER:Ers K mg)  (F:Fun K "__init__" "One.__init__" s_One__init__ f fd) (M:Mk K (clsA K "One") f):CalleeN P w K mg base (clsA K "One") 1 ["self", "reach", "name", "path"] [] (sp_One__init__ K) :=
 ⟨f,fd,ok_One__init__ B ER  F,M,F.binds fun _ _ _ _ _ _ us hl=>(by obtain ⟨x0,x1,x2,x3,rfl⟩:=len_4 hl; rfl)⟩
def sp_Elder__init__ (K:PySem.W.Frag):Sp:=fun vs H Q _=>∃ (x dx:Addr) (v0:V),vs=[.ref x,v0]∧H x=some (.ins (clsA K "Elder") dx [])∧Q .non (upd H x (.ins (clsA K "Elder") dx [(("path" : Str),v0)]))
theorem ok_Elder__init__ (B:Blt mg) (ER:Ers K mg)  (F:Fun K "__init__" "Elder.__init__" s_Elder__init__ f fd):FnOk P w K mg base CX0 1 f fd ["self", "path"] (sp_Elder__init__ K):=by
 refine F.ok sc_Elder__init__ (fun vs H Q E h=>?_) (fun cdv A outer s H vs Q E hr h=>?_)
 · obtain ⟨x,dx,v0,rfl,_⟩:=h
   rfl
 · obtain ⟨x,dx,v0,rfl,hx,q⟩:=h
   refine ⟨_,(pss_one (ps_fld (pv 0) (pv 1) rfl)),?_⟩
   refine ⟨_,rfl,_,rfl,x,_,dx,[],rfl,hx,ER.cl_Elder,ER.na_Elder_path,by show _ < 1000; simp,?_⟩
   rw [show putF "path" v0 []=[(("path" : Str),v0)] from rfl]
   exact q
theorem call_Elder__init__ (B:Blt mg) (ER:Ers K mg)  (F:Fun K "__init__" "Elder.__init__" s_Elder__init__ f fd) (M:Mk K (clsA K "Elder") f):CalleeN P w K mg base (clsA K "Elder") 1 ["self", "path"] [] (sp_Elder__init__ K) :=
 ⟨f,fd,ok_Elder__init__ B ER  F,M,F.binds fun _ _ _ _ _ _ us hl=>(by obtain ⟨x0,x1,rfl⟩:=len_2 hl; rfl)⟩
def sp__law_much (K:PySem.W.Frag):Sp:=fun vs H Q _=>∃ (c:Int) (o:Nat),vs=[.int c,.int (o:Int)]∧o≤1∧∀ (P':Addr) (as':List Addr) (H':Hp),Same H H'→H' P'=some (.lst (as'.map V.ref))→TresH K H' as' (muchT (c % 11).toNat o)→Q (.ref P') H'
theorem ok__law_much (B:Blt mg) (ER:Ers K mg) (c__law_nested:C__law_nested P w K mg base) (c_Ask__init__:CalleeN P w K mg base (clsA K "Ask") 1 ["self", "path"] [] (sp_Ask__init__ K)) (c__law_homes:C__law_homes P w K mg base) (c_Thing__init___D:CalleeN P w K mg base (clsA K "Thing") 1 ["self", "reach", "name", "of"] [.none] (sp_Thing__init__ K)) (c_Let__init___D:CalleeN P w K mg base (clsA K "Let") 1 ["self", "name", "of"] [.none] (sp_Let__init__ K)) (c_All__init__:CalleeN P w K mg base (clsA K "All") 1 ["self", "path", "on"] [] (sp_All__init__ K)) (c_One__init__:CalleeN P w K mg base (clsA K "One") 1 ["self", "reach", "name", "path"] [] (sp_One__init__ K)) (c_Let__init__:CalleeN P w K mg base (clsA K "Let") 1 ["self", "name", "of"] [] (sp_Let__init__ K)) (c_Part__init__:CalleeN P w K mg base (clsA K "Part") 1 ["self", "reach", "name", "items"] [] (sp_Part__init__ K)) (c_Elder__init__:CalleeN P w K mg base (clsA K "Elder") 1 ["self", "path"] [] (sp_Elder__init__ K)) (F:Fun K "_law_much" "_law_much" s__law_much f fd):FnOk P w K mg base CX0 4 f fd ["_law_cell", "_law_over"] (sp__law_much K):=by
 refine F.ok sc__law_much (fun vs H Q E h=>?_) (fun cdv A outer s H vs Q E hr h=>?_)
 · obtain ⟨c,o,rfl,_⟩:=h
   rfl
 · obtain ⟨c,o,rfl,ho,q⟩:=h
   have qq:∀ (j:Nat) (P':Addr) (as':List Addr) (H':Hp),c % 11=(j:Int)→Same H H'→H' P'=some (.lst (as'.map V.ref))→TresH K H' as' (muchT j o)→Q (.ref P') H':=fun j P' as' H' hj s e t=>q P' as' H' s e (by rw [show (c % 11).toNat=j by omega]; exact t)
   have b0:=Int.emod_nonneg c (by decide:(11:Int)≠0)
   have b1:=Int.emod_lt_of_pos c (by decide:(0:Int) < 11)
   clear q
   refine ⟨_,(pss_cons (ps_if (pt_cmpR op_eq (pe_op op_mod (pv 0) pe_int) pe_int (nomark _)) (pss_one (ps_ret (pe_fn c__law_nested (pa_cons (pe_op op_add pe_int (pv 1)) (pa_cons (pe_lst (pa_cons (pe_mk c_Ask__init__ (hr.mono (by decide)) rfl ER.e_Ask .nil (pa_cons (pe_tup (pa_cons pe_str pa_nil)) pa_nil)) pa_nil)) pa_nil))))) pss_nil)
    (pss_cons (ps_if (pt_cmpR op_eq (pe_op op_mod (pv 0) pe_int) pe_int (nomark _)) (pss_cons (ps_set (i:=2) sc__law_much.nd (pe_fn c__law_homes (pa_cons pe_int (pa_cons (pe_comp rfl _law_much_cs1 (pi_range1 rfl B.b_range (pa_cons pe_int pa_nil)) (fun _ _ _ _ _=>(pg_name (i:=0) _law_much_cs1.nd)) (fun _ _ _ _ _=>pf_nil) (fun _ _ _ _ _=>(pe_mk c_Thing__init___D (hr.mono (by decide)) rfl ER.e_Thing (show Vals [V.non] _ from .cons rfl .nil) (pa_cons pe_str (pa_cons pe_str pa_nil))))) pa_nil))))
     (pss_one (ps_ret (pe_op op_cat (pv 2) (pe_comp rfl _law_much_cs2 (pi_range1 rfl B.b_range (pa_cons (pe_op op_add pe_int (pv 1)) pa_nil)) (fun _ _ _ _ _=>(pg_name (i:=0) _law_much_cs2.nd)) (fun _ _ _ _ _=>pf_nil) (fun _ _ _ _ _=>(pe_mk c_Thing__init___D (hr.mono (by decide)) rfl ER.e_Thing (show Vals [V.non] _ from .cons rfl .nil) (pa_cons pe_str (pa_cons pe_str pa_nil))))))))) pss_nil)
    (pss_cons (ps_if (pt_cmpR op_eq (pe_op op_mod (pv 0) pe_int) pe_int (nomark _)) (pss_one (ps_ret (pe_comp rfl _law_much_cs3 (pi_range1 rfl B.b_range (pa_cons (pe_op op_add pe_int (pv 1)) pa_nil)) (fun _ _ _ _ _=>(pg_name (i:=0) _law_much_cs3.nd)) (fun _ _ _ _ _=>pf_nil) (fun _ _ _ _ _=>(pe_mk c_Let__init___D (hr.mono (by decide)) rfl ER.e_Let (show Vals [V.non] _ from .cons rfl .nil) (pa_cons pe_str pa_nil)))))) pss_nil)
    (pss_cons (ps_if (pt_cmpR op_eq (pe_op op_mod (pv 0) pe_int) pe_int (nomark _)) (pss_one (ps_ret (pe_op op_cat (pe_fn c__law_homes (pa_cons pe_int (pa_cons (pe_fn c__law_homes (pa_cons pe_int (pa_cons (pe_lst pa_nil) pa_nil))) pa_nil))) (pe_fn c__law_homes (pa_cons (pv 1) (pa_cons (pe_lst pa_nil) pa_nil)))))) pss_nil)
    (pss_cons (ps_if (pt_cmpR op_eq (pe_op op_mod (pv 0) pe_int) pe_int (nomark _)) (pss_one (ps_ret (pe_fn c__law_homes (pa_cons pe_int (pa_cons (pe_comp rfl _law_much_cs4 (pi_range1 rfl B.b_range (pa_cons (pe_op op_add pe_int (pv 1)) pa_nil)) (fun _ _ _ _ _=>(pg_name (i:=0) _law_much_cs4.nd)) (fun _ _ _ _ _=>pf_nil) (fun _ _ _ _ _=>(pe_mk c_Ask__init__ (hr.mono (by decide)) rfl ER.e_Ask .nil (pa_cons (pe_tup (pa_cons pe_str pa_nil)) pa_nil)))) pa_nil))))) pss_nil)
    (pss_cons (ps_if (pt_cmpR op_eq (pe_op op_mod (pv 0) pe_int) pe_int (nomark _)) (pss_cons (ps_set (i:=3) sc__law_much.nd (pe_op op_cat (pe_comp rfl _law_much_cs5 (pi_range1 rfl B.b_range (pa_cons pe_int pa_nil)) (fun _ _ _ _ _=>(pg_name (i:=0) _law_much_cs5.nd)) (fun _ _ _ _ _=>pf_nil) (fun _ _ _ _ _=>(pe_mk c_All__init__ (hr.mono (by decide)) rfl ER.e_All .nil (pa_cons (pe_tup (pa_cons pe_str pa_nil)) (pa_cons (pe_cmpR op_eq (pe_op op_mod (pv 0) pe_int) pe_int (nomark _)) pa_nil))))) (pe_comp rfl _law_much_cs6 (pi_range1 rfl B.b_range (pa_cons pe_int pa_nil)) (fun _ _ _ _ _=>(pg_name (i:=0) _law_much_cs6.nd)) (fun _ _ _ _ _=>pf_nil) (fun _ _ _ _ _=>(pe_mk c_One__init__ (hr.mono (by decide)) rfl ER.e_One .nil (pa_cons pe_str (pa_cons pe_str (pa_cons (pe_tup (pa_cons pe_str pa_nil)) pa_nil))))))))
     (pss_one (ps_ret (pe_op op_cat (pe_op op_cat (pv 3) (pe_comp rfl _law_much_cs7 (pi_range1 rfl B.b_range (pa_cons pe_int pa_nil)) (fun _ _ _ _ _=>(pg_name (i:=0) _law_much_cs7.nd)) (fun _ _ _ _ _=>pf_nil) (fun _ _ _ _ _=>(pe_mk c_Let__init__ (hr.mono (by decide)) rfl ER.e_Let .nil (pa_cons pe_str (pa_cons (pe_tup (pa_cons pe_str pa_nil)) pa_nil)))))) (pe_comp rfl _law_much_cs8 (pi_range1 rfl B.b_range (pa_cons (pe_op op_add pe_int (pv 1)) pa_nil)) (fun _ _ _ _ _=>(pg_name (i:=0) _law_much_cs8.nd)) (fun _ _ _ _ _=>pf_nil) (fun _ _ _ _ _=>(pe_mk c_Ask__init__ (hr.mono (by decide)) rfl ER.e_Ask .nil (pa_cons (pe_tup (pa_cons pe_str pa_nil)) pa_nil)))))))) pss_nil)
    (pss_cons (ps_if (pt_cmpR op_eq (pe_op op_mod (pv 0) pe_int) pe_int (nomark _)) (pss_one (ps_ret (pe_comp rfl _law_much_cs9 (pi_range1 rfl B.b_range (pa_cons (pe_op op_add pe_int (pv 1)) pa_nil)) (fun _ _ _ _ _=>(pg_name (i:=0) _law_much_cs9.nd)) (fun _ _ _ _ _=>pf_nil) (fun _ _ _ _ _=>(pe_mk c_All__init__ (hr.mono (by decide)) rfl ER.e_All .nil (pa_cons (pe_tup (pa_cons pe_str pa_nil)) (pa_cons (pe_cmpR op_eq (pe_op op_mod (pv 0) pe_int) pe_int (nomark _)) pa_nil))))))) pss_nil)
    (pss_cons (ps_if (pt_cmpR op_eq (pe_op op_mod (pv 0) pe_int) pe_int (nomark _)) (pss_one (ps_ret (pe_lst (pa_cons (pe_mk c_Part__init__ (hr.mono (by decide)) rfl ER.e_Part .nil (pa_cons pe_str (pa_cons pe_str (pa_cons (pe_comp rfl _law_much_cs10 (pi_range1 rfl B.b_range (pa_cons (pe_op op_add pe_int (pv 1)) pa_nil)) (fun _ _ _ _ _=>(pg_name (i:=0) _law_much_cs10.nd)) (fun _ _ _ _ _=>pf_nil) (fun _ _ _ _ _=>(pe_mk c_Elder__init__ (hr.mono (by decide)) rfl ER.e_Elder .nil (pa_cons (pe_tup (pa_cons pe_str pa_nil)) pa_nil)))) pa_nil)))) pa_nil)))) pss_nil)
    (pss_cons (ps_if (pt_cmpR op_eq (pe_op op_mod (pv 0) pe_int) pe_int (nomark _)) (pss_one (ps_ret (pe_comp rfl _law_much_cs11 (pi_range1 rfl B.b_range (pa_cons (pe_op op_add pe_int (pv 1)) pa_nil)) (fun _ _ _ _ _=>(pg_name (i:=0) _law_much_cs11.nd)) (fun _ _ _ _ _=>pf_nil) (fun _ _ _ _ _=>(pe_mk c_One__init__ (hr.mono (by decide)) rfl ER.e_One .nil (pa_cons pe_str (pa_cons pe_str (pa_cons (pe_tup (pa_cons pe_str pa_nil)) pa_nil)))))))) pss_nil)
    (pss_cons (ps_if (pt_cmpR op_eq (pe_op op_mod (pv 0) pe_int) pe_int (nomark _)) (pss_one (ps_ret (pe_lst (pa_cons (pe_mk c_Part__init__ (hr.mono (by decide)) rfl ER.e_Part .nil (pa_cons pe_str (pa_cons pe_str (pa_cons (pe_comp rfl _law_much_cs12 (pi_range1 rfl B.b_range (pa_cons (pe_op op_add pe_int (pv 1)) pa_nil)) (fun _ _ _ _ _=>(pg_name (i:=0) _law_much_cs12.nd)) (fun _ _ _ _ _=>pf_nil) (fun _ _ _ _ _=>(pe_mk c_Thing__init___D (hr.mono (by decide)) rfl ER.e_Thing (show Vals [V.non] _ from .cons rfl .nil) (pa_cons pe_str (pa_cons pe_str pa_nil))))) pa_nil)))) pa_nil)))) pss_nil)
    (pss_one (ps_ret (pe_lst (pa_cons (pe_mk c_Ask__init__ (hr.mono (by decide)) rfl ER.e_Ask .nil (pa_cons (pe_callTy call_tuple_of B.b_tuple (pa_cons (pe_op op_mulL (pe_lst (pa_cons pe_str pa_nil)) (pe_op op_add pe_int (pv 1))) pa_nil)) pa_nil)) pa_nil)))))))))))))),?_⟩
   refine ⟨_,rfl,_,_,rfl,rfl,(by show (0:Int) < 11; decide),rfl,_,rfl,ite2 (fun h=>?_) (fun h=>?_)⟩
   · have hc:c % 11=0:=V.int.inj (of_decide_eq_true h)
     refine ⟨_,rfl,_,_,rfl,rfl,one_le,fun u hu=>?_⟩
     have s1:=same_new (o:=.tup ([wa].map V.str)) hu
     have eu:(upd H u (.tup ([wa].map V.str))) u=some (.tup ([wa].map V.str)):=upd_same
     rw [show (HO.tup [V.str ("a" : Str)])=.tup ([wa].map V.str) from rfl]
     generalize upd H u (.tup ([wa].map V.str))=H1 at s1 eu ⊢
     refine fun x dx hx hdx hne=>⟨x,dx,_,rfl,upd_same,rfl,?_⟩
     rw [upd_upd]
     have s2:=fresh_ins (o:=.own x) (o':=.ins (clsA K "Ask") dx [(("path" : Str),V.ref u)]) hx hdx
     have ex:(upd (upd H1 dx (.own x)) x (.ins (clsA K "Ask") dx [(("path" : Str),V.ref u)])) x=some (.ins (clsA K "Ask") dx [(("path" : Str),V.ref u)]):=upd_same
     generalize upd (upd H1 dx (.own x)) x (.ins (clsA K "Ask") dx [(("path" : Str),V.ref u)])=H2 at s2 ex ⊢
     refine ⟨one_le,fun l hl=>?_⟩
     have s3:=same_new (o:=.lst ([x].map V.ref)) hl
     have el:(upd H2 l (.lst ([x].map V.ref))) l=some (.lst ([x].map V.ref)):=upd_same
     rw [show (HO.lst [.ref x])=.lst ([x].map V.ref) from rfl]
     generalize upd H2 l (.lst ([x].map V.ref))=H3 at s3 el ⊢
     have s23:=s2.trans s3
     refine ⟨30 + o,l,[x],[tAsk],congrArg (fun z=>[V.int z,V.ref l]) (show (30:Int) + (o:Int)=((30 + o:Nat):Int) by omega),by omega,el,.cons (.leaf trivial ⟨dx,_,s3 _ _ ex,u,rfl,s23 _ _ eu⟩) .nil,fun P' as' H' s' e' t'=>qq 0 P' as' H' hc (s1.trans (s23.trans s')) e' t'⟩
   have n0:¬ c % 11=0:=fun e=>h (decide_eq_true (congrArg V.int e))
   clear h
   refine ⟨_,rfl,_,_,rfl,rfl,(by show (0:Int) < 11; decide),rfl,_,rfl,ite2 (fun h=>?_) (fun h=>?_)⟩
   · have hc:c % 11=1:=V.int.inj (of_decide_eq_true h)
     refine ⟨_,rfl,by decide,by decide,comp_rep (K:=K) (by decide) (.leaf (.thing wOp wb none)) (fun i H2 R s2 k=>fun x dx hx hdx hne=>⟨x,dx,_,_,_,rfl,upd_same,rfl,mk_k hx hdx fun H3 s3 ex=>k x H3 s3 fun F=>.leaf trivial ⟨dx,.non,ex,rfl⟩⟩) (fun D as H2 s2 hD eD hT=>?_)⟩
     refine ⟨6,D,as,_,rfl,by decide,eD,hT,fun P' as' H' s' e' t'=>?_⟩
     refine g_in ?_
     try dsimp only
     refine ⟨_,rfl,_,rfl,_,_,rfl,rfl,_,rfl,by omega,by omega,comp_rep (K:=K) (Nat.le_trans (show (2 + (o:Int)).toNat≤100 by omega) (by decide)) (.leaf (.thing wOw wc none)) (fun i H2 R s2 k=>fun x dx hx hdx hne=>⟨x,dx,_,_,_,rfl,upd_same,rfl,mk_k hx hdx fun H3 s3 ex=>k x H3 s3 fun F=>.leaf trivial ⟨dx,.non,ex,rfl⟩⟩) (fun D2 bs H3 s3 hD3 eD3 hT3=>?_)⟩
     rw [show (2 + (o:Int)).toNat=2 + o by omega] at hT3
     exact cat_tres (s3 _ _ e') eD3 (t'.same s3) hT3 (by rw [home_len,List.length_replicate]; omega) fun p cs H4 s4 e4 t4=>qq 1 p cs H4 hc (s2.trans (s'.trans (s3.trans s4))) e4 t4
   have n1:¬ c % 11=1:=fun e=>h (decide_eq_true (congrArg V.int e))
   clear h
   refine ⟨_,rfl,_,_,rfl,rfl,(by show (0:Int) < 11; decide),rfl,_,rfl,ite2 (fun h=>?_) (fun h=>?_)⟩
   · have hc:c % 11=2:=V.int.inj (of_decide_eq_true h)
     refine ⟨_,rfl,_,_,rfl,rfl,_,rfl,by omega,by omega,comp_rep (K:=K) (Nat.le_trans (show (39 + (o:Int)).toNat≤100 by omega) (by decide)) (.leaf (.lett wa none)) (fun i H2 R s2 k=>fun x dx hx hdx hne=>⟨x,dx,_,_,rfl,upd_same,rfl,mk_k hx hdx fun H3 s3 ex=>k x H3 s3 fun F=>.leaf trivial ⟨dx,.non,ex,rfl⟩⟩) (fun D as H2 s2 hD eD hT=>?_)⟩
     rw [show (39 + (o:Int)).toNat=39 + o by omega] at hT
     exact qq 2 D as H2 hc s2 eD hT
   have n2:¬ c % 11=2:=fun e=>h (decide_eq_true (congrArg V.int e))
   clear h
   refine ⟨_,rfl,_,_,rfl,rfl,(by show (0:Int) < 11; decide),rfl,_,rfl,ite2 (fun h=>?_) (fun h=>?_)⟩
   · have hc:c % 11=3:=V.int.inj (of_decide_eq_true h)
     refine ⟨by decide,fun l0 hl0=>?_⟩
     refine ⟨12,l0,[],[],rfl,by decide,upd_same,.nil,fun P1 as1 H1 s1 e1 t1=>?_⟩
     refine ⟨3,P1,as1,_,rfl,by decide,e1,t1,fun P2 as2 H2 s2 e2 t2=>?_⟩
     refine ⟨_,rfl,by decide,fun l1 hl1=>?_⟩
     refine ⟨o,l1,[],[],rfl,by omega,upd_same,.nil,fun P3 as3 H3 s3 e3 t3=>?_⟩
     have s13:=(same_new hl1).trans s3
     exact cat_tres (s13 _ _ e2) e3 (t2.same s13) t3 (by rw [home_len,home_len]; omega) fun p cs H4 s4 e4 t4=>qq 3 p cs H4 hc ((same_new hl0).trans (s1.trans (s2.trans (s13.trans s4)))) e4 t4
   have n3:¬ c % 11=3:=fun e=>h (decide_eq_true (congrArg V.int e))
   clear h
   refine ⟨_,rfl,_,_,rfl,rfl,(by show (0:Int) < 11; decide),rfl,_,rfl,ite2 (fun h=>?_) (fun h=>?_)⟩
   · have hc:c % 11=4:=V.int.inj (of_decide_eq_true h)
     refine ⟨_,rfl,_,_,rfl,rfl,_,rfl,by omega,by omega,comp_rep (K:=K) (Nat.le_trans (show (60 + (o:Int)).toNat≤100 by omega) (by decide)) tAsk (fun i H2 R s2 k=>⟨one_le,fun u hu=>fun x dx hx hdx hne=>⟨x,dx,_,rfl,upd_same,rfl,mk_k hx hdx fun H3 s3 ex=>k x H3 ((same_new hu).trans s3) fun F=>.leaf trivial ⟨dx,_,ex,u,rfl,s3 _ _ upd_same⟩⟩⟩) (fun D as H2 s2 hD eD hT=>?_)⟩
     rw [show (60 + (o:Int)).toNat=60 + o by omega] at hT
     exact ⟨1,D,as,_,rfl,by decide,eD,hT,fun P' as' H' s' e' t'=>qq 4 P' as' H' hc (s2.trans s') e' t'⟩
   have n4:¬ c % 11=4:=fun e=>h (decide_eq_true (congrArg V.int e))
   clear h
   refine ⟨_,rfl,_,_,rfl,rfl,(by show (0:Int) < 11; decide),rfl,_,rfl,ite2 (fun h=>?_) (fun h=>?_)⟩
   · have hc:c % 11=5:=V.int.inj (of_decide_eq_true h)
     refine ⟨_,rfl,by decide,by decide,comp_tre (K:=K) (by decide) allT rfl (fun i=>.leaf (.all [wa] (decide (i % 2=1)))) (fun i=>rfl) (fun i H2 R hi s2 k=>⟨one_le,fun u hu=>⟨_,rfl,_,_,rfl,rfl,(by show (0:Int) < 2; decide),rfl,fun x dx hx hdx hne=>⟨x,dx,_,_,rfl,upd_same,rfl,mk_k hx hdx fun H3 s3 ex=>k x H3 ((same_new hu).trans s3) (.leaf trivial ⟨dx,_,by rw [←dec_all]; exact ex,u,rfl,s3 _ _ upd_same⟩)⟩⟩⟩) (fun D1 as1 H1 s1 hD1 e1 t1=>?_)⟩
     refine ⟨_,rfl,by decide,by decide,comp_rep (K:=K) (by decide) (.leaf (.one wOw wa [wb])) (fun i H2 R s2 k=>⟨one_le,fun u hu=>fun x dx hx hdx hne=>⟨x,dx,_,_,_,rfl,upd_same,rfl,mk_k hx hdx fun H3 s3 ex=>k x H3 ((same_new hu).trans s3) fun F=>.leaf trivial ⟨dx,_,ex,u,rfl,s3 _ _ upd_same⟩⟩⟩) (fun D2 as2 H2 s2 hD2 e2 t2=>?_)⟩
     refine cat_tres (s2 _ _ e1) e2 (t1.same s2) t2 (by rw [all_len,List.length_replicate]; decide) fun p3 as3 H3 s3 e3 t3=>?_
     refine g_in ?_
     try dsimp only
     refine ⟨_,rfl,_,rfl,by decide,by decide,comp_rep (K:=K) (by decide) (.leaf (.lett wa (some [wb]))) (fun i H2 R s2 k=>⟨one_le,fun u hu=>fun x dx hx hdx hne=>⟨x,dx,_,_,rfl,upd_same,rfl,mk_k hx hdx fun H3 s3 ex=>k x H3 ((same_new hu).trans s3) fun F=>.leaf trivial ⟨dx,_,ex,u,rfl,s3 _ _ upd_same⟩⟩⟩) (fun D4 as4 H4 s4 hD4 e4 t4=>?_)⟩
     refine cat_tres (s4 _ _ e3) e4 (t3.same s4) t4 (by rw [List.length_append,all_len,List.length_replicate,List.length_replicate]; decide) fun p5 as5 H5 s5 e5 t5=>?_
     refine ⟨_,rfl,_,_,rfl,rfl,_,rfl,by omega,by omega,comp_rep (K:=K) (Nat.le_trans (show (22 + (o:Int)).toNat≤100 by omega) (by decide)) tAsk (fun i H2 R s2 k=>⟨one_le,fun u hu=>fun x dx hx hdx hne=>⟨x,dx,_,rfl,upd_same,rfl,mk_k hx hdx fun H3 s3 ex=>k x H3 ((same_new hu).trans s3) fun F=>.leaf trivial ⟨dx,_,ex,u,rfl,s3 _ _ upd_same⟩⟩⟩) (fun D6 as6 H6 s6 hD6 e6 t6=>?_)⟩
     rw [show (22 + (o:Int)).toNat=22 + o by omega] at t6
     exact cat_tres (s6 _ _ e5) e6 (t5.same s6) t6 (by rw [List.length_append,List.length_append,all_len,List.length_replicate,List.length_replicate,List.length_replicate]; omega) fun p cs H7 s7 e7 t7=>qq 5 p cs H7 hc (s1.trans (s2.trans (s3.trans (s4.trans (s5.trans (s6.trans s7)))))) e7 t7
   have n5:¬ c % 11=5:=fun e=>h (decide_eq_true (congrArg V.int e))
   clear h
   refine ⟨_,rfl,_,_,rfl,rfl,(by show (0:Int) < 11; decide),rfl,_,rfl,ite2 (fun h=>?_) (fun h=>?_)⟩
   · have hc:c % 11=6:=V.int.inj (of_decide_eq_true h)
     refine ⟨_,rfl,_,_,rfl,rfl,_,rfl,by omega,by omega,comp_tre (K:=K) (Nat.le_trans (show (8 + (o:Int)).toNat≤100 by omega) (by decide)) allT rfl (fun i=>.leaf (.all [wa] (decide (i % 2=1)))) (fun i=>rfl) (fun i H2 R hi s2 k=>⟨one_le,fun u hu=>⟨_,rfl,_,_,rfl,rfl,(by show (0:Int) < 2; decide),rfl,fun x dx hx hdx hne=>⟨x,dx,_,_,rfl,upd_same,rfl,mk_k hx hdx fun H3 s3 ex=>k x H3 ((same_new hu).trans s3) (.leaf trivial ⟨dx,_,by rw [←dec_all]; exact ex,u,rfl,s3 _ _ upd_same⟩)⟩⟩⟩) (fun D as H2 s2 hD eD hT=>?_)⟩
     rw [show (8 + (o:Int)).toNat=8 + o by omega] at hT
     exact qq 6 D as H2 hc s2 eD hT
   have n6:¬ c % 11=6:=fun e=>h (decide_eq_true (congrArg V.int e))
   clear h
   refine ⟨_,rfl,_,_,rfl,rfl,(by show (0:Int) < 11; decide),rfl,_,rfl,ite2 (fun h=>?_) (fun h=>?_)⟩
   · have hc:c % 11=7:=V.int.inj (of_decide_eq_true h)
     refine ⟨_,rfl,_,_,rfl,rfl,_,rfl,by omega,by omega,comp_rep (K:=K) (Nat.le_trans (show (7 + (o:Int)).toNat≤100 by omega) (by decide)) (.leaf (.elder [wa])) (fun i H2 R s2 k=>⟨one_le,fun u hu=>fun x dx hx hdx hne=>⟨x,dx,_,rfl,upd_same,rfl,mk_k hx hdx fun H3 s3 ex=>k x H3 ((same_new hu).trans s3) fun F=>.leaf trivial ⟨dx,_,ex,u,rfl,s3 _ _ upd_same⟩⟩⟩) (fun D as H2 s2 hD eD hT=>?_)⟩
     rw [show (7 + (o:Int)).toNat=7 + o by omega] at hT
     refine fun x dx hx hdx hne=>⟨x,dx,D,_,_,as.map V.ref,rfl,upd_same,?_,fun l' H5 fl ex el' k=>⟨rfl,?_⟩⟩
     · rw [upd_ne (ne_of_none eD hx),upd_ne (ne_of_none eD hdx)]; exact eD
     have s5:Same H2 H5:=fun b o e=>k b o (ne_of_none e hx) (by rw [upd_ne (ne_of_none e hx),upd_ne (ne_of_none e hdx)]; exact e)
     refine ⟨one_le,fun L hL=>?_⟩
     have s6:=same_new (o:=.lst [.ref x]) hL
     exact qq 7 L [x] _ hc (s2.trans (s5.trans s6)) upd_same (.cons (.node (s6 _ _ ex) (s6 _ _ el') (hT.same (s5.trans s6))) .nil)
   have n7:¬ c % 11=7:=fun e=>h (decide_eq_true (congrArg V.int e))
   clear h
   refine ⟨_,rfl,_,_,rfl,rfl,(by show (0:Int) < 11; decide),rfl,_,rfl,ite2 (fun h=>?_) (fun h=>?_)⟩
   · have hc:c % 11=8:=V.int.inj (of_decide_eq_true h)
     refine ⟨_,rfl,_,_,rfl,rfl,_,rfl,by omega,by omega,comp_rep (K:=K) (Nat.le_trans (show (12 + (o:Int)).toNat≤100 by omega) (by decide)) (.leaf (.one wOp wa [wb])) (fun i H2 R s2 k=>⟨one_le,fun u hu=>fun x dx hx hdx hne=>⟨x,dx,_,_,_,rfl,upd_same,rfl,mk_k hx hdx fun H3 s3 ex=>k x H3 ((same_new hu).trans s3) fun F=>.leaf trivial ⟨dx,_,ex,u,rfl,s3 _ _ upd_same⟩⟩⟩) (fun D as H2 s2 hD eD hT=>?_)⟩
     rw [show (12 + (o:Int)).toNat=12 + o by omega] at hT
     exact qq 8 D as H2 hc s2 eD hT
   have n8:¬ c % 11=8:=fun e=>h (decide_eq_true (congrArg V.int e))
   clear h
   refine ⟨_,rfl,_,_,rfl,rfl,(by show (0:Int) < 11; decide),rfl,_,rfl,ite2 (fun h=>?_) (fun h=>?_)⟩
   · have hc:c % 11=9:=V.int.inj (of_decide_eq_true h)
     refine ⟨_,rfl,_,_,rfl,rfl,_,rfl,by omega,by omega,comp_rep (K:=K) (Nat.le_trans (show (12 + (o:Int)).toNat≤100 by omega) (by decide)) (.leaf (.thing wOw wa none)) (fun i H2 R s2 k=>fun x dx hx hdx hne=>⟨x,dx,_,_,_,rfl,upd_same,rfl,mk_k hx hdx fun H3 s3 ex=>k x H3 s3 fun F=>.leaf trivial ⟨dx,.non,ex,rfl⟩⟩) (fun D as H2 s2 hD eD hT=>?_)⟩
     rw [show (12 + (o:Int)).toNat=12 + o by omega] at hT
     refine fun x dx hx hdx hne=>⟨x,dx,D,_,_,as.map V.ref,rfl,upd_same,?_,fun l' H5 fl ex el' k=>⟨rfl,?_⟩⟩
     · rw [upd_ne (ne_of_none eD hx),upd_ne (ne_of_none eD hdx)]; exact eD
     have s5:Same H2 H5:=fun b o e=>k b o (ne_of_none e hx) (by rw [upd_ne (ne_of_none e hx),upd_ne (ne_of_none e hdx)]; exact e)
     refine ⟨one_le,fun L hL=>?_⟩
     have s6:=same_new (o:=.lst [.ref x]) hL
     exact qq 9 L [x] _ hc (s2.trans (s5.trans s6)) upd_same (.cons (.node (s6 _ _ ex) (s6 _ _ el') (hT.same (s5.trans s6))) .nil)
   have n9:¬ c % 11=9:=fun e=>h (decide_eq_true (congrArg V.int e))
   clear h
   have hc:c % 11=10:=by omega
   refine ⟨one_le,fun l hl=>⟨_,rfl,_,_,rfl,rfl,l,_,_,rfl,rfl,upd_same,⟨by omega,by omega⟩,(by show 1 * (6 + (o:Int)).toNat≤1000; omega),fun l2 hl2=>?_⟩⟩
   refine ⟨l2,_,rfl,Or.inl ⟨SqL.of upd_same,fun u hu=>?_⟩⟩
   have s1:=(same_new hl).trans ((same_new hl2).trans (same_new (o:=.tup (List.replicate (6 + (o:Int)).toNat [V.str ("a" : Str)]).flatten) hu))
   have eu:=upd_same (H:=upd (upd H l (.lst [V.str ("a" : Str)])) l2 (.lst (List.replicate (6 + (o:Int)).toNat [V.str ("a" : Str)]).flatten)) (a:=u) (o:=.tup (List.replicate (6 + (o:Int)).toNat [V.str ("a" : Str)]).flatten)
   generalize upd (upd (upd H l (.lst [V.str ("a" : Str)])) l2 (.lst (List.replicate (6 + (o:Int)).toNat [V.str ("a" : Str)]).flatten)) u (.tup (List.replicate (6 + (o:Int)).toNat [V.str ("a" : Str)]).flatten)=H1 at s1 eu ⊢
   rw [List.flatten_replicate_singleton,show (6 + (o:Int)).toNat=6 + o by omega,show List.replicate (6 + o) (V.str ("a" : Str))=(List.replicate (6 + o) wa).map V.str by rw [List.map_replicate]] at eu
   refine fun x dx hx hdx hne=>⟨x,dx,_,rfl,upd_same,rfl,?_⟩
   rw [upd_upd]
   have s2:=fresh_ins (o:=.own x) (o':=.ins (clsA K "Ask") dx [(("path" : Str),V.ref u)]) hx hdx
   have ex:(upd (upd H1 dx (.own x)) x (.ins (clsA K "Ask") dx [(("path" : Str),V.ref u)])) x=some (.ins (clsA K "Ask") dx [(("path" : Str),V.ref u)]):=upd_same
   generalize upd (upd H1 dx (.own x)) x (.ins (clsA K "Ask") dx [(("path" : Str),V.ref u)])=H2 at s2 ex ⊢
   refine ⟨one_le,fun L hL=>?_⟩
   have s6:=same_new (o:=.lst [.ref x]) hL
   exact qq 10 L [x] _ hc (s1.trans (s2.trans s6)) upd_same (.cons (.leaf trivial ⟨dx,_,s6 _ _ ex,u,rfl,(s2.trans s6) _ _ eu⟩) .nil)
variable (P w K mg base) in
abbrev C__law_much:Prop:=Callee P w K mg base "_law_much" 4 ["_law_cell", "_law_over"] (sp__law_much K)
theorem call__law_much (B:Blt mg) (ER:Ers K mg) (c__law_nested:C__law_nested P w K mg base) (c_Ask__init__:CalleeN P w K mg base (clsA K "Ask") 1 ["self", "path"] [] (sp_Ask__init__ K)) (c__law_homes:C__law_homes P w K mg base) (c_Thing__init___D:CalleeN P w K mg base (clsA K "Thing") 1 ["self", "reach", "name", "of"] [.none] (sp_Thing__init__ K)) (c_Let__init___D:CalleeN P w K mg base (clsA K "Let") 1 ["self", "name", "of"] [.none] (sp_Let__init__ K)) (c_All__init__:CalleeN P w K mg base (clsA K "All") 1 ["self", "path", "on"] [] (sp_All__init__ K)) (c_One__init__:CalleeN P w K mg base (clsA K "One") 1 ["self", "reach", "name", "path"] [] (sp_One__init__ K)) (c_Let__init__:CalleeN P w K mg base (clsA K "Let") 1 ["self", "name", "of"] [] (sp_Let__init__ K)) (c_Part__init__:CalleeN P w K mg base (clsA K "Part") 1 ["self", "reach", "name", "items"] [] (sp_Part__init__ K)) (c_Elder__init__:CalleeN P w K mg base (clsA K "Elder") 1 ["self", "path"] [] (sp_Elder__init__ K)) (F:Fun K "_law_much" "_law_much" s__law_much f fd) (hm:mg "_law_much" = some (.ref f)):C__law_much P w K mg base :=
 ⟨f,fd,ok__law_much B ER c__law_nested c_Ask__init__ c__law_homes c_Thing__init___D c_Let__init___D c_All__init__ c_One__init__ c_Let__init__ c_Part__init__ c_Elder__init__ F,hm,F.kp,F.binds fun _ _ _ _ _ _ us hl=>(by obtain ⟨x0,x1,rfl⟩:=len_2 hl; rfl)⟩
def sp__law_no_name (K:PySem.W.Frag):Sp:=fun vs H Q _=>∃ (c:Int),vs=[.int c]∧0≤c∧c < 1000000∧∀ (a:Addr) (t:Tre) (H':Hp),Same H H'→TreF K (fun x=>H x=none) H' a t→BadT t→Q (.ref a) H'
theorem ok__law_no_name (B:Blt mg) (ER:Ers K mg) (c_Part__init__:CalleeN P w K mg base (clsA K "Part") 1 ["self", "reach", "name", "items"] [] (sp_Part__init__ K)) (c_Thing__init___D:CalleeN P w K mg base (clsA K "Thing") 1 ["self", "reach", "name", "of"] [.none] (sp_Thing__init__ K)) (c_Let__init___D:CalleeN P w K mg base (clsA K "Let") 1 ["self", "name", "of"] [.none] (sp_Let__init__ K)) (c_One__init__:CalleeN P w K mg base (clsA K "One") 1 ["self", "reach", "name", "path"] [] (sp_One__init__ K)) (c_Elder__init__:CalleeN P w K mg base (clsA K "Elder") 1 ["self", "path"] [] (sp_Elder__init__ K)) (c_All__init__:CalleeN P w K mg base (clsA K "All") 1 ["self", "path", "on"] [] (sp_All__init__ K)) (c_Thing__init__:CalleeN P w K mg base (clsA K "Thing") 1 ["self", "reach", "name", "of"] [] (sp_Thing__init__ K)) (c_Let__init__:CalleeN P w K mg base (clsA K "Let") 1 ["self", "name", "of"] [] (sp_Let__init__ K)) (F:Fun K "_law_no_name" "_law_no_name" s__law_no_name f fd):FnOk P w K mg base CX0 3 f fd ["_law_cell"] (sp__law_no_name K):=by
 refine F.ok sc__law_no_name (fun vs H Q E h=>?_) (fun cdv A outer s H vs Q E hr h=>?_)
 · obtain ⟨c,rfl,_⟩:=h
   rfl
 · obtain ⟨c,rfl,c0,c1,q⟩:=h
   refine ⟨_,(pss_cons (ps_set (i:=1) sc__law_no_name.nd (pe_ix ix_seq (pe_lst (pa_cons pe_str (pa_cons pe_str (pa_cons pe_str (pa_cons pe_str (pa_cons pe_str (pa_cons pe_str (pa_cons pe_str pa_nil)))))))) (pe_op op_mod (pv 0) pe_int)))
    (pss_cons (ps_set (i:=2) sc__law_no_name.nd (pe_op op_mulL (pe_lst (pa_cons pe_str pa_nil)) (pe_op op_add pe_int (pe_op op_mod (pe_op op_fdiv (pv 0) pe_int) pe_int))))
    (pss_cons (ps_asg (pv 1) (pg_sub (pv 2) (pe_op op_mod (pe_op op_fdiv (pv 0) pe_int) (pe_callB call_len B.b_len (pa_cons (pv 2) pa_nil))) set_list))
    (pss_cons (ps_set (i:=2) sc__law_no_name.nd (pe_callTy call_tuple_of B.b_tuple (pa_cons (pv 2) pa_nil)))
    (pss_cons (ps_if (pt_cmpR op_eq (pe_op op_mod (pe_op op_fdiv (pv 0) pe_int) pe_int) pe_int (nomark _)) (pss_one (ps_set (i:=2) sc__law_no_name.nd (pe_tup pa_nil))) pss_nil)
    (pss_cons (ps_set (i:=3) sc__law_no_name.nd (pe_op op_mod (pe_op op_fdiv (pv 0) pe_int) pe_int))
    (pss_cons (ps_if (pt_cmpR op_eq (pv 3) pe_int (nomark _)) (pss_one (ps_ret (pe_mk c_Part__init__ (hr.mono (by decide)) rfl ER.e_Part .nil (pa_cons pe_str (pa_cons (pv 1) (pa_cons (pe_lst pa_nil) pa_nil)))))) pss_nil)
    (pss_cons (ps_if (pt_cmpR op_eq (pv 3) pe_int (nomark _)) (pss_one (ps_ret (pe_mk c_Thing__init___D (hr.mono (by decide)) rfl ER.e_Thing (show Vals [V.non] _ from .cons rfl .nil) (pa_cons pe_str (pa_cons (pv 1) pa_nil))))) pss_nil)
    (pss_cons (ps_if (pt_cmpR op_eq (pv 3) pe_int (nomark _)) (pss_one (ps_ret (pe_mk c_Let__init___D (hr.mono (by decide)) rfl ER.e_Let (show Vals [V.non] _ from .cons rfl .nil) (pa_cons (pv 1) pa_nil)))) pss_nil)
    (pss_cons (ps_if (pt_cmpR op_eq (pv 3) pe_int (nomark _)) (pss_one (ps_ret (pe_mk c_One__init__ (hr.mono (by decide)) rfl ER.e_One .nil (pa_cons pe_str (pa_cons (pv 1) (pa_cons (pe_tup (pa_cons pe_str pa_nil)) pa_nil)))))) pss_nil)
    (pss_cons (ps_if (pt_cmpR op_eq (pv 3) pe_int (nomark _)) (pss_one (ps_ret (pe_mk c_Elder__init__ (hr.mono (by decide)) rfl ER.e_Elder .nil (pa_cons (pv 2) pa_nil)))) pss_nil)
    (pss_cons (ps_if (pt_cmpR op_eq (pv 3) pe_int (nomark _)) (pss_one (ps_ret (pe_mk c_All__init__ (hr.mono (by decide)) rfl ER.e_All .nil (pa_cons (pv 2) (pa_cons pe_bl pa_nil))))) pss_nil)
    (pss_cons (ps_if (pt_cmpR op_eq (pv 3) pe_int (nomark _)) (pss_one (ps_ret (pe_mk c_Thing__init__ (hr.mono (by decide)) rfl ER.e_Thing .nil (pa_cons pe_str (pa_cons pe_str (pa_cons (pv 2) pa_nil)))))) pss_nil)
    (pss_one (ps_ret (pe_mk c_Part__init__ (hr.mono (by decide)) rfl ER.e_Part .nil (pa_cons pe_str (pa_cons pe_str (pa_cons (pe_lst (pa_cons (pe_mk c_Let__init__ (hr.mono (by decide)) rfl ER.e_Let .nil (pa_cons pe_str (pa_cons (pv 2) pa_nil))) pa_nil)) pa_nil))))))))))))))))))),?_⟩
   refine ⟨by decide,fun l hl=>?_⟩
   obtain ⟨H1,qH1,s1,el⟩:=new_at (o:=.lst [V.str ("" : Str),V.str ("Ab" : Str),V.str ("abcdefghi" : Str),V.str ("a b" : Str),V.str ("a1" : Str),V.str ("-" : Str),V.str ("\n" : Str)]) hl
   rw [←qH1]
   obtain ⟨wd,hw1,hw⟩:∃ wd:Str,atI [V.str ("" : Str),V.str ("Ab" : Str),V.str ("abcdefghi" : Str),V.str ("a b" : Str),V.str ("a1" : Str),V.str ("-" : Str),V.str ("\n" : Str)] (c % 7)=some (.str wd)∧BadX wd:=by
    have y0:=Int.emod_nonneg c (by decide:(7:Int)≠0)
    have y1:=Int.emod_lt_of_pos c (by decide:(0:Int) < 7)
    generalize c % 7=z at y0 y1 ⊢
    have:z=0∨z=1∨z=2∨z=3∨z=4∨z=5∨z=6:=by omega
    rcases this with rfl | rfl | rfl | rfl | rfl | rfl | rfl <;> exact ⟨_,rfl,by decide +kernel,by decide +kernel⟩
   refine ⟨_,rfl,_,_,rfl,rfl,(by show (0:Int) < 7; decide),Or.inl ⟨l,_,_,.str wd,rfl,rfl,SqL.of el,hw1,?_⟩⟩
   refine g_in ?_
   try dsimp only
   clear el hw1
   have m0:=Int.emod_nonneg (c / 7) (by decide:(6:Int)≠0)
   have m1:=Int.emod_lt_of_pos (c / 7) (by decide:(0:Int) < 6)
   refine ⟨one_le,fun l1 hl1=>⟨_,rfl,_,_,rfl,rfl,⟨by decide,by decide⟩,_,_,rfl,rfl,(by show (0:Int) < 6; decide),_,_,rfl,rfl,l1,_,_,rfl,rfl,upd_same,⟨by omega,by omega⟩,(by show 1 * (1 + c / 7 % 6).toNat≤1000; omega),fun l2 hl2=>?_⟩⟩
   refine g_in ?_
   try dsimp only
   have s2:=s1.trans ((same_new (o:=.lst [V.str ("a" : Str)]) hl1).trans (same_new (o:=.lst (List.replicate (1 + c / 7 % 6).toNat [V.str ("a" : Str)]).flatten) hl2))
   have hl2H:H l2=none:=(s1.trans (same_new (o:=.lst [V.str ("a" : Str)]) hl1)).free hl2
   have e2:(upd (upd H1 l1 (.lst [V.str ("a" : Str)])) l2 (.lst (List.replicate (1 + c / 7 % 6).toNat [V.str ("a" : Str)]).flatten)) l2=some (.lst (List.replicate (1 + c / 7 % 6).toNat [V.str ("a" : Str)]).flatten):=upd_same
   generalize upd (upd H1 l1 (.lst [V.str ("a" : Str)])) l2 (.lst (List.replicate (1 + c / 7 % 6).toNat [V.str ("a" : Str)]).flatten)=H2 at s2 e2 ⊢
   obtain ⟨n,en⟩:∃ n:Nat,(1 + c / 7 % 6).toNat=n:=⟨_,rfl⟩
   have n1:1≤n:=by omega
   have n6:n≤6:=by omega
   rw [en,List.flatten_replicate_singleton,show List.replicate n (V.str ("a" : Str))=(List.replicate n wa).map V.str by rw [List.map_replicate]] at e2
   clear en m0 m1
   have ll:((List.replicate n wa).map V.str).length=n:=by rw [List.length_map,List.length_replicate]
   have p0:=Int.emod_nonneg (c / 42) (show (n:Int)≠0 by omega)
   have p1:=Int.emod_lt_of_pos (c / 42) (show (0:Int) < (n:Int) by omega)
   refine ⟨_,rfl,_,rfl,_,rfl,_,_,rfl,rfl,⟨by decide,by decide⟩,_,rfl,_,n,rfl,Or.inl ⟨_,SqL.of e2,by rw [ll]⟩,_,_,rfl,rfl,(by show (0:Int) < (n:Int); omega),l2,_,_,(c / 42 % (n:Int)).toNat,rfl,rfl,e2,ixN_in p0 (by rw [ll]; exact p1),?_⟩
   obtain ⟨ps,eps⟩:∃ ps:List Str,ps=(List.replicate n wa).set (c / 42 % (n:Int)).toNat wd:=⟨_,rfl⟩
   have bp:BadP ps:=by
    rw [eps]
    refine ⟨by rw [List.length_set,List.length_replicate]; exact n6,fun x hx=>?_,.inr ⟨wd,List.mem_set (by rw [List.length_replicate]; omega) wd,hw.2⟩⟩
    rcases List.mem_or_eq_of_mem_set hx with h | rfl
    · rw [List.eq_of_mem_replicate h]; decide
    · exact hw.1
   rw [←List.map_set,←eps]
   clear eps
   have s3:Same H (upd H2 l2 (.lst (ps.map V.str))):=fun b o e=>by rw [upd_ne (ne_of_none e hl2H)]; exact s2 b o e
   have e3:(upd H2 l2 (.lst (ps.map V.str))) l2=some (.lst (ps.map V.str)):=upd_same
   generalize upd H2 l2 (.lst (ps.map V.str))=H3 at s3 e3 ⊢
   clear p0 p1 ll e2 s2 s1 hl
   refine ⟨_,rfl,l2,_,rfl,Or.inl ⟨SqL.of e3,fun u hu=>?_⟩⟩
   refine g_in ?_
   try dsimp only
   have s4:=s3.trans (same_new (o:=.tup (ps.map V.str)) hu)
   have e4:(upd H3 u (.tup (ps.map V.str))) u=some (.tup (ps.map V.str)):=upd_same
   generalize upd H3 u (.tup (ps.map V.str))=H4 at s4 e4 ⊢
   refine seq_cut (fun σ' H'=>∃ (u:Addr) (ps:List Str),σ'=[some (.int c),some (.str wd),some (.ref u),none]∧BadP ps∧Same H H'∧H' u=some (.tup (ps.map V.str))) ?_ (fun NN hNN=>?_)
   case refine_2 =>
    refine ⟨_,rfl,_,_,rfl,rfl,⟨by decide,by decide⟩,_,_,rfl,rfl,(by show (0:Int) < 13; decide),rfl,_,rfl,ite2 (fun _=>?_) (fun _=>?_)⟩
    · refine ⟨by decide,fun v hv=>?_⟩
      exact hNN _ _ ⟨v,[],rfl,⟨by decide,fun x hx=>absurd hx List.not_mem_nil,.inl rfl⟩,s4.trans (same_new hv),upd_same⟩
    · exact hNN _ _ ⟨u,ps,rfl,bp,s4,e4⟩
   clear bp e4 s4 hu e3 s3 hl1 hl2 hl2H
   rintro σ' H5 ⟨u,ps,rfl,bp,s5,e5⟩
   refine ⟨_,rfl,_,_,rfl,rfl,⟨by decide,by decide⟩,_,_,rfl,rfl,(by show (0:Int) < 8; decide),?_⟩
   refine g_in ?_
   try dsimp only
   refine ⟨_,rfl,rfl,_,rfl,ite2 (fun _=>?_) (fun _=>?_)⟩
   · refine ⟨_,rfl,by decide,fun P hP=>?_⟩
     obtain ⟨H6,qH6,s6,e6⟩:=new_at (o:=.lst []) hP
     rw [←qH6]
     refine fun x dx hx hdx hne=>⟨x,dx,P,_,_,[],rfl,upd_same,?_,fun l' H7 fl ex el' k=>⟨rfl,?_⟩⟩
     · rw [upd_ne (ne_of_none e6 hx),upd_ne (ne_of_none e6 hdx)]; exact e6
     have s7:Same H6 H7:=fun b o e=>k b o (ne_of_none e hx) (by rw [upd_ne (ne_of_none e hx),upd_ne (ne_of_none e hdx)]; exact e)
     exact q x (.node wOp wd []) H7 (s5.trans (s6.trans s7)) (.node (as:=[]) ex el' ((s5.trans s6).free ((fresh_ins hx hdx).free fl)) .nil) (.inl ⟨wd,hw,.inl rfl⟩)
   refine ⟨_,rfl,rfl,_,rfl,ite2 (fun _=>?_) (fun _=>?_)⟩
   · exact ⟨_,rfl,fun x dx hx hdx hne=>⟨x,dx,_,_,_,rfl,upd_same,rfl,mk_k hx hdx fun H7 s7 ex=>q x (.leaf (.thing wOw wd none)) H7 (s5.trans s7) (.leaf trivial ⟨dx,.non,ex,rfl⟩) (.inl ⟨wd,hw,.inr (.inl rfl)⟩)⟩⟩
   refine ⟨_,rfl,rfl,_,rfl,ite2 (fun _=>?_) (fun _=>?_)⟩
   · exact ⟨_,rfl,fun x dx hx hdx hne=>⟨x,dx,_,_,rfl,upd_same,rfl,mk_k hx hdx fun H7 s7 ex=>q x (.leaf (.lett wd none)) H7 (s5.trans s7) (.leaf trivial ⟨dx,.non,ex,rfl⟩) (.inl ⟨wd,hw,.inr (.inr (.inl rfl))⟩)⟩⟩
   refine ⟨_,rfl,rfl,_,rfl,ite2 (fun _=>?_) (fun _=>?_)⟩
   · exact ⟨_,rfl,one_le,fun v hv=>fun x dx hx hdx hne=>⟨x,dx,_,_,_,rfl,upd_same,rfl,mk_k hx hdx fun H7 s7 ex=>q x (.leaf (.one wOw wd [wa])) H7 (s5.trans ((same_new hv).trans s7)) (.leaf trivial ⟨dx,_,ex,v,rfl,s7 _ _ upd_same⟩) (.inl ⟨wd,hw,.inr (.inr (.inr rfl))⟩)⟩⟩
   refine ⟨_,rfl,rfl,_,rfl,ite2 (fun _=>?_) (fun _=>?_)⟩
   · exact ⟨_,rfl,fun x dx hx hdx hne=>⟨x,dx,_,rfl,upd_same,rfl,mk_k hx hdx fun H7 s7 ex=>q x (.leaf (.elder ps)) H7 (s5.trans s7) (.leaf trivial ⟨dx,_,ex,u,rfl,s7 _ _ e5⟩) (.inr ⟨ps,bp,.inl rfl⟩)⟩⟩
   refine ⟨_,rfl,rfl,_,rfl,ite2 (fun _=>?_) (fun _=>?_)⟩
   · exact ⟨_,rfl,fun x dx hx hdx hne=>⟨x,dx,_,_,rfl,upd_same,rfl,mk_k hx hdx fun H7 s7 ex=>q x (.leaf (.all ps true)) H7 (s5.trans s7) (.leaf trivial ⟨dx,_,ex,u,rfl,s7 _ _ e5⟩) (.inr ⟨ps,bp,.inr (.inl rfl)⟩)⟩⟩
   refine ⟨_,rfl,rfl,_,rfl,ite2 (fun _=>?_) (fun _=>?_)⟩
   · exact ⟨_,rfl,fun x dx hx hdx hne=>⟨x,dx,_,_,_,rfl,upd_same,rfl,mk_k hx hdx fun H7 s7 ex=>q x (.leaf (.thing wOw wa (some ps))) H7 (s5.trans s7) (.leaf trivial ⟨dx,_,ex,u,rfl,s7 _ _ e5⟩) (.inr ⟨ps,bp,.inr (.inr (.inl rfl))⟩)⟩⟩
   refine ⟨_,rfl,fun y dy hy hdy hney=>⟨y,dy,_,_,rfl,upd_same,rfl,?_⟩⟩
   rw [upd_upd]
   have s6:=fresh_ins (o:=.own y) (o':=.ins (clsA K "Let") dy [(("name" : Str),V.str wb),(("of" : Str),V.ref u)]) hy hdy
   have ey:(upd (upd H5 dy (.own y)) y (.ins (clsA K "Let") dy [(("name" : Str),V.str wb),(("of" : Str),V.ref u)])) y=some (.ins (clsA K "Let") dy [(("name" : Str),V.str wb),(("of" : Str),V.ref u)]):=upd_same
   generalize upd (upd H5 dy (.own y)) y (.ins (clsA K "Let") dy [(("name" : Str),V.str wb),(("of" : Str),V.ref u)])=H6 at s6 ey ⊢
   refine ⟨one_le,fun P hP=>?_⟩
   have s7:=same_new (o:=.lst ([y].map V.ref)) hP
   have eP:(upd H6 P (.lst ([y].map V.ref))) P=some (.lst ([y].map V.ref)):=upd_same
   rw [show (HO.lst [.ref y])=.lst ([y].map V.ref) from rfl]
   generalize upd H6 P (.lst ([y].map V.ref))=H7 at s7 eP ⊢
   refine fun x dx hx hdx hne=>⟨x,dx,P,_,_,[y].map V.ref,rfl,upd_same,?_,fun l' H8 fl ex el' k=>⟨rfl,?_⟩⟩
   · rw [upd_ne (ne_of_none eP hx),upd_ne (ne_of_none eP hdx)]; exact eP
   have s8:Same H7 H8:=fun b o e=>k b o (ne_of_none e hx) (by rw [upd_ne (ne_of_none e hx),upd_ne (ne_of_none e hdx)]; exact e)
   have s78:=s7.trans s8
   exact q x (.node wOw wa [.leaf (.lett wb (some ps))]) H8 (s5.trans (s6.trans s78)) (.node ex el' ((s5.trans (s6.trans s7)).free ((fresh_ins hx hdx).free fl)) (.cons (.leaf trivial ⟨dy,_,s78 _ _ ey,u,rfl,(s6.trans s78) _ _ e5⟩) .nil)) (.inr ⟨ps,bp,.inr (.inr (.inr rfl))⟩)
variable (P w K mg base) in
abbrev C__law_no_name:Prop:=Callee P w K mg base "_law_no_name" 3 ["_law_cell"] (sp__law_no_name K)
theorem call__law_no_name (B:Blt mg) (ER:Ers K mg) (c_Part__init__:CalleeN P w K mg base (clsA K "Part") 1 ["self", "reach", "name", "items"] [] (sp_Part__init__ K)) (c_Thing__init___D:CalleeN P w K mg base (clsA K "Thing") 1 ["self", "reach", "name", "of"] [.none] (sp_Thing__init__ K)) (c_Let__init___D:CalleeN P w K mg base (clsA K "Let") 1 ["self", "name", "of"] [.none] (sp_Let__init__ K)) (c_One__init__:CalleeN P w K mg base (clsA K "One") 1 ["self", "reach", "name", "path"] [] (sp_One__init__ K)) (c_Elder__init__:CalleeN P w K mg base (clsA K "Elder") 1 ["self", "path"] [] (sp_Elder__init__ K)) (c_All__init__:CalleeN P w K mg base (clsA K "All") 1 ["self", "path", "on"] [] (sp_All__init__ K)) (c_Thing__init__:CalleeN P w K mg base (clsA K "Thing") 1 ["self", "reach", "name", "of"] [] (sp_Thing__init__ K)) (c_Let__init__:CalleeN P w K mg base (clsA K "Let") 1 ["self", "name", "of"] [] (sp_Let__init__ K)) (F:Fun K "_law_no_name" "_law_no_name" s__law_no_name f fd) (hm:mg "_law_no_name" = some (.ref f)):C__law_no_name P w K mg base :=
 ⟨f,fd,ok__law_no_name B ER c_Part__init__ c_Thing__init___D c_Let__init___D c_One__init__ c_Elder__init__ c_All__init__ c_Thing__init__ c_Let__init__ F,hm,F.kp,F.binds fun _ _ _ _ _ _ us hl=>(by obtain ⟨x0,rfl⟩:=len_1 hl; rfl)⟩
def sp_items_within (K:PySem.W.Frag):Sp:=fun vs H Q _=>∃ (l:Addr) (as:List Addr) (ts:List Tre),vs=[.ref l]∧H l=some (.lst (as.map V.ref))∧TresH K H as ts∧szL ts≤95∧∀ (L:Addr) (bs:List Addr) (H':Hp),Same H H'→H' L=some (.lst (bs.map V.ref))→TresH K H' bs (inn ts)→Q (.ref L) H'
theorem ok_items_within (B:Blt mg) (ER:Ers K mg)  (F:Fun K "items_within" "items_within" s_items_within f fd):FnOk P w K mg base CX0 1 f fd ["layer"] (sp_items_within K):=by
 refine F.ok sc_items_within (fun vs H Q E h=>?_) (fun cdv A outer s H vs Q E hr h=>?_)
 · obtain ⟨l,as,ts,rfl,_⟩:=h
   rfl
 · obtain ⟨l,as,ts,rfl,el,hI,h90,q⟩:=h
   refine ⟨_,(pss_cons (ps_set (i:=1) sc_items_within.nd (pe_lst pa_nil))
    (pss_cons (ps_for PassesOwn.never rfl (pi_list (pv 0)) (pg_name (i:=2) sc_items_within.nd) (pss_one (ps_if (pt_val (pe_callB (id := "isinstance") (r:=rIsiI K) call_isiI B.b_isinstance (pa_cons (pv 2) (pa_cons (pe_glob (v:=.ref (clsA K "Part")) rfl ER.e_Part rfl) pa_nil)))) (pss_one (ps_expr (pe_bm PySem.F.plainAttrs_list PySem.F.slot_list_extend PySem.F.type_list_extend mr_extend (pv 1) (pa_cons (pe_fld (pv 2) rfl) pa_nil)))) pss_nil)))
    (pss_one (ps_ret (pv 1))))),?_⟩
   refine ⟨by decide,fun L hL=>?_⟩
   obtain ⟨H1,qH1,s1,eL⟩:=new_at (o:=.lst []) hL
   rw [←qH1]
   refine g_in ?_
   try dsimp only
   refine ⟨_,rfl,l,rfl,⟨_,SqL.of (s1 _ _ el)⟩,for_list (xs:=as.map V.ref) (fun i σ H'=>∃ w bs,σ=[some (.ref l),some (.ref L),w]∧Same H H'∧H' L=some (.lst (bs.map V.ref))∧TresH K H bs (inn (ts.take i))) ⟨none,[],rfl,s1,eL,.nil⟩ (fun i σ H' _ ⟨_,_,_,s,_⟩=>SqL.of (s _ _ el)) ?_ ?_⟩
   · rintro i x σ H2 hx ⟨w,bs,rfl,s2,eL2,hb⟩
     obtain ⟨a,ha,rfl⟩:=getm hx
     obtain ⟨t,hit,ht⟩:=hI.get ha
     refine g_in ?_
     try dsimp only
     cases ht with
     | @node _ dp l2 as2 r n us ei el2 hus =>
       refine ⟨_,rfl,a,_,dp,_,_,true,rfl,s2 _ _ ei,ER.ci_Part,ER.ai_Part_Part,_,rfl,iteT ?_⟩
       have sz:=szL_at hit
       have l1:=hb.len
       have l2':=hus.len
       have l3:=len_szL (inn (ts.take i))
       have l4:=szL_inn (ts.take i)
       have l5:=len_szL us
       rw [szT] at sz
       refine ⟨_,rfl,Or.inl ⟨rfl,_,SqL.of eL2⟩,_,rfl,a,_,dp,_,.ref l2,rfl,s2 _ _ ei,ER.cl_Part,ER.na_Part_inner,rfl,L,l2,_,_,rfl,rfl,eL2,s2 _ _ el2,by rw [List.length_map,List.length_map]; exact Nat.le_of_lt (small1000 (by omega)),?_⟩
       have s3:Same H (upd H2 L (.lst (bs.map V.ref++as2.map V.ref))):=same_own s2 hL
       refine ⟨_,bs++as2,rfl,s3,by rw [upd_same,List.map_append],?_⟩
       rw [inn_snoc hit]
       show TresH K H _ (inn (ts.take i)++(us++[]))
       rw [List.append_nil]
       exact TresH.app hus hb
     | @leaf _ it np hl =>
       cases it with
       | part r n=>exact np.elim
       | thing r n o =>
         obtain ⟨dp,v,ei,ev⟩:=hl
         exact ⟨_,rfl,a,_,dp,_,_,false,rfl,s2 _ _ ei,ER.ci_Thing,ER.ai_Thing_Part,_,rfl,iteF ⟨_,bs,rfl,s2,eL2,by rw [inn_snoc hit]; show TresH K H bs (inn (ts.take i)++[]); rw [List.append_nil]; exact hb⟩⟩
       | lett n o =>
         obtain ⟨dp,v,ei,ev⟩:=hl
         exact ⟨_,rfl,a,_,dp,_,_,false,rfl,s2 _ _ ei,ER.ci_Let,ER.ai_Let_Part,_,rfl,iteF ⟨_,bs,rfl,s2,eL2,by rw [inn_snoc hit]; show TresH K H bs (inn (ts.take i)++[]); rw [List.append_nil]; exact hb⟩⟩
       | elder p =>
         obtain ⟨dp,v,ei,ev⟩:=hl
         exact ⟨_,rfl,a,_,dp,_,_,false,rfl,s2 _ _ ei,ER.ci_Elder,ER.ai_Elder_Part,_,rfl,iteF ⟨_,bs,rfl,s2,eL2,by rw [inn_snoc hit]; show TresH K H bs (inn (ts.take i)++[]); rw [List.append_nil]; exact hb⟩⟩
       | all p on =>
         obtain ⟨dp,v,ei,ev⟩:=hl
         exact ⟨_,rfl,a,_,dp,_,_,false,rfl,s2 _ _ ei,ER.ci_All,ER.ai_All_Part,_,rfl,iteF ⟨_,bs,rfl,s2,eL2,by rw [inn_snoc hit]; show TresH K H bs (inn (ts.take i)++[]); rw [List.append_nil]; exact hb⟩⟩
       | one r n p =>
         obtain ⟨dp,v,ei,ev⟩:=hl
         exact ⟨_,rfl,a,_,dp,_,_,false,rfl,s2 _ _ ei,ER.ci_One,ER.ai_One_Part,_,rfl,iteF ⟨_,bs,rfl,s2,eL2,by rw [inn_snoc hit]; show TresH K H bs (inn (ts.take i)++[]); rw [List.append_nil]; exact hb⟩⟩
       | ask p =>
         obtain ⟨dp,v,ei,ev⟩:=hl
         exact ⟨_,rfl,a,_,dp,_,_,false,rfl,s2 _ _ ei,ER.ci_Ask,ER.ai_Ask_Part,_,rfl,iteF ⟨_,bs,rfl,s2,eL2,by rw [inn_snoc hit]; show TresH K H bs (inn (ts.take i)++[]); rw [List.append_nil]; exact hb⟩⟩
   rintro σ H2 ⟨w,bs,rfl,s2,eL2,hb⟩
   rw [show (as.map V.ref).length=ts.length by rw [List.length_map,hI.len],List.take_length] at hb
   exact ⟨_,rfl,q L bs H2 s2 eL2 (hb.same s2)⟩
variable (P w K mg base) in
abbrev C_items_within:Prop:=Callee P w K mg base "items_within" 1 ["layer"] (sp_items_within K)
theorem call_items_within (B:Blt mg) (ER:Ers K mg)  (F:Fun K "items_within" "items_within" s_items_within f fd) (hm:mg "items_within" = some (.ref f)):C_items_within P w K mg base :=
 ⟨f,fd,ok_items_within B ER  F,hm,F.kp,F.binds fun _ _ _ _ _ _ us hl=>(by obtain ⟨x0,rfl⟩:=len_1 hl; rfl)⟩
def sp_refuse_too_great_2 (K:PySem.W.Frag):Sp:=fun vs H Q E=>∃ (P:Addr) (as:List Addr) (ts:List Tre),vs=[.ref P]∧H P=some (.lst (as.map V.ref))∧TresH K H as ts∧szL ts≤95∧(innN 31 ts=[]→∀ H',Same H H'→Q .non H')∧(innN 31 ts≠[]→∀ H',Same H H'→E (.ref (clsA K "TooGreat")) none H')
theorem ok_refuse_too_great_2 (B : Blt mg) (ER : Ers K mg) (c_items_within : C_items_within P w K mg base) (F : Fun K "refuse_too_great" "refuse_too_great" s_refuse_too_great_2 f fd) : FnOk P w K mg base (CXE P w) 2 f fd ["program"] (sp_refuse_too_great_2 K) := by
 refine F.okE sc_refuse_too_great_2 (fun vs H Q E h=>?_) (fun cdv A outer s H vs Q E hr h=>?_)
 · obtain ⟨P,as,ts,rfl,_⟩:=h
   rfl
 · obtain ⟨P,as,ts,rfl,eP,hI,h95,q,qe⟩:=h
   refine ⟨_,(pss_cons (ps_set (i:=1) sc_refuse_too_great_2.nd pe_int)
    (pss_cons (ps_set (i:=2) sc_refuse_too_great_2.nd pe_int)
    (pss_cons (ps_set (i:=3) sc_refuse_too_great_2.nd (pv 0))
    (pss_one (ps_while PassesOwn.«leaving» (pt_list (pv 3)) (pss_cons (ps_augR (i:=1) sc_refuse_too_great_2.nd rfl (Or.inl rfl) (pe_callB call_len B.b_len (pa_cons (pv 3) pa_nil)) iop_add)
     (pss_cons (ps_if (pt_cmpR op_gt (pv 1) (pe_glob (v:=.int 200) rfl (Classical.choose_spec B.c_MOST_ITEMS) ⟨_,rfl⟩) (nomark _)) (pss_one (ps_raise throws_cx rfl ER.k_TooGreat rfl (pa_cons pe_str pa_nil))) pss_nil)
     (pss_cons (ps_if (pt_cmpR op_gt (pv 2) (pe_glob (v:=.int 30) rfl (Classical.choose_spec B.c_MOST_AROUND) ⟨_,rfl⟩) (nomark _)) (pss_one (ps_raise throws_cx rfl ER.k_TooGreat rfl (pa_cons pe_str pa_nil))) pss_nil)
     (pss_cons (ps_set (i:=3) sc_refuse_too_great_2.nd (pe_fn c_items_within (pa_cons (pv 3) pa_nil)))
     (pss_one (ps_augR (i:=2) sc_refuse_too_great_2.nd rfl (Or.inl rfl) pe_int iop_add))))))))))),?_⟩
   refine seq_setC ?_
   try dsimp only
   refine seq_setC ?_
   try dsimp only
   refine ⟨_,rfl,?_⟩
   refine g_in ?_
   try dsimp only
   refine ⟨fun m σ H'=>Same H H'∧∃ (a b:Nat) (l:Addr) (bs:List Addr) (us:List Tre),m=szL us∧σ=[some (.ref P),some (.int a),some (.int b),some (.ref l)]∧H' l=some (.lst (bs.map V.ref))∧TresH K H' bs us∧a + szL us≤95∧us=innN b ts∧b≤31,⟨szL ts,Same.refl _,0,0,P,as,ts,rfl,rfl,eP,hI,by omega,rfl,by decide⟩,?_⟩
   rintro m σ H1 ⟨s1,a,b,l,bs,us,rfl,rfl,el,hu,ha,hb,hb31⟩
   have hul:=hu.len
   refine ⟨_,rfl,l,_,rfl,SqL.of el,?_⟩
   refine ite2 (fun e=>?_) (fun e=>?_)
   rotate_left
   · refine q ?_ H1 s1
     have hn:us=[]:=by
      cases us with
      | nil=>rfl
      | cons u v =>
        cases bs with
        | nil=>cases hul
        | cons x y=>exact absurd rfl e
     obtain ⟨k,hk⟩:∃ k,31=k + b:=⟨31 - b,by omega⟩
     rw [hk]
     clear hk hb31
     have:∀ k,innN (k + b) ts=[]:=fun k=>by
      induction k with
      | zero=>rw [Nat.zero_add,←hb]; exact hn
      | succ k ih=>rw [Nat.succ_add,innN_succ,ih]; rfl
     exact this k
   have hne:us≠[]:=fun z=>by
    rw [z] at hul
    have:bs=[]:=List.eq_nil_of_length_eq_zero hul
    rw [this] at e; cases e
   have hpos:0 < us.length:=List.length_pos_iff.mpr hne
   have hin:=szL_inn us
   refine ⟨_,fun σ' H' h=>h,?_⟩
   refine ⟨_,rfl,_,rfl,_,_,rfl,Or.inl ⟨_,SqL.of el,rfl⟩,_,_,rfl,rfl,?_⟩
   try dsimp only
   refine ⟨_,rfl,_,_,rfl,rfl,_,rfl,ite2 (fun e=>?_) (fun _=>?_)⟩
   · have:=of_decide_eq_true e
     rw [List.length_map,hul] at this
     omega
   refine ⟨_,rfl,_,_,rfl,rfl,_,rfl,ite2 (fun e=>?_) (fun e=>?_)⟩
   · have e:=of_decide_eq_true e
     have:b=31:=by omega
     subst this
     exact ⟨one_le,qe (by rw [←hb]; exact hne) H1 s1⟩
   have hb30:b≤30:=by
    refine Nat.le_of_not_lt fun z=>e (decide_eq_true ?_)
    omega
   refine ⟨_,rfl,l,bs,us,rfl,el,hu,by omega,fun L cs H2 s2 eL hc=>?_⟩
   refine g_in ?_
   try dsimp only
   refine ⟨_,rfl,_,_,rfl,rfl,szL (inn us),by omega,s1.trans s2,a + us.length,b + 1,L,cs,inn us,rfl,?_,eL,hc,by omega,by rw [hb,innN_succ],by omega⟩
   rw [List.length_map,hul]; rfl
theorem call_refuse_too_great_2 (B:Blt mg) (ER:Ers K mg) (c_items_within:C_items_within P w K mg base) (F:Fun K "refuse_too_great" "refuse_too_great" s_refuse_too_great_2 f fd) (hm:mg "refuse_too_great_laying" = some (.ref f)):CalleeE P w K mg base "refuse_too_great_laying" 2 ["program"] (sp_refuse_too_great_2 K) :=
 ⟨f,fd,ok_refuse_too_great_2 B ER c_items_within F,hm,F.kp,F.binds fun _ _ _ _ _ _ us hl=>(by obtain ⟨x0,rfl⟩:=len_1 hl; rfl)⟩
def sp_Ground__init__ (K:PySem.W.Frag):Sp:=fun vs H Q _=>∃ (x dx:Addr),vs=[.ref x]∧H x=some (.ins (clsA K "Ground") dx [])∧∀ (S T R:Addr) (H':Hp),H S=none→H T=none→H R=none→S≠T→S≠R→T≠R→H' x=some (.ins (clsA K "Ground") dx (grdF S T R))→H' S=some (.lst [])→H' T=some (.lst [])→H' R=some (.lst [])→(∀ b o,b≠x→H b=some o→H' b=some o)→Q .non H'
theorem ok_Ground__init__ (B:Blt mg) (ER:Ers K mg)  (F:Fun K "__init__" "Ground.__init__" s_Ground__init__ f fd):FnOk P w K mg base CX0 1 f fd ["self"] (sp_Ground__init__ K):=by
 refine F.ok sc_Ground__init__ (fun vs H Q E h=>?_) (fun cdv A outer s H vs Q E hr h=>?_)
 · obtain ⟨x,dx,rfl,_⟩:=h
   rfl
 · obtain ⟨x,dx,rfl,hx,q⟩:=h
   refine ⟨_,(pss_cons (ps_fld (pv 0) (pe_lst pa_nil) rfl)
    (pss_cons (ps_fld (pv 0) (pe_lst pa_nil) rfl)
    (pss_one (ps_fld (pv 0) (pe_lst pa_nil) rfl)))),?_⟩
   refine ⟨by decide,fun S hS=>?_⟩
   have nS:x≠S:=fun z=>by rw [z,hS] at hx; cases hx
   refine ⟨_,rfl,x,_,dx,[],rfl,by rw [upd_ne nS]; exact hx,ER.cl_Ground,ER.na_Ground_scopes,by show _ < 1000; simp,?_⟩
   rw [show putF "scopes" (V.ref S) []=[(("scopes" : Str),V.ref S)] from rfl]
   obtain ⟨H1,e1⟩:∃ H1,H1=upd (upd H S (.lst [])) x (.ins (clsA K "Ground") dx [(("scopes" : Str),V.ref S)]):=⟨_,rfl⟩
   have x1:H1 x=some (.ins (clsA K "Ground") dx [(("scopes" : Str),V.ref S)]):=by rw [e1,upd_same]
   have S1:H1 S=some (.lst []):=by rw [e1,upd_ne (Ne.symm nS),upd_same]
   have k1:∀ b o,b≠x→H b=some o→H1 b=some o:=fun b o n e=>by rw [e1,upd_ne n,upd_ne (ne_of_none e hS)]; exact e
   have f1:∀ b,H1 b=none→H b=none:=fun b e=>by
    by_cases z:b=x
    · rw [z,x1] at e; cases e
    · cases h:H b with
      | none=>rfl
      | some o=>rw [k1 b o z h] at e; cases e
   rw [←e1]
   clear e1
   refine ⟨by decide,fun T hT=>?_⟩
   have nT:x≠T:=fun z=>by rw [z,hT] at x1; cases x1
   have nST:S≠T:=fun z=>by rw [z,hT] at S1; cases S1
   refine ⟨_,rfl,x,_,dx,[(("scopes" : Str),V.ref S)],rfl,by rw [upd_ne nT]; exact x1,ER.cl_Ground,ER.na_Ground_things,by show _ < 1000; simp,?_⟩
   rw [show putF "things" (V.ref T) [(("scopes" : Str),V.ref S)]=[(("scopes" : Str),V.ref S),(("things" : Str),V.ref T)] from rfl]
   obtain ⟨H2,e2⟩:∃ H2,H2=upd (upd H1 T (.lst [])) x (.ins (clsA K "Ground") dx [(("scopes" : Str),V.ref S),(("things" : Str),V.ref T)]):=⟨_,rfl⟩
   have x2:H2 x=some (.ins (clsA K "Ground") dx [(("scopes" : Str),V.ref S),(("things" : Str),V.ref T)]):=by rw [e2,upd_same]
   have T2:H2 T=some (.lst []):=by rw [e2,upd_ne (Ne.symm nT),upd_same]
   have k2:∀ b o,b≠x→H1 b=some o→H2 b=some o:=fun b o n e=>by rw [e2,upd_ne n,upd_ne (ne_of_none e hT)]; exact e
   have S2:=k2 S _ (Ne.symm nS) S1
   have f2:∀ b,H2 b=none→H1 b=none:=fun b e=>by
    by_cases z:b=x
    · rw [z,x2] at e; cases e
    · cases h:H1 b with
      | none=>rfl
      | some o=>rw [k2 b o z h] at e; cases e
   rw [←e2]
   clear e2
   refine ⟨by decide,fun R hR=>?_⟩
   have nR:x≠R:=fun z=>by rw [z,hR] at x2; cases x2
   have nSR:S≠R:=fun z=>by rw [z,hR] at S2; cases S2
   have nTR:T≠R:=fun z=>by rw [z,hR] at T2; cases T2
   refine ⟨_,rfl,x,_,dx,[(("scopes" : Str),V.ref S),(("things" : Str),V.ref T)],rfl,by rw [upd_ne nR]; exact x2,ER.cl_Ground,ER.na_Ground_questions,by show _ < 1000; simp,?_⟩
   rw [show putF "questions" (V.ref R) [(("scopes" : Str),V.ref S),(("things" : Str),V.ref T)]=grdF S T R from rfl]
   exact q S T R _ hS (f1 T hT) (f1 R (f2 R hR)) nST nSR nTR (by rw [upd_same]) (by rw [upd_ne (Ne.symm nS),upd_ne nSR]; exact S2) (by rw [upd_ne (Ne.symm nT),upd_ne nTR]; exact T2) (by rw [upd_ne (Ne.symm nR),upd_same]) (fun b o n e=>by
    have e2:=k2 b o n (k1 b o n e)
    rw [upd_ne n,upd_ne (ne_of_none e2 hR)]; exact e2)
theorem call_Ground__init__ (B:Blt mg) (ER:Ers K mg)  (F:Fun K "__init__" "Ground.__init__" s_Ground__init__ f fd) (M:Mk K (clsA K "Ground") f):CalleeN P w K mg base (clsA K "Ground") 1 ["self"] [] (sp_Ground__init__ K) :=
 ⟨f,fd,ok_Ground__init__ B ER  F,M,F.binds fun _ _ _ _ _ _ us hl=>(by obtain ⟨x0,rfl⟩:=len_1 hl; rfl)⟩
def sp_Ground_new_scope (K:PySem.W.Frag):Sp:=fun vs H Q _=>∃ (g G E:Addr) (H0 Hb:Hp) (s:Sco) (ss:List Sco) (gs:List (Str × Int)) (qs:List Qu),vs=[.ref g,.ref G,.ref E]∧GrE (clsA K "Ground") H0 Hb g ss gs qs∧Same Hb H∧Hb G=none∧Hb E=none∧G≠E∧SLs H G s.1∧TLs H E s.2∧ss.length≤100 ∧
 ∀ H',GrE (clsA K "Ground") H0 H' g (ss++[s]) gs qs→Q (.int ss.length) H'
theorem ok_Ground_new_scope (B:Blt mg) (ER:Ers K mg)  (F:Fun K "new_scope" "Ground.new_scope" s_Ground_new_scope f fd):FnOk P w K mg base CX0 1 f fd ["self", "steps", "tellings"] (sp_Ground_new_scope K):=by
 refine F.ok sc_Ground_new_scope (fun vs H Q E h=>?_) (fun cdv A outer s H vs Q E hr h=>?_)
 · obtain ⟨g,G,E,H0,Hb,s,ss,gs,qs,rfl,_⟩:=h
   rfl
 · obtain ⟨g,G,E1,H0,Hb,s,ss,gs,qs,rfl,⟨dx,S,T,R,us,Gs,Es,ts,qt,hg⟩,sb,fG,fE,nGE,⟨tG,eG,rG⟩,⟨tE,eE,rE⟩,hl,q⟩:=h
   have g1:=hg.same sb
   refine ⟨_,(pss_cons (ps_expr (pe_bm PySem.F.plainAttrs_list PySem.F.slot_list_append PySem.F.type_list_append mr_append (pe_fld (pv 0) rfl) (pa_cons (pe_tup (pa_cons (pv 1) (pa_cons (pv 2) pa_nil))) pa_nil)))
    (pss_one (ps_ret (pe_op op_sub (pe_callB call_len B.b_len (pa_cons (pe_fld (pv 0) rfl) pa_nil)) pe_int)))),?_⟩
   refine ⟨_,rfl,g,_,dx,_,.ref S,rfl,g1.gi,ER.cl_Ground,ER.na_Ground_scopes,rfl,Or.inl ⟨rfl,_,SqL.of g1.n3.sc.top⟩,_,rfl,_,rfl,two_le,fun u hu=>?_⟩
   obtain ⟨H2,qH2,s2,eu⟩:=new_at (o:=.tup [.ref G,.ref E1]) hu
   rw [←qH2]
   have g2:=g1.same s2
   have g3:=g2.scope ⟨eu,⟨tG,s2 _ _ eG,rG.same s2⟩,⟨tE,s2 _ _ eE,rE.same s2⟩⟩ (hg.n3.dead fG) (hg.n3.dead fE) nGE (hg.sm.free fG) (hg.sm.free fE)
   have lu:=g2.n3.sc.lu
   refine ⟨S,_,_,rfl,rfl,g2.n3.sc.top,by rw [List.length_map,lu]; exact small1000 (by omega),?_⟩
   generalize upd H2 S (.lst (us.map V.ref++[.ref u]))=H3 at g3 ⊢
   refine ⟨_,rfl,g,_,dx,_,.ref S,rfl,g3.gi,ER.cl_Ground,ER.na_Ground_scopes,rfl,_,_,rfl,Or.inl ⟨_,SqL.of g3.n3.sc.top,rfl⟩,_,_,rfl,rfl,?_⟩
   try dsimp only
   rw [show (((us++[u]).map V.ref).length:Int) - 1=(ss.length:Int) by rw [List.length_map,List.length_append,List.length_singleton,lu]; omega]
   exact q _ ⟨dx,S,T,R,_,_,_,ts,qt,g3⟩
theorem call_Ground_new_scope (B:Blt mg) (ER:Ers K mg)  (F:Fun K "new_scope" "Ground.new_scope" s_Ground_new_scope f fd) (M:Meth K (clsA K "Ground") "new_scope" f):CalleeM P w K mg base (clsA K "Ground") "new_scope" 1 ["self", "steps", "tellings"] (sp_Ground_new_scope K) :=
 ⟨f,fd,ok_Ground_new_scope B ER  F,M,F.binds fun _ _ _ _ _ _ us hl=>(by obtain ⟨x0,x1,x2,rfl⟩:=len_3 hl; rfl)⟩
def sp_Ground_new_thing (K:PySem.W.Frag):Sp:=fun vs H Q _=>∃ (g:Addr) (k:Str) (n:Int) (H0:Hp) (ss:List Sco) (gs:List (Str × Int)) (qs:List Qu),vs=[.ref g,.str k,.int n]∧GrE (clsA K "Ground") H0 H g ss gs qs∧gs.length≤100 ∧
 ∀ H',GrE (clsA K "Ground") H0 H' g ss (gs++[(k,n)]) qs→Q (.int gs.length) H'
theorem ok_Ground_new_thing (B:Blt mg) (ER:Ers K mg)  (F:Fun K "new_thing" "Ground.new_thing" s_Ground_new_thing f fd):FnOk P w K mg base CX0 1 f fd ["self", "kind", "number"] (sp_Ground_new_thing K):=by
 refine F.ok sc_Ground_new_thing (fun vs H Q E h=>?_) (fun cdv A outer s H vs Q E hr h=>?_)
 · obtain ⟨g,k,n,H0,ss,gs,qs,rfl,_⟩:=h
   rfl
 · obtain ⟨g,k,n,H0,ss,gs,qs,rfl,⟨dx,S,T,R,us,Gs,Es,ts,qt,g1⟩,hl,q⟩:=h
   refine ⟨_,(pss_cons (ps_expr (pe_bm PySem.F.plainAttrs_list PySem.F.slot_list_append PySem.F.type_list_append mr_append (pe_fld (pv 0) rfl) (pa_cons (pe_tup (pa_cons (pv 1) (pa_cons (pv 2) pa_nil))) pa_nil)))
    (pss_one (ps_ret (pe_op op_sub (pe_callB call_len B.b_len (pa_cons (pe_fld (pv 0) rfl) pa_nil)) pe_int)))),?_⟩
   refine ⟨_,rfl,g,_,dx,_,.ref T,rfl,g1.gi,ER.cl_Ground,ER.na_Ground_things,rfl,Or.inl ⟨rfl,_,SqL.of g1.n3.et⟩,_,rfl,_,rfl,two_le,fun u hu=>?_⟩
   obtain ⟨H2,qH2,s2,eu⟩:=new_at (o:=.tup [.str k,.int n]) hu
   rw [←qH2]
   have g2:=g1.same s2
   have g3:=g2.thing (p:=(k,n)) eu
   have lu:=g2.n3.tg.len
   refine ⟨T,_,_,rfl,rfl,g2.n3.et,by rw [List.length_map,lu]; exact small1000 (by omega),?_⟩
   generalize upd H2 T (.lst (ts.map V.ref++[.ref u]))=H3 at g3 ⊢
   refine ⟨_,rfl,g,_,dx,_,.ref T,rfl,g3.gi,ER.cl_Ground,ER.na_Ground_things,rfl,_,_,rfl,Or.inl ⟨_,SqL.of g3.n3.et,rfl⟩,_,_,rfl,rfl,?_⟩
   try dsimp only
   rw [show (((ts++[u]).map V.ref).length:Int) - 1=(gs.length:Int) by rw [List.length_map,List.length_append,List.length_singleton,lu]; omega]
   exact q _ ⟨dx,S,T,R,_,_,_,_,qt,g3⟩
theorem call_Ground_new_thing (B:Blt mg) (ER:Ers K mg)  (F:Fun K "new_thing" "Ground.new_thing" s_Ground_new_thing f fd) (M:Meth K (clsA K "Ground") "new_thing" f):CalleeM P w K mg base (clsA K "Ground") "new_thing" 1 ["self", "kind", "number"] (sp_Ground_new_thing K) :=
 ⟨f,fd,ok_Ground_new_thing B ER  F,M,F.binds fun _ _ _ _ _ _ us hl=>(by obtain ⟨x0,x1,x2,rfl⟩:=len_3 hl; rfl)⟩
def sp_Ground_more_tellings (K:PySem.W.Frag):Sp:=fun vs H Q _=>∃ (g t:Addr) (i:Nat) (p:Tlg) (H0:Hp) (ss:List Sco) (gs:List (Str × Int)) (qs:List Qu),vs=[.ref g,.int i,.ref t]∧GrE (clsA K "Ground") H0 H g ss gs qs∧H t=some (.tup (tlgV p))∧i < ss.length∧(∀ s∈ss,s.2.length≤100) ∧
 ∀ H',GrE (clsA K "Ground") H0 H' g (tellA ss i p) gs qs→Q .non H'
theorem ok_Ground_more_tellings (B:Blt mg) (ER:Ers K mg)  (F:Fun K "more_tellings" "Ground.more_tellings" s_Ground_more_tellings f fd):FnOk P w K mg base CX0 1 f fd ["self", "scope", "telling"] (sp_Ground_more_tellings K):=by
 refine F.ok sc_Ground_more_tellings (fun vs H Q E h=>?_) (fun cdv A outer s H vs Q E hr h=>?_)
 · obtain ⟨g,t,i,p,H0,ss,gs,qs,rfl,_⟩:=h
   rfl
 · obtain ⟨g,t,i,p,H0,ss,gs,qs,rfl,⟨dx,S,T,R,us,Gs,Es,ts,qt,g1⟩,et,hi,hl,q⟩:=h
   refine ⟨_,(pss_one (ps_expr (pe_bm PySem.F.plainAttrs_list PySem.F.slot_list_append PySem.F.type_list_append mr_append (pe_ix ix_seq (pe_ix ix_seq (pe_fld (pv 0) rfl) (pv 1)) pe_int) (pa_cons (pv 2) pa_nil)))),?_⟩
   obtain ⟨u,G,E1,a1,a2,a3,a4,⟨b1,⟨tG,c1,c2⟩,⟨tE,d1,d2⟩⟩⟩:=g1.n3.sc.get hi
   have l2:=hl _ (List.getElem_mem hi)
   refine ⟨_,rfl,g,_,dx,_,.ref S,rfl,g1.gi,ER.cl_Ground,ER.na_Ground_scopes,rfl,_,rfl,Or.inl ⟨S,_,_,.ref u,rfl,rfl,SqL.of g1.n3.sc.top,atI_nat (by rw [List.getElem?_map,a1]; rfl),Or.inr (Or.inl ⟨u,_,_,.ref E1,rfl,rfl,SqT.of b1,rfl,Or.inl ⟨rfl,_,SqL.of d1⟩,_,rfl,E1,_,_,rfl,rfl,d1,by rw [List.length_map,d2.len]; exact small1000 (by omega),?_⟩)⟩⟩
   have g2:=g1.tell hi a3 d1 d2 et
   rw [←tellA_eq hi] at g2
   exact q _ ⟨dx,S,T,R,_,_,_,_,_,g2⟩
theorem call_Ground_more_tellings (B:Blt mg) (ER:Ers K mg)  (F:Fun K "more_tellings" "Ground.more_tellings" s_Ground_more_tellings f fd) (M:Meth K (clsA K "Ground") "more_tellings" f):CalleeM P w K mg base (clsA K "Ground") "more_tellings" 1 ["self", "scope", "telling"] (sp_Ground_more_tellings K) :=
 ⟨f,fd,ok_Ground_more_tellings B ER  F,M,F.binds fun _ _ _ _ _ _ us hl=>(by obtain ⟨x0,x1,x2,rfl⟩:=len_3 hl; rfl)⟩
def sp_Ground_new_question (K:PySem.W.Frag):Sp:=fun vs H Q _=>∃ (g u:Addr) (a b:Int) (p:List Str) (H0:Hp) (ss:List Sco) (gs:List (Str × Int)) (qs:List Qu),vs=[.ref g,.int a,.int b,.ref u]∧GrE (clsA K "Ground") H0 H g ss gs qs∧H u=some (.tup (p.map V.str))∧qs.length≤100 ∧
 ∀ H',GrE (clsA K "Ground") H0 H' g ss gs (qs++[(a,b,p)])→Q (.int qs.length) H'
theorem ok_Ground_new_question (B:Blt mg) (ER:Ers K mg)  (F:Fun K "new_question" "Ground.new_question" s_Ground_new_question f fd):FnOk P w K mg base CX0 1 f fd ["self", "scope", "state", "path"] (sp_Ground_new_question K):=by
 refine F.ok sc_Ground_new_question (fun vs H Q E h=>?_) (fun cdv A outer s H vs Q E hr h=>?_)
 · obtain ⟨g,u,a,b,p,H0,ss,gs,qs,rfl,_⟩:=h
   rfl
 · obtain ⟨g,u,a,b,p,H0,ss,gs,qs,rfl,⟨dx,S,T,R,us,Gs,Es,ts,qt,g1⟩,eu,hl,q⟩:=h
   refine ⟨_,(pss_cons (ps_expr (pe_bm PySem.F.plainAttrs_list PySem.F.slot_list_append PySem.F.type_list_append mr_append (pe_fld (pv 0) rfl) (pa_cons (pe_tup (pa_cons (pv 1) (pa_cons (pv 2) (pa_cons (pv 3) pa_nil)))) pa_nil)))
    (pss_one (ps_ret (pe_op op_sub (pe_callB call_len B.b_len (pa_cons (pe_fld (pv 0) rfl) pa_nil)) pe_int)))),?_⟩
   refine ⟨_,rfl,g,_,dx,_,.ref R,rfl,g1.gi,ER.cl_Ground,ER.na_Ground_questions,rfl,Or.inl ⟨rfl,_,SqL.of g1.n3.er⟩,_,rfl,_,rfl,_,rfl,three_le,fun t ht=>?_⟩
   obtain ⟨H2,qH2,s2,et⟩:=new_at (o:=.tup [.int a,.int b,.ref u]) ht
   rw [←qH2]
   have g2:=g1.same s2
   have g3:=g2.quest (p:=(a,b,p)) et (s2 _ _ eu)
   have lu:=g2.n3.tq.len
   refine ⟨R,_,_,rfl,rfl,g2.n3.er,by rw [List.length_map,lu]; exact small1000 (by omega),?_⟩
   generalize upd H2 R (.lst (qt.map V.ref++[.ref t]))=H3 at g3 ⊢
   refine ⟨_,rfl,g,_,dx,_,.ref R,rfl,g3.gi,ER.cl_Ground,ER.na_Ground_questions,rfl,_,_,rfl,Or.inl ⟨_,SqL.of g3.n3.er,rfl⟩,_,_,rfl,rfl,?_⟩
   try dsimp only
   rw [show (((qt++[t]).map V.ref).length:Int) - 1=(qs.length:Int) by rw [List.length_map,List.length_append,List.length_singleton,lu]; omega]
   exact q _ ⟨dx,S,T,R,_,_,_,ts,_,g3⟩
theorem call_Ground_new_question (B:Blt mg) (ER:Ers K mg)  (F:Fun K "new_question" "Ground.new_question" s_Ground_new_question f fd) (M:Meth K (clsA K "Ground") "new_question" f):CalleeM P w K mg base (clsA K "Ground") "new_question" 1 ["self", "scope", "state", "path"] (sp_Ground_new_question K) :=
 ⟨f,fd,ok_Ground_new_question B ER  F,M,F.binds fun _ _ _ _ _ _ us hl=>(by obtain ⟨x0,x1,x2,x3,rfl⟩:=len_4 hl; rfl)⟩
def sp_thing_of (K:PySem.W.Frag):Sp:=fun vs H Q _=>∃ (g:Addr) (v:V) (o:Option (List Str)) (here:Nat) (H0:Hp) (N:NetT),vs=[.ref g,v,.int here]∧GrE (clsA K "Ground") H0 H g N.1 N.2.1 N.2.2∧OfH H v o∧N.2.1.length≤100∧N.2.2.length≤100 ∧
 ∀ H',GrE (clsA K "Ground") H0 H' g N.1 (thA o here N).2.1 (thA o here N).2.2→Q (.int N.2.1.length) H'
theorem ok_thing_of (B:Blt mg) (ER:Ers K mg) (c_Ground_new_thing:CalleeM P w K mg base (clsA K "Ground") "new_thing" 1 ["self", "kind", "number"] (sp_Ground_new_thing K)) (c_Ground_new_question:CalleeM P w K mg base (clsA K "Ground") "new_question" 1 ["self", "scope", "state", "path"] (sp_Ground_new_question K)) (F:Fun K "thing_of" "thing_of" s_thing_of f fd):FnOk P w K mg base CX0 2 f fd ["ground", "path", "here"] (sp_thing_of K):=by
 refine F.ok sc_thing_of (fun vs H Q E h=>?_) (fun cdv A outer s H vs Q E hr h=>?_)
 · obtain ⟨g,v,o,here,H0,N,rfl,_⟩:=h
   rfl
 · obtain ⟨g,v,o,here,H0,N,rfl,hg,ho,h1,h2,q⟩:=h
   obtain ⟨dx,S,T,R,gi⟩:=hg.gi
   refine ⟨_,(pss_cons (ps_if (pt_cmp (pc_isN (pv 1))) (pss_one (ps_ret (pe_mth c_Ground_new_thing ER.cl_Ground (hr.mono (by decide)) (pv 0) (pa_cons pe_str (pa_cons pe_int pa_nil))))) pss_nil)
    (pss_one (ps_ret (pe_mth c_Ground_new_thing ER.cl_Ground (hr.mono (by decide)) (pv 0) (pa_cons pe_str (pa_cons (pe_mth c_Ground_new_question ER.cl_Ground (hr.mono (by decide)) (pv 0) (pa_cons (pv 2) (pa_cons (pe_glob (v:=.int 0) rfl (Classical.choose_spec B.c_ANYWHERE) ⟨_,rfl⟩) (pa_cons (pv 1) pa_nil)))) pa_nil)))))),?_⟩
   cases o with
   | none =>
     cases ho
     refine ⟨_,rfl,_,rfl,?_⟩
     rw [decide_eq_true rfl]
     refine iteT ?_
     exact ⟨_,rfl,g,dx,_,rfl,gi,rfl,g,_,_,H0,_,_,_,rfl,hg,h1,fun H' g'=>q H' g'⟩
   | some p =>
     obtain ⟨u,rfl,eu⟩:=ho
     refine ⟨_,rfl,_,rfl,?_⟩
     rw [decide_eq_false (by intro z; cases z)]
     refine iteF ?_
     refine ⟨_,rfl,g,dx,_,rfl,gi,rfl,_,rfl,g,dx,_,rfl,gi,rfl,_,rfl,_,rfl,g,u,_,_,p,H0,_,_,_,rfl,hg,eu,h2,fun H1 g1=>?_⟩
     exact ⟨g,_,_,H0,_,_,_,rfl,g1,h1,fun H' g'=>q H' g'⟩
variable (P w K mg base) in
abbrev C_thing_of:Prop:=Callee P w K mg base "thing_of" 2 ["ground", "path", "here"] (sp_thing_of K)
theorem call_thing_of (B:Blt mg) (ER:Ers K mg) (c_Ground_new_thing:CalleeM P w K mg base (clsA K "Ground") "new_thing" 1 ["self", "kind", "number"] (sp_Ground_new_thing K)) (c_Ground_new_question:CalleeM P w K mg base (clsA K "Ground") "new_question" 1 ["self", "scope", "state", "path"] (sp_Ground_new_question K)) (F:Fun K "thing_of" "thing_of" s_thing_of f fd) (hm:mg "thing_of" = some (.ref f)):C_thing_of P w K mg base :=
 ⟨f,fd,ok_thing_of B ER c_Ground_new_thing c_Ground_new_question F,hm,F.kp,F.binds fun _ _ _ _ _ _ us hl=>(by obtain ⟨x0,x1,x2,rfl⟩:=len_3 hl; rfl)⟩
def sp_Ground_more_steps (K:PySem.W.Frag):Sp:=fun vs H Q _=>∃ (g t:Addr) (i:Nat) (p:Stp) (H0:Hp) (ss:List Sco) (gs:List (Str × Int)) (qs:List Qu),vs=[.ref g,.int i,.ref t]∧GrE (clsA K "Ground") H0 H g ss gs qs∧H t=some (.tup (stpV p))∧i < ss.length∧(∀ s∈ss,s.1.length≤100) ∧
 ∀ H',GrE (clsA K "Ground") H0 H' g (stepA ss i p) gs qs→Q .non H'
theorem ok_Ground_more_steps (B:Blt mg) (ER:Ers K mg)  (F:Fun K "more_steps" "Ground.more_steps" s_Ground_more_steps f fd):FnOk P w K mg base CX0 1 f fd ["self", "scope", "step"] (sp_Ground_more_steps K):=by
 refine F.ok sc_Ground_more_steps (fun vs H Q E h=>?_) (fun cdv A outer s H vs Q E hr h=>?_)
 · obtain ⟨g,t,i,p,H0,ss,gs,qs,rfl,_⟩:=h
   rfl
 · obtain ⟨g,t,i,p,H0,ss,gs,qs,rfl,⟨dx,S,T,R,us,Gs,Es,ts,qt,g1⟩,et,hi,hl,q⟩:=h
   refine ⟨_,(pss_one (ps_expr (pe_bm PySem.F.plainAttrs_list PySem.F.slot_list_append PySem.F.type_list_append mr_append (pe_ix ix_seq (pe_ix ix_seq (pe_fld (pv 0) rfl) (pv 1)) pe_int) (pa_cons (pv 2) pa_nil)))),?_⟩
   obtain ⟨u,G,E1,a1,a2,a3,a4,⟨b1,⟨tG,c1,c2⟩,⟨tE,d1,d2⟩⟩⟩:=g1.n3.sc.get hi
   have l2:=hl _ (List.getElem_mem hi)
   refine ⟨_,rfl,g,_,dx,_,.ref S,rfl,g1.gi,ER.cl_Ground,ER.na_Ground_scopes,rfl,_,rfl,Or.inl ⟨S,_,_,.ref u,rfl,rfl,SqL.of g1.n3.sc.top,atI_nat (by rw [List.getElem?_map,a1]; rfl),Or.inr (Or.inl ⟨u,_,_,.ref G,rfl,rfl,SqT.of b1,rfl,Or.inl ⟨rfl,_,SqL.of c1⟩,_,rfl,G,_,_,rfl,rfl,c1,by rw [List.length_map,c2.len]; exact small1000 (by omega),?_⟩)⟩⟩
   have g2:=g1.step hi a2 c1 c2 et
   rw [←stepA_eq hi] at g2
   exact q _ ⟨dx,S,T,R,_,_,_,_,_,g2⟩
theorem call_Ground_more_steps (B:Blt mg) (ER:Ers K mg)  (F:Fun K "more_steps" "Ground.more_steps" s_Ground_more_steps f fd) (M:Meth K (clsA K "Ground") "more_steps" f):CalleeM P w K mg base (clsA K "Ground") "more_steps" 1 ["self", "scope", "step"] (sp_Ground_more_steps K) :=
 ⟨f,fd,ok_Ground_more_steps B ER  F,M,F.binds fun _ _ _ _ _ _ us hl=>(by obtain ⟨x0,x1,x2,rfl⟩:=len_3 hl; rfl)⟩
def sp_lay_step (K:PySem.W.Frag):Sp:=fun vs H Q _=>∃ (g:Addr) (v:V) (l:Str) (p:List Str) (home:Nat) (H0:Hp) (N:NetT),vs=[.ref g,.str l,v,.int home]∧GrE (clsA K "Ground") H0 H g N.1 N.2.1 N.2.2∧PthH H v p∧home < N.1.length∧(∀ s∈N.1,s.1.length≤100)∧N.2.2.length≤100 ∧
 ∀ H',GrE (clsA K "Ground") H0 H' g (stepA N.1 home (l,("by" : Str),(N.2.2.length:Int))) N.2.1 (N.2.2++[((home:Int),2,p)])→Q .non H'
theorem ok_lay_step (B:Blt mg) (ER:Ers K mg) (c_Ground_new_question:CalleeM P w K mg base (clsA K "Ground") "new_question" 1 ["self", "scope", "state", "path"] (sp_Ground_new_question K)) (c_Ground_more_steps:CalleeM P w K mg base (clsA K "Ground") "more_steps" 1 ["self", "scope", "step"] (sp_Ground_more_steps K)) (F:Fun K "lay_step" "lay_step" s_lay_step f fd):FnOk P w K mg base CX0 2 f fd ["ground", "label", "path", "home"] (sp_lay_step K):=by
 refine F.ok sc_lay_step (fun vs H Q E h=>?_) (fun cdv A outer s H vs Q E hr h=>?_)
 · obtain ⟨g,v,l,p,home,H0,N,rfl,_⟩:=h
   rfl
 · obtain ⟨g,v,l,p,home,H0,N,rfl,hg,⟨u,rfl,eu⟩,hh,hs,h2,q⟩:=h
   obtain ⟨dx,S,T,R,gi⟩:=hg.gi
   refine ⟨_,(pss_cons (ps_set (i:=4) sc_lay_step.nd (pe_mth c_Ground_new_question ER.cl_Ground (hr.mono (by decide)) (pv 0) (pa_cons (pv 3) (pa_cons (pe_glob (v:=.int 2) rfl (Classical.choose_spec B.c_OUTSIDE) ⟨_,rfl⟩) (pa_cons (pv 2) pa_nil)))))
    (pss_one (ps_expr (pe_mth c_Ground_more_steps ER.cl_Ground (hr.mono (by decide)) (pv 0) (pa_cons (pv 3) (pa_cons (pe_tup (pa_cons (pv 1) (pa_cons pe_str (pa_cons (pv 4) pa_nil)))) pa_nil)))))),?_⟩
   refine ⟨_,rfl,g,dx,_,rfl,gi,rfl,_,rfl,_,rfl,g,u,_,_,p,H0,_,_,_,rfl,hg,eu,h2,fun H1 g1=>?_⟩
   obtain ⟨dx,S,T,R,gi⟩:=g1.gi
   refine g_in ?_
   try dsimp only
   refine ⟨_,rfl,g,dx,_,rfl,gi,rfl,_,rfl,_,rfl,_,rfl,three_le,fun t ht=>?_⟩
   have s2:=same_new (o:=.tup (stpV (l,("by" : Str),(N.2.2.length:Int)))) ht
   have et:(upd H1 t (.tup (stpV (l,("by" : Str),(N.2.2.length:Int))))) t=some (.tup (stpV (l,("by" : Str),(N.2.2.length:Int)))):=upd_same
   exact ⟨g,t,home,_,H0,_,_,_,rfl,g1.same s2,et,hh,hs,fun H' g'=>q H' g'⟩
variable (P w K mg base) in
abbrev C_lay_step:Prop:=Callee P w K mg base "lay_step" 2 ["ground", "label", "path", "home"] (sp_lay_step K)
theorem call_lay_step (B:Blt mg) (ER:Ers K mg) (c_Ground_new_question:CalleeM P w K mg base (clsA K "Ground") "new_question" 1 ["self", "scope", "state", "path"] (sp_Ground_new_question K)) (c_Ground_more_steps:CalleeM P w K mg base (clsA K "Ground") "more_steps" 1 ["self", "scope", "step"] (sp_Ground_more_steps K)) (F:Fun K "lay_step" "lay_step" s_lay_step f fd) (hm:mg "lay_step" = some (.ref f)):C_lay_step P w K mg base :=
 ⟨f,fd,ok_lay_step B ER c_Ground_new_question c_Ground_more_steps F,hm,F.kp,F.binds fun _ _ _ _ _ _ us hl=>(by obtain ⟨x0,x1,x2,x3,rfl⟩:=len_4 hl; rfl)⟩
def spn_lay_items (K:PySem.W.Frag) (n:Nat):Sp:=fun vs H Q _=>∃ (g P:Addr) (as:List Addr) (ts:List Tre) (home:Nat) (H0:Hp) (N:NetT),vs=[.ref g,.ref P,.int home]∧depL ts < n∧GrE (clsA K "Ground") H0 H g N.1 N.2.1 N.2.2∧H0 P=some (.lst (as.map V.ref))∧TresH K H0 as ts∧NoPartL ts∧home < N.1.length∧LayM (szL ts) N∧szL ts≤95 ∧
 ∀ H',GrE (clsA K "Ground") H0 H' g (laysT home home N ts).1.1 (laysT home home N ts).1.2.1 (laysT home home N ts).1.2.2→Q .non H'
def spn_lay_part (K:PySem.W.Frag) (d:Nat):Sp:=fun vs H Q _=>∃ (g a:Addr) (r n:Str) (ts:List Tre) (home here:Nat) (H0:Hp) (N:NetT),vs=[.ref g,.ref a,.int home,.int here]∧depL ts < d∧GrE (clsA K "Ground") H0 H g N.1 N.2.1 N.2.2∧TreH K H0 a (.node r n ts)∧NoPartL ts∧home < N.1.length∧LayM (szL ts + 1) N∧szL ts + 1≤95 ∧
 ∀ H',GrE (clsA K "Ground") H0 H' g (layT home here N (.node r n ts)).1.1 (layT home here N (.node r n ts)).1.2.1 (layT home here N (.node r n ts)).1.2.2→Q .non H'
theorem ok_lay_part {f:Addr} {fd:FuncData} {n:Nat} (B:Blt mg) (ER:Ers K mg) (c_Ground_new_scope:CalleeM P w K mg base (clsA K "Ground") "new_scope" 1 ["self", "steps", "tellings"] (sp_Ground_new_scope K)) (c_Ground_new_thing:CalleeM P w K mg base (clsA K "Ground") "new_thing" 1 ["self", "kind", "number"] (sp_Ground_new_thing K)) (c_Ground_more_tellings:CalleeM P w K mg base (clsA K "Ground") "more_tellings" 1 ["self", "scope", "telling"] (sp_Ground_more_tellings K)) (c_lay_items_n:Callee P w K mg base "lay_items" (3 + 3 * n) ["ground", "program", "home"] (spn_lay_items K n)) (F:Fun K "lay_part" "lay_part" s_lay_part f fd):FnOk P w K mg base CX0 (3 + 3 * n + 1) f fd ["ground", "item", "home", "here"] (spn_lay_part K n):=by
 refine F.ok sc_lay_part (fun vs H Q E h=>?_) (fun cdv A outer s H vs Q E hr h=>?_)
 · obtain ⟨g,a,r,nm,ts,home,here,H0,N,rfl,_⟩:=h
   rfl
 · obtain ⟨g,a,r,nm,ts,home,here,H0,N,rfl,hd,hg,hT,np,hh,hM,h90,q⟩:=h
   obtain ⟨dx,S,T,R,gi⟩:=hg.gi
   obtain ⟨h0,h1,h2,hs⟩:=id hM
   cases hT with
   | @node _ dp l as _ _ _ ep el hts =>
   refine ⟨_,(pss_cons (ps_set (i:=4) sc_lay_part.nd (pe_mth c_Ground_new_scope ER.cl_Ground (hr.mono (by omega)) (pv 0) (pa_cons (pe_lst (pa_cons (pe_tup (pa_cons pe_str (pa_cons pe_str (pa_cons (pv 3) pa_nil)))) pa_nil)) (pa_cons (pe_lst pa_nil) pa_nil))))
    (pss_cons (ps_set (i:=5) sc_lay_part.nd (pe_mth c_Ground_new_thing ER.cl_Ground (hr.mono (by omega)) (pv 0) (pa_cons pe_str (pa_cons (pv 4) pa_nil))))
    (pss_cons (ps_expr (pe_mth c_Ground_more_tellings ER.cl_Ground (hr.mono (by omega)) (pv 0) (pa_cons (pv 2) (pa_cons (pe_tup (pa_cons (pe_fld (pv 1) rfl) (pa_cons (pe_fld (pv 1) rfl) (pa_cons pe_str (pa_cons (pv 5) pa_nil))))) pa_nil))))
    (pss_one (ps_expr (pe_fn c_lay_items_n (pa_cons (pv 0) (pa_cons (pe_fld (pv 1) rfl) (pa_cons (pv 4) pa_nil))) (hr.mono (by omega)))))))),?_⟩
   refine ⟨_,rfl,g,dx,_,rfl,gi,rfl,?_⟩
   refine ⟨_,rfl,three_le,fun t ht=>?_⟩
   have s1:=same_new (o:=.tup (stpV (("up" : Str),("to" : Str),(here:Int)))) ht
   have et:(upd H t (.tup (stpV (("up" : Str),("to" : Str),(here:Int))))) t=some (.tup (stpV (("up" : Str),("to" : Str),(here:Int)))):=upd_same
   rw [show (HO.tup [.str ("up" : Str),.str ("to" : Str),.int (here:Int)])=.tup (stpV (("up" : Str),("to" : Str),(here:Int))) from rfl]
   generalize upd H t (.tup (stpV (("up" : Str),("to" : Str),(here:Int))))=H1 at s1 et ⊢
   refine ⟨one_le,fun G hG=>?_⟩
   obtain ⟨H2,qH2,s2,eG⟩:=new_at (o:=.lst [.ref t]) hG
   rw [←qH2]
   refine ⟨by decide,fun E1 hE=>?_⟩
   obtain ⟨H3,qH3,s3,eE⟩:=new_at (o:=.lst []) hE
   rw [←qH3]
   have s12:=s1.trans s2
   refine ⟨g,G,E1,H0,H,([(("up" : Str),("to" : Str),(here:Int))],[]),_,_,_,rfl,hg,s12.trans s3,s1.free hG,s12.free hE,(fun z=>by rw [←z,eG] at hE; cases hE),⟨[t],s3 _ _ eG,RT.nil.snoc ((s2.trans s3) _ _ et)⟩,⟨[],eE,RT.nil⟩,(by omega),fun H4 g4=>?_⟩
   obtain ⟨dx,S,T,R,gi⟩:=g4.gi
   refine g_in ?_
   try dsimp only
   refine ⟨_,rfl,g,dx,_,rfl,gi,rfl,_,rfl,g,_,_,H0,_,_,_,rfl,g4,(by omega),fun H5 g5=>?_⟩
   obtain ⟨dx,S,T,R,gi⟩:=g5.gi
   refine g_in ?_
   try dsimp only
   have ep5:=g5.sm _ _ ep
   refine ⟨_,rfl,g,dx,_,rfl,gi,rfl,_,rfl,_,rfl,a,_,dp,_,.str r,rfl,ep5,ER.cl_Part,ER.na_Part_reach,rfl,_,rfl,a,_,dp,_,.str nm,rfl,ep5,ER.cl_Part,ER.na_Part_name,rfl,_,rfl,four_le,fun t5 ht5=>?_⟩
   have s6:=same_new (o:=.tup (tlgV (r,nm,("thing" : Str),(N.2.1.length:Int)))) ht5
   have et5:(upd H5 t5 (.tup (tlgV (r,nm,("thing" : Str),(N.2.1.length:Int))))) t5=some (.tup (tlgV (r,nm,("thing" : Str),(N.2.1.length:Int)))):=upd_same
   refine ⟨g,t5,home,_,H0,_,_,_,rfl,g5.same s6,et5,by rw [List.length_append]; omega,fun s hs'=>?_,fun H7 g7=>?_⟩
   · rcases List.mem_append.mp hs' with h | h
     · have:=hs s h; omega
     · rw [List.mem_singleton.mp h]; exact Nat.zero_le _
   have ep7:=g7.sm _ _ ep
   obtain ⟨m1,m2⟩:=layM_node (home:=home) (here:=here) (r:=r) (n:=nm) hM (by omega)
   refine ⟨_,rfl,_,rfl,a,_,dp,_,.ref l,rfl,ep7,ER.cl_Part,ER.na_Part_inner,rfl,_,rfl,g,l,as,ts,_,H0,nodeN home here N r nm,rfl,hd,g7,el,hts,np,by rw [m2]; omega,m1,by omega,fun H8 g8=>q _ ?_⟩
   rw [layT]
   exact g8
theorem call_lay_part {f:Addr} {fd:FuncData} {n:Nat} (B:Blt mg) (ER:Ers K mg) (c_Ground_new_scope:CalleeM P w K mg base (clsA K "Ground") "new_scope" 1 ["self", "steps", "tellings"] (sp_Ground_new_scope K)) (c_Ground_new_thing:CalleeM P w K mg base (clsA K "Ground") "new_thing" 1 ["self", "kind", "number"] (sp_Ground_new_thing K)) (c_Ground_more_tellings:CalleeM P w K mg base (clsA K "Ground") "more_tellings" 1 ["self", "scope", "telling"] (sp_Ground_more_tellings K)) (c_lay_items_n:Callee P w K mg base "lay_items" (3 + 3 * n) ["ground", "program", "home"] (spn_lay_items K n)) (F:Fun K "lay_part" "lay_part" s_lay_part f fd) (hm:mg "lay_part" = some (.ref f)):Callee P w K mg base "lay_part" (3 + 3 * n + 1) ["ground", "item", "home", "here"] (spn_lay_part K n) :=
 ⟨f,fd,ok_lay_part B ER c_Ground_new_scope c_Ground_new_thing c_Ground_more_tellings c_lay_items_n F,hm,F.kp,F.binds fun _ _ _ _ _ _ us hl=>(by obtain ⟨x0,x1,x2,x3,rfl⟩:=len_4 hl; rfl)⟩
def spn_lay_item (K:PySem.W.Frag) (d:Nat):Sp:=fun vs H Q _=>∃ (g a:Addr) (t:Tre) (home here:Nat) (H0:Hp) (N:NetT),vs=[.ref g,.ref a,.int home,.int here]∧dep t≤d∧GrE (clsA K "Ground") H0 H g N.1 N.2.1 N.2.2∧TreH K H0 a t∧NoPart t∧home < N.1.length∧LayM (szT t) N∧szT t≤95 ∧
 ∀ H',GrE (clsA K "Ground") H0 H' g (layT home here N t).1.1 (layT home here N t).1.2.1 (layT home here N t).1.2.2→Q (.int (layT home here N t).2) H'
theorem ok_lay_item {f:Addr} {fd:FuncData} {n:Nat} (B:Blt mg) (ER:Ers K mg) (c_lay_part_n:Callee P w K mg base "lay_part" (3 + 3 * n + 1) ["ground", "item", "home", "here"] (spn_lay_part K n)) (c_Ground_more_tellings:CalleeM P w K mg base (clsA K "Ground") "more_tellings" 1 ["self", "scope", "telling"] (sp_Ground_more_tellings K)) (c_thing_of:C_thing_of P w K mg base) (c_Ground_new_scope:CalleeM P w K mg base (clsA K "Ground") "new_scope" 1 ["self", "steps", "tellings"] (sp_Ground_new_scope K)) (c_lay_step:C_lay_step P w K mg base) (c_Ground_new_question:CalleeM P w K mg base (clsA K "Ground") "new_question" 1 ["self", "scope", "state", "path"] (sp_Ground_new_question K)) (F:Fun K "lay_item" "lay_item" s_lay_item f fd):FnOk P w K mg base CX0 (3 + 3 * n + 2) f fd ["ground", "item", "home", "here"] (spn_lay_item K n):=by
 refine F.ok sc_lay_item (fun vs H Q E h=>?_) (fun cdv A outer s H vs Q E hr h=>?_)
 · obtain ⟨g,a,t,home,here,H0,N,rfl,_⟩:=h
   rfl
 · obtain ⟨g, a, t, home, here, H0, N, rfl, hd, hg, hi, np, hh, hM, h90, q⟩ := h
   obtain ⟨dx,S,T,R,gi⟩:=hg.gi
   refine ⟨_,(pss_cons (ps_if (pt_val (pe_callB (id := "isinstance") (r:=rIsiI K) call_isiI B.b_isinstance (pa_cons (pv 1) (pa_cons (pe_glob (v:=.ref (clsA K "Part")) rfl ER.e_Part rfl) pa_nil)))) (pss_one (ps_expr (pe_fn c_lay_part_n (pa_cons (pv 0) (pa_cons (pv 1) (pa_cons (pv 2) (pa_cons (pv 3) pa_nil)))) (hr.mono (by omega))))) (pss_one (ps_if (pt_val (pe_callB (id := "isinstance") (r:=rIsiI K) call_isiI B.b_isinstance (pa_cons (pv 1) (pa_cons (pe_glob (v:=.ref (clsA K "Thing")) rfl ER.e_Thing rfl) pa_nil)))) (pss_one (ps_expr (pe_mth c_Ground_more_tellings ER.cl_Ground (hr.mono (by omega)) (pv 0) (pa_cons (pv 2) (pa_cons (pe_tup (pa_cons (pe_fld (pv 1) rfl) (pa_cons (pe_fld (pv 1) rfl) (pa_cons pe_str (pa_cons (pe_fn c_thing_of (pa_cons (pv 0) (pa_cons (pe_fld (pv 1) rfl) (pa_cons (pv 3) pa_nil))) (hr.mono (by omega))) pa_nil))))) pa_nil))))) (pss_one (ps_if (pt_val (pe_callB (id := "isinstance") (r:=rIsiI K) call_isiI B.b_isinstance (pa_cons (pv 1) (pa_cons (pe_glob (v:=.ref (clsA K "Let")) rfl ER.e_Let rfl) pa_nil)))) (pss_cons (ps_set (i:=4) sc_lay_item.nd (pe_fn c_thing_of (pa_cons (pv 0) (pa_cons (pe_fld (pv 1) rfl) (pa_cons (pv 3) pa_nil))) (hr.mono (by omega))))
           (pss_one (ps_ret (pe_mth c_Ground_new_scope ER.cl_Ground (hr.mono (by omega)) (pv 0) (pa_cons (pe_lst (pa_cons (pe_tup (pa_cons pe_str (pa_cons pe_str (pa_cons (pv 3) pa_nil)))) pa_nil)) (pa_cons (pe_lst (pa_cons (pe_tup (pa_cons pe_str (pa_cons (pe_fld (pv 1) rfl) (pa_cons pe_str (pa_cons (pv 4) pa_nil))))) pa_nil)) pa_nil)))))) (pss_one (ps_if (pt_val (pe_callB (id := "isinstance") (r:=rIsiI K) call_isiI B.b_isinstance (pa_cons (pv 1) (pa_cons (pe_glob (v:=.ref (clsA K "Elder")) rfl ER.e_Elder rfl) pa_nil)))) (pss_one (ps_expr (pe_fn c_lay_step (pa_cons (pv 0) (pa_cons pe_str (pa_cons (pe_fld (pv 1) rfl) (pa_cons (pv 2) pa_nil)))) (hr.mono (by omega))))) (pss_one (ps_if (pt_val (pe_callB (id := "isinstance") (r:=rIsiI K) call_isiI B.b_isinstance (pa_cons (pv 1) (pa_cons (pe_glob (v:=.ref (clsA K "All")) rfl ER.e_All rfl) pa_nil)))) (pss_one (ps_expr (pe_fn c_lay_step (pa_cons (pv 0) (pa_cons (pe_ifExp (pt_val (pe_fld (pv 1) rfl)) pe_str pe_str) (pa_cons (pe_fld (pv 1) rfl) (pa_cons (pv 2) pa_nil)))) (hr.mono (by omega))))) (pss_one (ps_if (pt_val (pe_callB (id := "isinstance") (r:=rIsiI K) call_isiI B.b_isinstance (pa_cons (pv 1) (pa_cons (pe_glob (v:=.ref (clsA K "One")) rfl ER.e_One rfl) pa_nil)))) (pss_cons (ps_set (i:=5) sc_lay_item.nd (pe_mth c_Ground_new_question ER.cl_Ground (hr.mono (by omega)) (pv 0) (pa_cons (pv 2) (pa_cons (pe_glob (v:=.int 2) rfl (Classical.choose_spec B.c_OUTSIDE) ⟨_,rfl⟩) (pa_cons (pe_fld (pv 1) rfl) pa_nil)))))
                 (pss_one (ps_expr (pe_mth c_Ground_more_tellings ER.cl_Ground (hr.mono (by omega)) (pv 0) (pa_cons (pv 2) (pa_cons (pe_tup (pa_cons (pe_fld (pv 1) rfl) (pa_cons (pe_fld (pv 1) rfl) (pa_cons pe_str (pa_cons (pv 5) pa_nil))))) pa_nil)))))) (pss_one (ps_expr (pe_mth c_Ground_new_question ER.cl_Ground (hr.mono (by omega)) (pv 0) (pa_cons (pv 3) (pa_cons (pe_glob (v:=.int 0) rfl (Classical.choose_spec B.c_ANYWHERE) ⟨_,rfl⟩) (pa_cons (pe_fld (pv 1) rfl) pa_nil)))))))))))))))))
    (pss_one (ps_ret (pv 3)))),?_⟩
   cases hi with
   | @node _ dp l as r nm ts e0 el hts =>
     have ei:=hg.sm _ _ e0
     refine ⟨_,rfl,a,_,dp,_,_,true,rfl,ei,ER.ci_Part,ER.ai_Part_Part,_,rfl,iteT ?_⟩
     rw [szT] at hM h90
     rw [dep] at hd
     refine ⟨_,rfl,_,rfl,_,rfl,_,rfl,g,a,r,nm,ts,home,here,H0,N,rfl,by omega,hg,.node e0 el hts,np,hh,hM,h90,fun H1 g1=>?_⟩
     refine ⟨_,rfl,?_⟩
     rw [show (layT home here N (.node r nm ts)).2=here by rw [layT]] at q
     exact q _ g1
   | @leaf _ it np' hi =>
     rw [szT] at hM
     rw [layT] at q
     obtain ⟨h0',h1',h2',hs'⟩:=hM
     have h0:N.1.length≤100:=by omega
     have h1:N.2.1.length≤100:=by omega
     have h2:N.2.2.length≤100:=by omega
     have hs:∀ s∈N.1,s.1.length≤100∧s.2.length≤100:=fun s m=>by have:=hs' s m; omega
     cases it with
     | part r n=>exact np'.elim
     | thing r n o =>
       obtain ⟨dp,v,e0,ev⟩:=hi
       have ei:=hg.sm _ _ e0
       refine ⟨_,rfl,a,_,dp,_,_,false,rfl,ei,ER.ci_Thing,ER.ai_Thing_Part,_,rfl,iteF ?_⟩
       refine ⟨_,rfl,a,_,dp,_,_,true,rfl,ei,ER.ci_Thing,ER.ai_Thing_Thing,_,rfl,iteT ?_⟩
       refine ⟨_,rfl,g,dx,_,rfl,gi,rfl,_,rfl,_,rfl,a,_,dp,_,.str r,rfl,ei,ER.cl_Thing,ER.na_Thing_reach,rfl,_,rfl,a,_,dp,_,.str n,rfl,ei,ER.cl_Thing,ER.na_Thing_name,rfl,_,rfl,_,rfl,a,_,dp,_,v,rfl,ei,ER.cl_Thing,ER.na_Thing_of,rfl,_,rfl,g,v,o,here,H0,N,rfl,hg,ev.same hg.sm,h1,h2,fun H1 g1=>?_⟩
       refine ⟨four_le,fun t ht=>?_⟩
       have s2:=same_new (o:=.tup (tlgV (r,n,("thing" : Str),(N.2.1.length:Int)))) ht
       have et:(upd H1 t (.tup (tlgV (r,n,("thing" : Str),(N.2.1.length:Int))))) t=some (.tup (tlgV (r,n,("thing" : Str),(N.2.1.length:Int)))):=upd_same
       refine ⟨g,t,home,_,H0,_,_,_,rfl,g1.same s2,et,hh,fun s m=>(hs s m).2,fun H3 g3=>?_⟩
       exact ⟨_,rfl,q _ g3⟩
     | lett n o =>
       obtain ⟨dp,v,e0,ev⟩:=hi
       have ei:=hg.sm _ _ e0
       refine ⟨_,rfl,a,_,dp,_,_,false,rfl,ei,ER.ci_Let,ER.ai_Let_Part,_,rfl,iteF ?_⟩
       refine ⟨_,rfl,a,_,dp,_,_,false,rfl,ei,ER.ci_Let,ER.ai_Let_Thing,_,rfl,iteF ?_⟩
       refine ⟨_,rfl,a,_,dp,_,_,true,rfl,ei,ER.ci_Let,ER.ai_Let_Let,_,rfl,iteT ?_⟩
       refine ⟨_,rfl,_,rfl,a,_,dp,_,v,rfl,ei,ER.cl_Let,ER.na_Let_of,rfl,_,rfl,g,v,o,here,H0,N,rfl,hg,ev.same hg.sm,h1,h2,fun H1 g1=>?_⟩
       refine g_in ?_
       try dsimp only
       obtain ⟨dx,S,T,R,gi⟩:=g1.gi
       have ei1:=g1.sm _ _ e0
       refine ⟨_,rfl,g,dx,_,rfl,gi,rfl,?_⟩
       refine ⟨_,rfl,three_le,fun t ht=>?_⟩
       have s1:=same_new (o:=.tup (stpV (("up" : Str),("to" : Str),(here:Int)))) ht
       have et:(upd H1 t (.tup (stpV (("up" : Str),("to" : Str),(here:Int))))) t=some (.tup (stpV (("up" : Str),("to" : Str),(here:Int)))):=upd_same
       rw [show (HO.tup [.str ("up" : Str),.str ("to" : Str),.int (here:Int)])=.tup (stpV (("up" : Str),("to" : Str),(here:Int))) from rfl]
       generalize upd H1 t (.tup (stpV (("up" : Str),("to" : Str),(here:Int))))=H2 at s1 et ⊢
       refine ⟨one_le,fun G hG=>?_⟩
       obtain ⟨H3,qH3,s2,eG⟩:=new_at (o:=.lst [.ref t]) hG
       rw [←qH3]
       have s12:=s1.trans s2
       refine ⟨_,rfl,a,_,dp,_,.str n,rfl,((s12.trans (Same.refl _)) _ _ ei1),ER.cl_Let,ER.na_Let_name,rfl,_,rfl,four_le,fun t2 ht2=>?_⟩
       have s3:=same_new (o:=.tup (tlgV (("let" : Str),n,("thing" : Str),(N.2.1.length:Int)))) ht2
       have et2:(upd H3 t2 (.tup (tlgV (("let" : Str),n,("thing" : Str),(N.2.1.length:Int))))) t2=some (.tup (tlgV (("let" : Str),n,("thing" : Str),(N.2.1.length:Int)))):=upd_same
       rw [show (HO.tup [.str ("let" : Str),.str n,.str ("thing" : Str),.int (N.2.1.length:Int)])=.tup (tlgV (("let" : Str),n,("thing" : Str),(N.2.1.length:Int))) from rfl]
       generalize upd H3 t2 (.tup (tlgV (("let" : Str),n,("thing" : Str),(N.2.1.length:Int))))=H4 at s3 et2 ⊢
       refine ⟨one_le,fun E1 hE=>?_⟩
       obtain ⟨H5,qH5,s4,eE⟩:=new_at (o:=.lst [.ref t2]) hE
       rw [←qH5]
       have s34:=s3.trans s4
       have s13:=s12.trans s3
       refine ⟨g,G,E1,H0,H1,([(("up" : Str),("to" : Str),(here:Int))],[(("let" : Str),n,("thing" : Str),(N.2.1.length:Int))]),_,_,_,rfl,g1,s12.trans s34,s1.free hG,s13.free hE,(fun z=>by rw [←z,s3 _ _ eG] at hE; cases hE),⟨[t],s34 _ _ eG,RT.nil.snoc ((s2.trans s34) _ _ et)⟩,⟨[t2],eE,RT.nil.snoc (s4 _ _ et2)⟩,h0,fun H6 g6=>?_⟩
       exact q _ g6
     | elder p =>
       obtain ⟨dp,v,e0,ev⟩:=hi
       have ei:=hg.sm _ _ e0
       refine ⟨_,rfl,a,_,dp,_,_,false,rfl,ei,ER.ci_Elder,ER.ai_Elder_Part,_,rfl,iteF ?_⟩
       refine ⟨_,rfl,a,_,dp,_,_,false,rfl,ei,ER.ci_Elder,ER.ai_Elder_Thing,_,rfl,iteF ?_⟩
       refine ⟨_,rfl,a,_,dp,_,_,false,rfl,ei,ER.ci_Elder,ER.ai_Elder_Let,_,rfl,iteF ?_⟩
       refine ⟨_,rfl,a,_,dp,_,_,true,rfl,ei,ER.ci_Elder,ER.ai_Elder_Elder,_,rfl,iteT ?_⟩
       refine ⟨_,rfl,_,rfl,a,_,dp,_,v,rfl,ei,ER.cl_Elder,ER.na_Elder_path,rfl,_,rfl,g,v,_,p,home,H0,N,rfl,hg,ev.same hg.sm,hh,fun s m=>(hs s m).1,h2,fun H1 g1=>?_⟩
       exact ⟨_,rfl,q _ g1⟩
     | all p on =>
       obtain ⟨dp,v,e0,ev⟩:=hi
       have ei:=hg.sm _ _ e0
       refine ⟨_,rfl,a,_,dp,_,_,false,rfl,ei,ER.ci_All,ER.ai_All_Part,_,rfl,iteF ?_⟩
       refine ⟨_,rfl,a,_,dp,_,_,false,rfl,ei,ER.ci_All,ER.ai_All_Thing,_,rfl,iteF ?_⟩
       refine ⟨_,rfl,a,_,dp,_,_,false,rfl,ei,ER.ci_All,ER.ai_All_Let,_,rfl,iteF ?_⟩
       refine ⟨_,rfl,a,_,dp,_,_,false,rfl,ei,ER.ci_All,ER.ai_All_Elder,_,rfl,iteF ?_⟩
       refine ⟨_,rfl,a,_,dp,_,_,true,rfl,ei,ER.ci_All,ER.ai_All_All,_,rfl,iteT ?_⟩
       refine ⟨_,rfl,_,rfl,a,_,dp,_,.bl on,rfl,ei,ER.cl_All,ER.na_All_on,rfl,_,rfl,?_⟩
       cases on with
       | true =>
         refine iteT ?_
         refine ⟨_,rfl,a,_,dp,_,v,rfl,ei,ER.cl_All,ER.na_All_path,rfl,_,rfl,g,v,_,p,home,H0,N,rfl,hg,ev.same hg.sm,hh,fun s m=>(hs s m).1,h2,fun H1 g1=>?_⟩
         exact ⟨_,rfl,q _ g1⟩
       | false =>
         refine iteF ?_
         refine ⟨_,rfl,a,_,dp,_,v,rfl,ei,ER.cl_All,ER.na_All_path,rfl,_,rfl,g,v,_,p,home,H0,N,rfl,hg,ev.same hg.sm,hh,fun s m=>(hs s m).1,h2,fun H1 g1=>?_⟩
         exact ⟨_,rfl,q _ g1⟩
     | one r n p =>
       obtain ⟨dp,v,e0,u,rfl,eu⟩:=hi
       have ei:=hg.sm _ _ e0
       refine ⟨_,rfl,a,_,dp,_,_,false,rfl,ei,ER.ci_One,ER.ai_One_Part,_,rfl,iteF ?_⟩
       refine ⟨_,rfl,a,_,dp,_,_,false,rfl,ei,ER.ci_One,ER.ai_One_Thing,_,rfl,iteF ?_⟩
       refine ⟨_,rfl,a,_,dp,_,_,false,rfl,ei,ER.ci_One,ER.ai_One_Let,_,rfl,iteF ?_⟩
       refine ⟨_,rfl,a,_,dp,_,_,false,rfl,ei,ER.ci_One,ER.ai_One_Elder,_,rfl,iteF ?_⟩
       refine ⟨_,rfl,a,_,dp,_,_,false,rfl,ei,ER.ci_One,ER.ai_One_All,_,rfl,iteF ?_⟩
       refine ⟨_,rfl,a,_,dp,_,_,true,rfl,ei,ER.ci_One,ER.ai_One_One,_,rfl,iteT ?_⟩
       refine ⟨_,rfl,g,dx,_,rfl,gi,rfl,_,rfl,_,rfl,a,_,dp,_,.ref u,rfl,ei,ER.cl_One,ER.na_One_path,rfl,g,u,_,_,p,H0,_,_,_,rfl,hg,hg.sm _ _ eu,h2,fun H1 g1=>?_⟩
       refine g_in ?_
       try dsimp only
       obtain ⟨dx,S,T,R,gi⟩:=g1.gi
       have ei1:=g1.sm _ _ e0
       refine ⟨_,rfl,g,dx,_,rfl,gi,rfl,_,rfl,_,rfl,a,_,dp,_,.str r,rfl,ei1,ER.cl_One,ER.na_One_reach,rfl,_,rfl,a,_,dp,_,.str n,rfl,ei1,ER.cl_One,ER.na_One_name,rfl,_,rfl,four_le,fun t ht=>?_⟩
       have s2:=same_new (o:=.tup (tlgV (r,n,("by" : Str),(N.2.2.length:Int)))) ht
       have et:(upd H1 t (.tup (tlgV (r,n,("by" : Str),(N.2.2.length:Int))))) t=some (.tup (tlgV (r,n,("by" : Str),(N.2.2.length:Int)))):=upd_same
       refine ⟨g,t,home,_,H0,_,_,_,rfl,g1.same s2,et,hh,fun s m=>(hs s m).2,fun H3 g3=>?_⟩
       exact ⟨_,rfl,q _ g3⟩
     | ask p =>
       obtain ⟨dp,v,e0,u,rfl,eu⟩:=hi
       have ei:=hg.sm _ _ e0
       refine ⟨_,rfl,a,_,dp,_,_,false,rfl,ei,ER.ci_Ask,ER.ai_Ask_Part,_,rfl,iteF ?_⟩
       refine ⟨_,rfl,a,_,dp,_,_,false,rfl,ei,ER.ci_Ask,ER.ai_Ask_Thing,_,rfl,iteF ?_⟩
       refine ⟨_,rfl,a,_,dp,_,_,false,rfl,ei,ER.ci_Ask,ER.ai_Ask_Let,_,rfl,iteF ?_⟩
       refine ⟨_,rfl,a,_,dp,_,_,false,rfl,ei,ER.ci_Ask,ER.ai_Ask_Elder,_,rfl,iteF ?_⟩
       refine ⟨_,rfl,a,_,dp,_,_,false,rfl,ei,ER.ci_Ask,ER.ai_Ask_All,_,rfl,iteF ?_⟩
       refine ⟨_,rfl,a,_,dp,_,_,false,rfl,ei,ER.ci_Ask,ER.ai_Ask_One,_,rfl,iteF ?_⟩
       refine ⟨_,rfl,g,dx,_,rfl,gi,rfl,_,rfl,_,rfl,a,_,dp,_,.ref u,rfl,ei,ER.cl_Ask,ER.na_Ask_path,rfl,g,u,_,_,p,H0,_,_,_,rfl,hg,hg.sm _ _ eu,h2,fun H1 g1=>?_⟩
       exact ⟨_,rfl,q _ g1⟩
theorem call_lay_item {f:Addr} {fd:FuncData} {n:Nat} (B:Blt mg) (ER:Ers K mg) (c_lay_part_n:Callee P w K mg base "lay_part" (3 + 3 * n + 1) ["ground", "item", "home", "here"] (spn_lay_part K n)) (c_Ground_more_tellings:CalleeM P w K mg base (clsA K "Ground") "more_tellings" 1 ["self", "scope", "telling"] (sp_Ground_more_tellings K)) (c_thing_of:C_thing_of P w K mg base) (c_Ground_new_scope:CalleeM P w K mg base (clsA K "Ground") "new_scope" 1 ["self", "steps", "tellings"] (sp_Ground_new_scope K)) (c_lay_step:C_lay_step P w K mg base) (c_Ground_new_question:CalleeM P w K mg base (clsA K "Ground") "new_question" 1 ["self", "scope", "state", "path"] (sp_Ground_new_question K)) (F:Fun K "lay_item" "lay_item" s_lay_item f fd) (hm:mg "lay_item" = some (.ref f)):Callee P w K mg base "lay_item" (3 + 3 * n + 2) ["ground", "item", "home", "here"] (spn_lay_item K n) :=
 ⟨f,fd,ok_lay_item B ER c_lay_part_n c_Ground_more_tellings c_thing_of c_Ground_new_scope c_lay_step c_Ground_new_question F,hm,F.kp,F.binds fun _ _ _ _ _ _ us hl=>(by obtain ⟨x0,x1,x2,x3,rfl⟩:=len_4 hl; rfl)⟩
theorem ok_lay_items {f:Addr} {fd:FuncData} {n:Nat} (B:Blt mg) (ER:Ers K mg) (c_lay_item_n:Callee P w K mg base "lay_item" (3 + 3 * n + 2) ["ground", "item", "home", "here"] (spn_lay_item K n)) (F:Fun K "lay_items" "lay_items" s_lay_items f fd):FnOk P w K mg base CX0 (3 + 3 * n + 3) f fd ["ground", "program", "home"] (spn_lay_items K (n + 1)):=by
 refine F.ok sc_lay_items (fun vs H Q E h=>?_) (fun cdv A outer s H vs Q E hr h=>?_)
 · obtain ⟨g,P,as,ts,home,H0,N,rfl,_⟩:=h
   rfl
 · obtain ⟨g,P,as,ts,home,H0,N,rfl,hd,hg,eP,hI,np,hh,hM,h90,q⟩:=h
   refine ⟨_,(pss_cons (ps_set (i:=3) sc_lay_items.nd (pv 2))
    (pss_one (ps_for PassesOwn.never rfl (pi_list (pv 1)) (pg_name (i:=4) sc_lay_items.nd) (pss_one (ps_set (i:=3) sc_lay_items.nd (pe_fn c_lay_item_n (pa_cons (pv 0) (pa_cons (pv 4) (pa_cons (pv 2) (pa_cons (pv 3) pa_nil)))) (hr.mono (by omega)))))))),?_⟩
   refine ⟨_,rfl,?_⟩
   refine g_in ?_
   try dsimp only
   refine ⟨_,rfl,P,rfl,⟨_,SqL.of (hg.sm _ _ eP)⟩,for_list (xs:=as.map V.ref) (fun i σ H'=>∃ w,σ=[some (.ref g),some (.ref P),some (.int home),some (.int (laysT home home N (ts.take i)).2),w]∧GrE (clsA K "Ground") H0 H' g (laysT home home N (ts.take i)).1.1 (laysT home home N (ts.take i)).1.2.1 (laysT home home N (ts.take i)).1.2.2) ⟨none,by rw [List.take_zero,laysT]; rfl,by rw [List.take_zero,laysT]; exact hg⟩ (fun i σ H' _ ⟨_,_,g'⟩=>SqL.of (g'.sm _ _ eP)) ?_ ?_⟩
   · rintro i x σ H2 hx ⟨w,rfl,g2⟩
     obtain ⟨a,ha,rfl⟩:=getm hx
     obtain ⟨t,hit,hi⟩:=hI.get ha
     obtain ⟨np1,np2⟩:=npL np hit
     have sz:=szL_at hit
     have dm:=dep_mem (List.mem_of_getElem? hit)
     obtain ⟨M,ml⟩:=layM_L (ts:=ts.take i) (m:=szT t) (home:=home) (here:=home) np2 (hM.mono sz) (by omega)
     refine g_in ?_
     try dsimp only
     refine ⟨_,rfl,_,rfl,_,rfl,_,rfl,g,a,t,home,_,H0,_,rfl,by omega,g2,hi,np1,by omega,M,by omega,fun H3 g3=>?_⟩
     rw [←laysT_snoc hit] at g3 ⊢
     exact ⟨_,rfl,g3⟩
   rintro σ H2 ⟨w,rfl,g2⟩
   rw [show (as.map V.ref).length=ts.length by rw [List.length_map,hI.len],List.take_length] at g2
   exact q H2 g2
theorem call_lay_items {f:Addr} {fd:FuncData} {n:Nat} (B:Blt mg) (ER:Ers K mg) (c_lay_item_n:Callee P w K mg base "lay_item" (3 + 3 * n + 2) ["ground", "item", "home", "here"] (spn_lay_item K n)) (F:Fun K "lay_items" "lay_items" s_lay_items f fd) (hm:mg "lay_items" = some (.ref f)):Callee P w K mg base "lay_items" (3 + 3 * n + 3) ["ground", "program", "home"] (spn_lay_items K (n + 1)) :=
 ⟨f,fd,ok_lay_items B ER c_lay_item_n F,hm,F.kp,F.binds fun _ _ _ _ _ _ us hl=>(by obtain ⟨x0,x1,x2,rfl⟩:=len_3 hl; rfl)⟩
abbrev sp_lay_items (K:PySem.W.Frag):Sp:=spn_lay_items K 32
variable (P w K mg base) in
abbrev C_lay_items:Prop:=Callee P w K mg base "lay_items" 99 ["ground", "program", "home"] (sp_lay_items K)
theorem calln_lay_items (B:Blt mg) (ER:Ers K mg) (c_Ground_new_scope:CalleeM P w K mg base (clsA K "Ground") "new_scope" 1 ["self", "steps", "tellings"] (sp_Ground_new_scope K)) (c_Ground_new_thing:CalleeM P w K mg base (clsA K "Ground") "new_thing" 1 ["self", "kind", "number"] (sp_Ground_new_thing K)) (c_Ground_more_tellings:CalleeM P w K mg base (clsA K "Ground") "more_tellings" 1 ["self", "scope", "telling"] (sp_Ground_more_tellings K)) (c_thing_of:C_thing_of P w K mg base) (c_lay_step:C_lay_step P w K mg base) (c_Ground_new_question:CalleeM P w K mg base (clsA K "Ground") "new_question" 1 ["self", "scope", "state", "path"] (sp_Ground_new_question K)) {f0:Addr} {d0:FuncData} (F0:Fun K "lay_part" "lay_part" s_lay_part f0 d0) (m0:mg "lay_part" = some (.ref f0)) {f1:Addr} {d1:FuncData} (F1:Fun K "lay_item" "lay_item" s_lay_item f1 d1) (m1:mg "lay_item" = some (.ref f1)) {f2:Addr} {d2:FuncData} (F2:Fun K "lay_items" "lay_items" s_lay_items f2 d2) (m2:mg "lay_items" = some (.ref f2)) (n:Nat):Callee P w K mg base "lay_items" (3 + 3 * n) ["ground", "program", "home"] (spn_lay_items K n):=by
 induction n with
 | zero=>exact ⟨f2,d2,⟨fun vs H Q E h=>(by obtain ⟨_,_,_,_,_,_,_,_,hd,_⟩:=h; exact absurd hd (Nat.not_lt_zero _)),fun A outer s H args us vs Q E _ _ _ _ h=>(by obtain ⟨_,_,_,_,_,_,_,_,hd,_⟩:=h; exact absurd hd (Nat.not_lt_zero _))⟩,m2,F2.kp,F2.binds fun _ _ _ _ _ _ us hl=>(by obtain ⟨x0,x1,x2,rfl⟩:=len_3 hl; rfl)⟩
 | succ n ih=>exact (call_lay_items B ER (call_lay_item B ER (call_lay_part B ER c_Ground_new_scope c_Ground_new_thing c_Ground_more_tellings ih F0 m0) c_Ground_more_tellings c_thing_of c_Ground_new_scope c_lay_step c_Ground_new_question F1 m1) F2 m2)
def sp_refuse_more (K:PySem.W.Frag):Sp:=fun vs H Q E=>∃ (p:Addr) (n:Nat) (m:Int) (w:Str),vs=[.ref p,.int m,.str w]∧LenV K (.ref p) H n∧((n:Int)≤m→Q .non H)∧(m < (n:Int)→E (.ref (clsA K "TooGreat")) none H)
theorem ok_refuse_more (B:Blt mg) (ER:Ers K mg)  (F:Fun K "refuse_more" "refuse_more" s_refuse_more f fd):FnOk P w K mg base (CXE P w) 1 f fd ["parts", "most", "words"] (sp_refuse_more K):=by
 refine F.okE sc_refuse_more (fun vs H Q E h=>?_) (fun cdv A outer s H vs Q E hr h=>?_)
 · obtain ⟨p,n,m,w,rfl,_⟩:=h
   rfl
 · obtain ⟨p,n,m,w,rfl,hl,qy,qn⟩:=h
   refine ⟨_,(pss_one (ps_if (pt_cmpR op_gt (pe_callB call_len B.b_len (pa_cons (pv 0) pa_nil)) (pv 1) (nomark _)) (pss_one (ps_raise throws_cx rfl ER.k_TooGreat rfl (pa_cons (pv 2) pa_nil))) pss_nil)),?_⟩
   refine ⟨_,rfl,_,n,rfl,hl,_,rfl,_,_,rfl,rfl,_,rfl,ite2 (fun h=>?_) (fun h=>?_)⟩
   · have h:=of_decide_eq_true h
     exact ⟨_,rfl,one_le,qn (by omega)⟩
   · exact qy (by
      have h:¬ (n:Int) > m:=fun z=>h (decide_eq_true z)
      omega)
theorem call_refuse_more (B:Blt mg) (ER:Ers K mg)  (F:Fun K "refuse_more" "refuse_more" s_refuse_more f fd) (hm:mg "refuse_more" = some (.ref f)):CalleeE P w K mg base "refuse_more" 1 ["parts", "most", "words"] (sp_refuse_more K) :=
 ⟨f,fd,ok_refuse_more B ER  F,hm,F.kp,F.binds fun _ _ _ _ _ _ us hl=>(by obtain ⟨x0,x1,x2,rfl⟩:=len_3 hl; rfl)⟩
def sp_refuse_too_great (K:PySem.W.Frag):Sp:=fun vs H Q E=>∃ (S T R:Addr) (us Gs Es ts qt:List Addr) (ss:List Sco) (gs:List (Str × Int)) (qs:List Qu),vs=[.ref S,.ref T,.ref R]∧Net3 H S T R us Gs Es ts qt ss gs qs∧(NFits ss gs qs→Q .non H)∧(¬ NFits ss gs qs→E (.ref (clsA K "TooGreat")) none H)
theorem ok_refuse_too_great (B:Blt mg) (ER:Ers K mg) (c_refuse_more:CalleeE P w K mg base "refuse_more" 1 ["parts", "most", "words"] (sp_refuse_more K)) (F:Fun K "refuse_too_great" "refuse_too_great" s_refuse_too_great f fd):FnOk P w K mg base (CXE P w) 2 f fd ["scopes", "things", "questions"] (sp_refuse_too_great K):=by
 refine F.okE sc_refuse_too_great (fun vs H Q E h=>?_) (fun cdv A outer s H vs Q E hr h=>?_)
 · obtain ⟨S,T,R,us,Gs,Es,ts,qt,ss,gs,qs,rfl,_⟩:=h
   rfl
 · obtain ⟨S,T,R,us,Gs,Es,ts,qt,ss,gs,qs,rfl,hN,qy,qn⟩:=h
   have lu:(us.map V.ref).length=ss.length:=by rw [List.length_map,hN.sc.lu]
   have lt:(ts.map V.ref).length=gs.length:=by rw [List.length_map,hN.tg.len]
   have lq:(qt.map V.ref).length=qs.length:=by rw [List.length_map,hN.tq.len]
   refine ⟨_,(pss_cons (ps_expr (pe_fnE c_refuse_more throws_cx (hr.mono (by decide)) rfl (pa_cons (pv 0) (pa_cons (pe_glob (v:=.int 40) rfl (Classical.choose_spec B.c_MOST_SCOPES) ⟨_,rfl⟩) (pa_cons pe_str pa_nil)))))
    (pss_cons (ps_expr (pe_fnE c_refuse_more throws_cx (hr.mono (by decide)) rfl (pa_cons (pv 1) (pa_cons (pe_glob (v:=.int 80) rfl (Classical.choose_spec B.c_MOST_THINGS) ⟨_,rfl⟩) (pa_cons pe_str pa_nil)))))
    (pss_cons (ps_expr (pe_fnE c_refuse_more throws_cx (hr.mono (by decide)) rfl (pa_cons (pv 2) (pa_cons (pe_glob (v:=.int 60) rfl (Classical.choose_spec B.c_MOST_QUESTIONS) ⟨_,rfl⟩) (pa_cons pe_str pa_nil)))))
    (pss_cons (ps_for PassesOwn.«leaving» rfl (pi_list (pv 0)) (pg_tup (n:=2) rfl (pgs_cons (pg_name (i:=3) sc_refuse_too_great.nd) (pgs_cons (pg_name (i:=4) sc_refuse_too_great.nd) pgs_nil))) (pss_cons (ps_expr (pe_fnE c_refuse_more throws_cx (hr.mono (by decide)) rfl (pa_cons (pv 3) (pa_cons (pe_glob (v:=.int 8) rfl (Classical.choose_spec B.c_MOST_STEPS) ⟨_,rfl⟩) (pa_cons pe_str pa_nil)))))
     (pss_one (ps_expr (pe_fnE c_refuse_more throws_cx (hr.mono (by decide)) rfl (pa_cons (pv 4) (pa_cons (pe_glob (v:=.int 12) rfl (Classical.choose_spec B.c_MOST_TELLINGS) ⟨_,rfl⟩) (pa_cons pe_str pa_nil))))))))
    (pss_one (ps_for PassesOwn.«leaving» rfl (pi_list (pv 2)) (pg_tup (n:=3) rfl (pgs_cons (pg_name (i:=5) sc_refuse_too_great.nd) (pgs_cons (pg_name (i:=6) sc_refuse_too_great.nd) (pgs_cons (pg_name (i:=7) sc_refuse_too_great.nd) pgs_nil)))) (pss_one (ps_expr (pe_fnE c_refuse_more throws_cx (hr.mono (by decide)) rfl (pa_cons (pv 7) (pa_cons (pe_glob (v:=.int 6) rfl (Classical.choose_spec B.c_LONGEST_PATH) ⟨_,rfl⟩) (pa_cons pe_str pa_nil)))))))))))),?_⟩
   refine ⟨_,rfl,S,_,40,_,rfl,Or.inl ⟨_,SqL.of hN.sc.top,rfl⟩,fun l1=>?_,fun h=>qn fun z=>by have:=z.ls; rw [lu] at h; omega⟩
   refine ⟨_,rfl,T,_,80,_,rfl,Or.inl ⟨_,SqL.of hN.et,rfl⟩,fun l2=>?_,fun h=>qn fun z=>by have:=z.lg; rw [lt] at h; omega⟩
   refine ⟨_,rfl,R,_,60,_,rfl,Or.inl ⟨_,SqL.of hN.er,rfl⟩,fun l3=>?_,fun h=>qn fun z=>by have:=z.lq; rw [lq] at h; omega⟩
   rw [lu] at l1
   rw [lt] at l2
   rw [lq] at l3
   refine ⟨_,rfl,S,rfl,⟨_,SqL.of hN.sc.top⟩,for_list (xs:=us.map V.ref) (fun i σ H'=>∃ u3 u4,σ=[some (.ref S),some (.ref T),some (.ref R),u3,u4,none,none,none]∧H'=H∧∀ s∈ss.take i,s.1.length≤8∧s.2.length≤12) ⟨none,none,rfl,rfl,fun s hs=>by simp at hs⟩ (fun i σ H' _ ⟨_,_,_,e,_⟩=>by rw [e]; exact SqL.of hN.sc.top) ?_ ?_⟩
   · rintro i x σ H2 hx ⟨u3,u4,rfl,rfl,hall⟩
     obtain ⟨u,hu,rfl⟩:=getm hx
     have hil:i < ss.length:=by rw [←hN.sc.lu]; exact (List.getElem?_eq_some_iff.mp hu).1
     obtain ⟨u',G,E1,g1,g2,g3,g4,⟨a1,⟨tG,b1,b2⟩,⟨tE,c1,c2⟩⟩⟩:=hN.sc.get hil
     rw [hu] at g1; cases g1
     refine ⟨u,_,rfl,SqT.of a1,rfl,_,_,rfl,_,_,rfl,rfl,?_⟩
     refine ⟨_,rfl,G,_,8,_,rfl,Or.inl ⟨_,SqL.of b1,rfl⟩,fun k1=>?_,fun h=>qn fun z=>by
      have:=z.st8 _ (List.getElem_mem hil)
      rw [List.length_map,b2.len] at h; omega⟩
     refine ⟨_,rfl,E1,_,12,_,rfl,Or.inl ⟨_,SqL.of c1,rfl⟩,fun k2=>?_,fun h=>qn fun z=>by
      have:=z.tl12 _ (List.getElem_mem hil)
      rw [List.length_map,c2.len] at h; omega⟩
     rw [List.length_map,b2.len] at k1
     rw [List.length_map,c2.len] at k2
     exact ⟨_,_,rfl,rfl,take_all hall hil ⟨by omega,by omega⟩⟩
   rintro σ H2 ⟨u3,u4,rfl,rfl,hall⟩
   rw [lu,List.take_length] at hall
   refine ⟨_,rfl,R,rfl,⟨_,SqL.of hN.er⟩,for_list (xs:=qt.map V.ref) (fun i σ H'=>∃ u5 u6 u7,σ=[some (.ref S),some (.ref T),some (.ref R),u3,u4,u5,u6,u7]∧H'=H2∧∀ q∈qs.take i,q.2.2.length≤6) ⟨none,none,none,rfl,rfl,fun s hs=>by simp at hs⟩ (fun i σ H' _ ⟨_,_,_,_,e,_⟩=>by rw [e]; exact SqL.of hN.er) ?_ ?_⟩
   · rintro i x σ H3 hx ⟨u5,u6,u7,rfl,rfl,hq⟩
     obtain ⟨t,ht,rfl⟩:=getm hx
     have hil:i < qs.length:=by rw [←hN.tq.len]; exact (List.getElem?_eq_some_iff.mp ht).1
     obtain ⟨u,a1,a2⟩:=hN.tq.at_ i t _ ht (List.getElem?_eq_getElem hil)
     refine ⟨t,_,rfl,SqT.of a1,rfl,_,_,rfl,_,_,rfl,_,_,rfl,rfl,?_⟩
     refine ⟨_,rfl,u,_,6,_,rfl,Or.inr ⟨_,SqT.of a2,rfl⟩,fun k1=>?_,fun h=>qn fun z=>by
      have:=z.p6 _ (List.getElem_mem hil)
      rw [List.length_map] at h; omega⟩
     rw [List.length_map] at k1
     exact ⟨_,_,_,rfl,rfl,take_all hq hil (by omega)⟩
   rintro σ H3 ⟨u5,u6,u7,rfl,rfl,hq⟩
   rw [lq,List.take_length] at hq
   exact qy ⟨by omega,by omega,by omega,fun s hs=>(hall s hs).1,fun s hs=>(hall s hs).2,hq⟩
theorem call_refuse_too_great (B:Blt mg) (ER:Ers K mg) (c_refuse_more:CalleeE P w K mg base "refuse_more" 1 ["parts", "most", "words"] (sp_refuse_more K)) (F:Fun K "refuse_too_great" "refuse_too_great" s_refuse_too_great f fd) (hm:mg "refuse_too_great_nets" = some (.ref f)):CalleeE P w K mg base "refuse_too_great_nets" 2 ["scopes", "things", "questions"] (sp_refuse_too_great K) :=
 ⟨f,fd,ok_refuse_too_great B ER c_refuse_more F,hm,F.kp,F.binds fun _ _ _ _ _ _ us hl=>(by obtain ⟨x0,x1,x2,rfl⟩:=len_3 hl; rfl)⟩
def sp_words_told (K:PySem.W.Frag):Sp:=fun vs H Q _=>∃ (S T R:Addr) (us Gs Es ts qt:List Addr) (ss:List Sco) (gs:List (Str × Int)) (qs:List Qu),vs=[.ref S,.ref R]∧Net3 H S T R us Gs Es ts qt ss gs qs∧NFits ss gs qs ∧
 ∀ (D:Addr) (H':Hp),H D=none→Same H H'→H' D=some (.lst ((wordsN ss qs).map V.str))→Q (.ref D) H'
theorem ok_words_told (B : Blt mg) (ER : Ers K mg)  (F : Fun K "words_told" "words_told" s_words_told f fd) : FnOk P w K mg base CX0 1 f fd ["scopes", "questions"] (sp_words_told K) := by
 refine F.ok sc_words_told (fun vs H Q E h=>?_) (fun cdv A outer s H vs Q E hr h=>?_)
 · obtain ⟨S,T,R,us,Gs,Es,ts,qt,ss,gs,qs,rfl,_⟩:=h
   rfl
 · obtain ⟨S,T,R,us,Gs,Es,ts,qt,ss,gs,qs,rfl,hN,hF,q⟩:=h
   have l1:=hF.ls
   have l3:=hF.lq
   have w32:∀ i,((ss.take i).flatMap wordsS).length≤1280:=fun i=>by
    have:=flat_len (f:=wordsS) (m:=32) (xs:=ss.take i) fun s hs=>wordsS_len ⟨hF.st8 s (List.mem_of_mem_take hs),hF.tl12 s (List.mem_of_mem_take hs)⟩
    rw [List.length_take] at this
    omega
   have w6:∀ i,((qs.take i).flatMap (·.2.2)).length≤360:=fun i=>by
    have:=flat_len (f:=fun q:Qu=>q.2.2) (m:=6) (xs:=qs.take i) fun s hs=>hF.p6 s (List.mem_of_mem_take hs)
    rw [List.length_take] at this
    omega
   refine ⟨_,(pss_cons (ps_set (i:=2) sc_words_told.nd (pe_lst pa_nil))
    (pss_cons (ps_for PassesOwn.never rfl (pi_list (pv 0)) (pg_tup (n:=2) rfl (pgs_cons (pg_name (i:=3) sc_words_told.nd) (pgs_cons (pg_name (i:=4) sc_words_told.nd) pgs_nil))) (pss_cons (ps_for PassesOwn.never rfl (pi_list (pv 3)) (pg_tup (n:=3) rfl (pgs_cons (pg_name (i:=5) sc_words_told.nd) (pgs_cons (pg_name (i:=6) sc_words_told.nd) (pgs_cons (pg_name (i:=7) sc_words_told.nd) pgs_nil)))) (pss_one (ps_expr (pe_bm PySem.F.plainAttrs_list PySem.F.slot_list_append PySem.F.type_list_append mr_append (pv 2) (pa_cons (pv 5) pa_nil)))))
     (pss_one (ps_for PassesOwn.never rfl (pi_list (pv 4)) (pg_tup (n:=4) rfl (pgs_cons (pg_name (i:=5) sc_words_told.nd) (pgs_cons (pg_name (i:=8) sc_words_told.nd) (pgs_cons (pg_name (i:=6) sc_words_told.nd) (pgs_cons (pg_name (i:=7) sc_words_told.nd) pgs_nil))))) (pss_cons (ps_expr (pe_bm PySem.F.plainAttrs_list PySem.F.slot_list_append PySem.F.type_list_append mr_append (pv 2) (pa_cons (pv 5) pa_nil)))
      (pss_one (ps_expr (pe_bm PySem.F.plainAttrs_list PySem.F.slot_list_append PySem.F.type_list_append mr_append (pv 2) (pa_cons (pv 8) pa_nil)))))))))
    (pss_cons (ps_for PassesOwn.never rfl (pi_list (pv 1)) (pg_tup (n:=3) rfl (pgs_cons (pg_name (i:=9) sc_words_told.nd) (pgs_cons (pg_name (i:=10) sc_words_told.nd) (pgs_cons (pg_name (i:=11) sc_words_told.nd) pgs_nil)))) (pss_one (ps_expr (pe_bm PySem.F.plainAttrs_list PySem.F.slot_list_extend PySem.F.type_list_extend mr_extendT (pv 2) (pa_cons (pv 11) pa_nil)))))
    (pss_one (ps_ret (pv 2)))))),?_⟩
   refine ⟨by decide,fun D hD=>?_⟩
   obtain ⟨H1,qH1,s1,eD1⟩:=new_at (o:=.lst []) hD
   rw [←qH1]
   have keep:∀ {H2:Hp} {o:HO},Same H H2→Same H (upd H2 D o):=fun s b o' e=>by
    rw [upd_ne (ne_of_none e hD)]; exact s _ _ e
   refine ⟨_,rfl,S,rfl,⟨_,SqL.of (s1 _ _ hN.sc.top)⟩,for_list (xs:=us.map V.ref) (fun i σ H'=>∃ u3 u4 u5 u6 u7 u8,σ=[some (.ref S),some (.ref R),some (.ref D),u3,u4,u5,u6,u7,u8,none,none,none]∧Same H H'∧H' D=some (.lst (((ss.take i).flatMap wordsS).map V.str)))
    ⟨none,none,none,none,none,none,rfl,s1,eD1⟩ (fun i σ H' _ ⟨_,_,_,_,_,_,_,s,_⟩=>SqL.of (s _ _ hN.sc.top)) ?_ ?_⟩
   · rintro i x σ H2 hx ⟨u3,u4,u5,u6,u7,u8,rfl,s2,eD2⟩
     obtain ⟨u,hu,rfl⟩:=getm hx
     have hil:i < ss.length:=by rw [←hN.sc.lu]; exact (List.getElem?_eq_some_iff.mp hu).1
     obtain ⟨u',G,E1,g1,g2,g3,g4,⟨a1,⟨tG,b1,b2⟩,⟨tE,c1,c2⟩⟩⟩:=hN.sc.get hil
     rw [hu] at g1; cases g1
     have k1:=hF.st8 _ (List.getElem_mem hil)
     have k2:=hF.tl12 _ (List.getElem_mem hil)
     have lG:=b2.len
     have lE:=c2.len
     have w0:=w32 i
     obtain ⟨w,hw⟩:∃ w,w=(ss.take i).flatMap wordsS:=⟨_,rfl⟩
     rw [←hw] at eD2 w0
     refine ⟨u,_,rfl,SqT.of (s2 _ _ a1),rfl,_,_,rfl,_,_,rfl,rfl,?_⟩
     refine ⟨_,rfl,G,rfl,⟨_,SqL.of (s2 _ _ b1)⟩,for_list (xs:=tG.map V.ref) (fun j σ H'=>∃ u5 u6 u7,σ=[some (.ref S),some (.ref R),some (.ref D),some (.ref G),some (.ref E1),u5,u6,u7,u8,none,none,none]∧Same H H'∧H' D=some (.lst ((w++(ss[i].1.take j).map (·.1)).map V.str)))
      ⟨_,_,_,rfl,s2,by rw [eD2]; simp⟩ (fun i σ H' _ ⟨_,_,_,_,s,_⟩=>SqL.of (s _ _ b1)) ?_ ?_⟩
     · rintro j y σ H3 hy ⟨u5,u6,u7,rfl,s3,eD3⟩
       obtain ⟨t,ht,rfl⟩:=getm hy
       have hjl:j < ss[i].1.length:=by rw [←lG]; exact (List.getElem?_eq_some_iff.mp ht).1
       have et:=b2.at_ j t _ ht (List.getElem?_eq_getElem hjl)
       refine ⟨t,_,rfl,SqT.of (s3 _ _ et),rfl,_,_,rfl,_,_,rfl,_,_,rfl,rfl,?_⟩
       refine ⟨_,rfl,Or.inl ⟨rfl,_,SqL.of eD3⟩,_,rfl,D,_,_,rfl,rfl,eD3,by rw [List.length_map,List.length_append,List.length_map,List.length_take]; exact small_sz (by omega),?_⟩
       exact ⟨_,_,_,rfl,keep s3,by rw [upd_same,map_take hjl]; simp⟩
     rintro σ H3 ⟨u5,u6,u7,rfl,s3,eD3⟩
     rw [List.length_map,lG,List.take_length] at eD3
     refine ⟨_,rfl,E1,rfl,⟨_,SqL.of (s3 _ _ c1)⟩,for_list (xs:=tE.map V.ref) (fun j σ H'=>∃ u5 u6 u7 u8,σ=[some (.ref S),some (.ref R),some (.ref D),some (.ref G),some (.ref E1),u5,u6,u7,u8,none,none,none]∧Same H H'∧H' D=some (.lst ((w++(ss[i].1.map (·.1)++(ss[i].2.take j).flatMap fun p=>[p.1,p.2.1])).map V.str)))
      ⟨_,_,_,_,rfl,s3,by rw [eD3]; simp⟩ (fun i σ H' _ ⟨_,_,_,_,_,s,_⟩=>SqL.of (s _ _ c1)) ?_ ?_⟩
     · rintro j y σ H4 hy ⟨u5,u6,u7,u8,rfl,s4,eD4⟩
       obtain ⟨t,ht,rfl⟩:=getm hy
       have hjl:j < ss[i].2.length:=by rw [←lE]; exact (List.getElem?_eq_some_iff.mp ht).1
       have et:=c2.at_ j t _ ht (List.getElem?_eq_getElem hjl)
       have lw:((w++(ss[i].1.map (·.1)++(ss[i].2.take j).flatMap fun p=>[p.1,p.2.1])).map V.str).length≤1400:=by
        rw [List.length_map,List.length_append,List.length_append,List.length_map,flat_two,List.length_take]; omega
       generalize hL:(w++(ss[i].1.map (·.1)++(ss[i].2.take j).flatMap fun p=>[p.1,p.2.1])).map V.str=L at eD4 lw
       refine ⟨t,_,rfl,SqT.of (s4 _ _ et),rfl,_,_,rfl,_,_,rfl,_,_,rfl,_,_,rfl,rfl,?_⟩
       refine ⟨_,rfl,Or.inl ⟨rfl,_,SqL.of eD4⟩,_,rfl,D,_,_,rfl,rfl,eD4,small_sz (by omega),?_⟩
       have eD5:(upd H4 D (.lst (L++[.str ss[i].2[j].1]))) D=some (.lst (L++[.str ss[i].2[j].1])):=upd_same
       refine ⟨_,rfl,Or.inl ⟨rfl,_,SqL.of eD5⟩,_,rfl,D,_,_,rfl,rfl,eD5,by rw [List.length_append,List.length_singleton]; exact small_sz (by omega),?_⟩
       refine ⟨_,_,_,_,rfl,keep (keep s4),?_⟩
       rw [upd_same,flat_take hjl,←hL]
       simp
     rintro σ H4 ⟨u5,u6,u7,u8,rfl,s4,eD4⟩
     rw [List.length_map,lE,List.take_length] at eD4
     refine ⟨_,_,_,_,_,_,rfl,s4,?_⟩
     rw [eD4,flat_take hil,←hw]
     rfl
   rintro σ H2 ⟨u3,u4,u5,u6,u7,u8,rfl,s2,eD2⟩
   rw [List.length_map,hN.sc.lu,List.take_length] at eD2
   have w0:=w32 ss.length
   rw [List.take_length] at w0
   refine ⟨_,rfl,R,rfl,⟨_,SqL.of (s2 _ _ hN.er)⟩,for_list (xs:=qt.map V.ref) (fun i σ H'=>∃ u9 u10 u11,σ=[some (.ref S),some (.ref R),some (.ref D),u3,u4,u5,u6,u7,u8,u9,u10,u11]∧Same H H'∧H' D=some (.lst ((ss.flatMap wordsS++(qs.take i).flatMap (·.2.2)).map V.str)))
    ⟨none,none,none,rfl,s2,by rw [eD2]; simp⟩ (fun i σ H' _ ⟨_,_,_,_,s,_⟩=>SqL.of (s _ _ hN.er)) ?_ ?_⟩
   · rintro i x σ H3 hx ⟨u9,u10,u11,rfl,s3,eD3⟩
     obtain ⟨t,ht,rfl⟩:=getm hx
     have hil:i < qs.length:=by rw [←hN.tq.len]; exact (List.getElem?_eq_some_iff.mp ht).1
     obtain ⟨u,a1,a2⟩:=hN.tq.at_ i t _ ht (List.getElem?_eq_getElem hil)
     have k1:=hF.p6 _ (List.getElem_mem hil)
     have w1:=w6 i
     refine ⟨t,_,rfl,SqT.of (s3 _ _ a1),rfl,_,_,rfl,_,_,rfl,_,_,rfl,rfl,?_⟩
     refine ⟨_,rfl,Or.inl ⟨rfl,_,SqL.of eD3⟩,_,rfl,D,u,_,_,rfl,rfl,eD3,SqT.of (s3 _ _ a2),by rw [List.length_map,List.length_map,List.length_append]; exact Nat.le_of_lt (small_sz (by omega)),?_⟩
     refine ⟨_,_,_,rfl,keep s3,?_⟩
     rw [upd_same,flat_take hil]
     simp
   rintro σ H3 ⟨u9,u10,u11,rfl,s3,eD3⟩
   rw [List.length_map,hN.tq.len,List.take_length] at eD3
   exact ⟨_,rfl,q D H3 hD s3 eD3⟩
variable (P w K mg base) in
abbrev C_words_told:Prop:=Callee P w K mg base "words_told" 1 ["scopes", "questions"] (sp_words_told K)
theorem call_words_told (B:Blt mg) (ER:Ers K mg)  (F:Fun K "words_told" "words_told" s_words_told f fd) (hm:mg "words_told" = some (.ref f)):C_words_told P w K mg base :=
 ⟨f,fd,ok_words_told B ER  F,hm,F.kp,F.binds fun _ _ _ _ _ _ us hl=>(by obtain ⟨x0,x1,rfl⟩:=len_2 hl; rfl)⟩
theorem sign_a (c:Nat):(!decide ((⟨#[c]⟩:Str).cps.toList < ("a" : Str).cps.toList))=decide (97≤c):=by
 show (!decide (([c]:List Nat) < ("a" : Str).cps.toList))=_
 have e:("a" : Str).cps.toList=[97]:=by decide +kernel
 rw [e,lt_sing]
 by_cases h:c < 97
 · rw [decide_eq_true h,decide_eq_false (by omega)]; rfl
 · rw [decide_eq_false h,decide_eq_true (by omega)]; rfl
theorem sign_z (c:Nat):(!decide (("z" : Str).cps.toList < (⟨#[c]⟩:Str).cps.toList))=decide (c≤122):=by
 show (!decide (("z" : Str).cps.toList < ([c]:List Nat)))=_
 have e:("z" : Str).cps.toList=[122]:=by decide +kernel
 rw [e,lt_sing]
 by_cases h:122 < c
 · rw [decide_eq_true h,decide_eq_false (by omega)]; rfl
 · rw [decide_eq_false h,decide_eq_true (by omega)]; rfl
def sp_is_name (K:PySem.W.Frag):Sp:=fun vs H Q _=>∃ v,vs=[v] ∧
 ((∃ x,v=.str x∧x.length≤1000∧∀ H',Same H H'→Q (.bl (nameB x)) H')∨∃ T,TyN K H v T∧T≠.str∧Q (.bl false) H)
theorem ok_is_name (B:Blt mg) (ER:Ers K mg)  (F:Fun K "is_name" "is_name" s_is_name f fd):FnOk P w K mg base CX0 1 f fd ["thing"] (sp_is_name K):=by
 refine F.ok sc_is_name (fun vs H Q E h=>?_) (fun cdv A outer s H vs Q E hr h=>?_)
 · obtain ⟨v,rfl,_⟩:=h
   rfl
 · obtain ⟨v, rfl, h⟩ := h
   refine ⟨_,(pss_cons (ps_if (PW.pt (pw_or (pt_not (pt_val (pe_callB call_isi B.b_isinstance (pa_cons (pv 0) (pa_cons (pe_ty "str" rfl B.b_str (by decide +kernel)) pa_nil))))) (pw_or1 (pt_not (pt_chain op_le op_le pe_int (pe_callB call_len B.b_len (pa_cons (pv 0) pa_nil)) (pe_glob (v:=.int 8) rfl (Classical.choose_spec B.c_LONGEST_NAME) ⟨_,rfl⟩)))))) (pss_one (ps_ret pe_bl)) pss_nil)
    (pss_one (ps_ret (pe_callB (call_allL rfl) B.b_all (pa_cons (pe_comp rfl is_name_cs1 (pi_str (pv 0)) (fun _ _ _ _ _=>(pg_name (i:=0) is_name_cs1.nd)) (fun _ _ _ _ _=>pf_nil) (fun _ _ _ _ _=>(pe_chain op_leS op_leS pe_str (pv 0) pe_str))) pa_nil))))),?_⟩
   rcases h with ⟨x,rfl,hx,q⟩ | ⟨T,ty,hT,q⟩
   · have hz : x.length ≤ sizeLine := Nat.le_of_lt (small1000 hx)
     refine ⟨_,rfl,_,.str,.str,rfl,.str x,_,rfl,iteF ?_⟩
     refine ⟨_,rfl,_,_,rfl,⟨hz,rfl⟩,_,_,rfl,rfl,_,rfl,?_⟩
     refine ite2 (fun h1=>?_) (fun h1=>?_)
     · have h1:1≤x.length:=by have:=of_decide_eq_true h1; omega
       refine ⟨_,_,rfl,rfl,_,rfl,?_⟩
       refine ite2 (fun h2=>?_) (fun h2=>?_)
       · have h2:¬ x.length≤8:=fun z=>by
          rw [decide_eq_true (show ((x.length:Nat):Int)≤8 by omega)] at h2
          cases h2
         have e:nameB x=false:=by unfold nameB; rw [decide_eq_false h2]; simp
         have:=q H (Same.refl _)
         rw [e] at this
         exact this
       · have h2:x.length≤8:=by
          refine Nat.le_of_not_lt fun z=>h2 ?_
          rw [decide_eq_false (show ¬ ((x.length:Nat):Int)≤8 by omega)]; rfl
         have e:nameB x=(x.cps.toList.map signB).all id:=by
          unfold nameB; rw [decide_eq_true h1,decide_eq_true h2,List.all_map]; rfl
         refine ⟨_,rfl,_,rfl,comp_str (f:=fun c=>V.bl (signB c)) hz (fun i c H2 D R hc s2 hD k=>?_) (fun H2 D s2 hD e2=>?_)⟩
         · refine ⟨_,rfl,_,_,rfl,rfl,_,rfl,?_⟩
           show if (!decide ((⟨#[c]⟩:Str).cps.toList < ("a" : Str).cps.toList))=true then _ else _
           rw [show (!decide ((⟨#[c]⟩:Str).cps.toList < ("a" : Str).cps.toList))=decide (97≤c) from sign_a c]
           refine ite2 (fun h3=>?_) (fun h3=>?_)
           · refine ⟨_,_,rfl,rfl,?_⟩
             rw [show (V.bl ((fun a b:Str=>!decide (b.cps.toList < a.cps.toList)) ⟨#[c]⟩ "z"))=V.bl (decide (c≤122)) from congrArg V.bl (sign_z c)]
             have:=k H2 (Same.refl _)
             unfold signB at this
             rw [h3] at this
             exact this
           · have:=k H2 (Same.refl _)
             unfold signB at this
             rw [Bool.not_eq_true _ |>.mp h3] at this
             exact this
         · refine ⟨_,x.cps.toList.map signB,rfl,SqL.of (by rw [List.map_map]; exact e2),?_⟩
           rw [←e]
           exact q H2 s2
     · have h1:¬ 1≤x.length:=fun z=>h1 (decide_eq_true (by omega))
       have e:nameB x=false:=by unfold nameB; rw [decide_eq_false h1]; rfl
       have:=q H (Same.refl _)
       rw [e] at this
       exact ⟨_,rfl,iteT this⟩
   · refine ⟨_,rfl,_,.str,T,rfl,ty,_,rfl,?_⟩
     cases T with
     | str=>exact absurd rfl hT
     | _=>exact iteT (iteT q)
variable (P w K mg base) in
abbrev C_is_name:Prop:=Callee P w K mg base "is_name" 1 ["thing"] (sp_is_name K)
theorem call_is_name (B:Blt mg) (ER:Ers K mg)  (F:Fun K "is_name" "is_name" s_is_name f fd) (hm:mg "is_name" = some (.ref f)):C_is_name P w K mg base :=
 ⟨f,fd,ok_is_name B ER  F,hm,F.kp,F.binds fun _ _ _ _ _ _ us hl=>(by obtain ⟨x0,rfl⟩:=len_1 hl; rfl)⟩
def sp_refuse_no_names (K:PySem.W.Frag):Sp:=fun vs H Q E=>∃ (S T R:Addr) (us Gs Es ts qt:List Addr) (ss:List Sco) (gs:List (Str × Int)) (qs:List Qu),vs=[.ref S,.ref R]∧Net3 H S T R us Gs Es ts qt ss gs qs∧NFits ss gs qs∧(∀ x∈wordsN ss qs,x.length≤1000) ∧
 (NNames ss qs→∀ H',Same H H'→Q .non H')∧(¬ NNames ss qs→∀ H',Same H H'→E (.ref (clsA K "NoName")) none H')
theorem ok_refuse_no_names (B:Blt mg) (ER:Ers K mg) (c_words_told:C_words_told P w K mg base) (c_is_name:C_is_name P w K mg base) (F:Fun K "refuse_no_names" "refuse_no_names" s_refuse_no_names f fd):FnOk P w K mg base (CXE P w) 2 f fd ["scopes", "questions"] (sp_refuse_no_names K):=by
 refine F.okE sc_refuse_no_names (fun vs H Q E h=>?_) (fun cdv A outer s H vs Q E hr h=>?_)
 · obtain ⟨S,T,R,us,Gs,Es,ts,qt,ss,gs,qs,rfl,_⟩:=h
   rfl
 · obtain ⟨S,T,R,us,Gs,Es,ts,qt,ss,gs,qs,rfl,hN,hF,hw,qy,qn⟩:=h
   refine ⟨_,(pss_cons (ps_for PassesOwn.«leaving» rfl (pi_list (pe_fn c_words_told (pa_cons (pv 0) (pa_cons (pv 1) pa_nil)))) (pg_name (i:=2) sc_refuse_no_names.nd) (pss_one (ps_if (pt_not (pt_val (pe_fn c_is_name (pa_cons (pv 2) pa_nil)))) (pss_one (ps_raise throws_cx rfl ER.k_NoName rfl (pa_cons pe_str pa_nil))) pss_nil)))
    (pss_one (ps_for PassesOwn.«leaving» rfl (pi_list (pv 1)) (pg_tup (n:=3) rfl (pgs_cons (pg_name (i:=3) sc_refuse_no_names.nd) (pgs_cons (pg_name (i:=4) sc_refuse_no_names.nd) (pgs_cons (pg_name (i:=5) sc_refuse_no_names.nd) pgs_nil)))) (pss_one (ps_if (pt_cmpR op_eq (pe_callB call_len B.b_len (pa_cons (pv 5) pa_nil)) pe_int (nomark _)) (pss_one (ps_raise throws_cx rfl ER.k_NoName rfl (pa_cons pe_str pa_nil))) pss_nil))))),?_⟩
   refine ⟨_,rfl,_,rfl,S,T,R,us,Gs,Es,ts,qt,ss,gs,qs,rfl,hN,hF,fun D H1 hD s1 eD=>?_⟩
   obtain ⟨ws,ews⟩:∃ ws,ws=wordsN ss qs:=⟨_,rfl⟩
   rw [←ews] at eD hw
   refine ⟨D,rfl,⟨_,SqL.of eD⟩,for_list (xs:=ws.map V.str) (fun i σ H'=>∃ u2,σ=[some (.ref S),some (.ref R),u2,none,none,none]∧Same H1 H'∧∀ x∈ws.take i,nameB x=true) ⟨none,rfl,Same.refl _,fun x hx=>by simp at hx⟩ (fun i σ H' _ ⟨_,_,s,_⟩=>SqL.of (s _ _ eD)) ?_ ?_⟩
   · rintro i x σ H2 hx ⟨u2,rfl,s2,hall⟩
     obtain ⟨x,hx',rfl⟩:=map_at hx
     have hm:=List.mem_of_getElem? hx'
     have h8:=hw x hm
     obtain ⟨hil,exi⟩:=List.getElem?_eq_some_iff.mp hx'
     refine ⟨_,rfl,.str x,rfl,Or.inl ⟨x,rfl,by omega,fun H3 s3=>?_⟩⟩
     cases hb:nameB x with
     | true=>exact ⟨_,rfl,iteF ⟨_,rfl,s2.trans s3,take_all hall hil (by rw [exi]; exact hb)⟩⟩
     | false =>
       refine ⟨_,rfl,iteT ⟨one_le,qn (fun z=>?_) _ ((s1.trans s2).trans s3)⟩⟩
       rw [z.1 x (by rw [←ews]; exact hm)] at hb
       cases hb
   rintro σ H2 ⟨u2,rfl,s2,hall⟩
   rw [List.length_map,List.take_length] at hall
   have N2:=hN.same (s1.trans s2)
   refine ⟨_,rfl,R,rfl,⟨_,SqL.of N2.er⟩,for_list (xs:=qt.map V.ref) (fun i σ H'=>∃ u3 u4 u5,σ=[some (.ref S),some (.ref R),u2,u3,u4,u5]∧H'=H2∧∀ z∈qs.take i,z.2.2≠[]) ⟨none,none,none,rfl,rfl,fun x hx=>by simp at hx⟩ (fun i σ H' _ ⟨_,_,_,_,e,_⟩=>by rw [e]; exact SqL.of N2.er) ?_ ?_⟩
   · rintro i x σ H3 hx ⟨u3,u4,u5,rfl,rfl,hq⟩
     obtain ⟨t,ht,rfl⟩:=getm hx
     have hil:i < qs.length:=by rw [←hN.tq.len]; exact (List.getElem?_eq_some_iff.mp ht).1
     obtain ⟨u,a1,a2⟩:=N2.tq.at_ i t _ ht (List.getElem?_eq_getElem hil)
     refine ⟨t,_,rfl,SqT.of a1,rfl,_,_,rfl,_,_,rfl,_,_,rfl,rfl,?_⟩
     refine ⟨_,rfl,_,_,rfl,Or.inr ⟨_,SqT.of a2,rfl⟩,rfl,_,rfl,ite2 (fun h=>?_) (fun h=>⟨_,_,_,rfl,rfl,take_all hq hil fun z=>h ?_⟩)⟩
     · have h:=V.int.inj (of_decide_eq_true h)
       rw [List.length_map] at h
       exact ⟨one_le,qn (fun z=>z.2 _ (List.getElem_mem hil) (List.length_eq_zero_iff.mp (by omega))) _ (s1.trans s2)⟩
     · rw [List.length_map,z]
       exact decide_eq_true rfl
   rintro σ H3 ⟨u3,u4,u5,rfl,rfl,hq⟩
   rw [List.length_map,hN.tq.len,List.take_length] at hq
   exact qy ⟨fun x hx=>hall x (by rw [ews]; exact hx),hq⟩ _ (s1.trans s2)
theorem call_refuse_no_names (B:Blt mg) (ER:Ers K mg) (c_words_told:C_words_told P w K mg base) (c_is_name:C_is_name P w K mg base) (F:Fun K "refuse_no_names" "refuse_no_names" s_refuse_no_names f fd) (hm:mg "refuse_no_names" = some (.ref f)):CalleeE P w K mg base "refuse_no_names" 2 ["scopes", "questions"] (sp_refuse_no_names K) :=
 ⟨f,fd,ok_refuse_no_names B ER c_words_told c_is_name F,hm,F.kp,F.binds fun _ _ _ _ _ _ us hl=>(by obtain ⟨x0,x1,rfl⟩:=len_2 hl; rfl)⟩
def wholeT:Ty→Bool
 | .int=>true
 | _=>false
def sp_is_whole (K:PySem.W.Frag):Sp:=fun vs H Q _=>∃ v T,vs=[v]∧TyN K H v T∧Q (.bl (wholeT T)) H
theorem ok_is_whole (B:Blt mg) (ER:Ers K mg)  (F:Fun K "is_whole" "is_whole" s_is_whole f fd):FnOk P w K mg base CX0 1 f fd ["thing"] (sp_is_whole K):=by
 refine F.ok sc_is_whole (fun vs H Q E h=>?_) (fun cdv A outer s H vs Q E hr h=>?_)
 · obtain ⟨v,T,rfl,_⟩:=h
   rfl
 · obtain ⟨v,T,rfl,ty,q⟩:=h
   refine ⟨_,(pss_one (ps_ret (pe_and (pe_callB call_isi B.b_isinstance (pa_cons (pv 0) (pa_cons (pe_ty "int" rfl B.b_int (by decide +kernel)) pa_nil))) (pe_one (pe_not (pe_callB call_isi B.b_isinstance (pa_cons (pv 0) (pa_cons (pe_ty "bool" rfl B.b_bool (by decide +kernel)) pa_nil)))))))),?_⟩
   refine ⟨_,rfl,_,.int,T,rfl,ty,_,rfl,?_⟩
   cases T with
   | int=>exact iteT ⟨_,rfl,_,.bool,.int,rfl,ty,_,rfl,q⟩
   | bool=>exact iteT ⟨_,rfl,_,.bool,.bool,rfl,ty,_,rfl,q⟩
   | _=>exact iteF q
variable (P w K mg base) in
abbrev C_is_whole:Prop:=Callee P w K mg base "is_whole" 1 ["thing"] (sp_is_whole K)
theorem call_is_whole (B:Blt mg) (ER:Ers K mg)  (F:Fun K "is_whole" "is_whole" s_is_whole f fd) (hm:mg "is_whole" = some (.ref f)):C_is_whole P w K mg base :=
 ⟨f,fd,ok_is_whole B ER  F,hm,F.kp,F.binds fun _ _ _ _ _ _ us hl=>(by obtain ⟨x0,rfl⟩:=len_1 hl; rfl)⟩
def sp_is_place (_:PySem.W.Frag):Sp:=fun vs H Q _=>∃ (n m:Int),vs=[.int n,.int m]∧Q (.bl (decide (0≤n∧n < m))) H
theorem ok_is_place (B:Blt mg) (ER:Ers K mg) (c_is_whole:C_is_whole P w K mg base) (F:Fun K "is_place" "is_place" s_is_place f fd):FnOk P w K mg base CX0 2 f fd ["number", "many"] (sp_is_place K):=by
 refine F.ok sc_is_place (fun vs H Q E h=>?_) (fun cdv A outer s H vs Q E hr h=>?_)
 · obtain ⟨n,m,rfl,_⟩:=h
   rfl
 · obtain ⟨n,m,rfl,q⟩:=h
   refine ⟨_,(pss_one (ps_ret (pe_and (pe_fn c_is_whole (pa_cons (pv 0) pa_nil)) (pe_one (pe_chain op_le op_lt pe_int (pv 0) (pv 1)))))),?_⟩
   refine ⟨_,rfl,_,.int,rfl,.int n,_,rfl,iteT ?_⟩
   refine ⟨_,rfl,_,_,rfl,rfl,_,rfl,ite2 (fun h=>?_) (fun h=>?_)⟩
   · have h:=of_decide_eq_true h
     refine ⟨_,rfl,_,_,rfl,rfl,?_⟩
     have e:decide (0≤n∧n < m)=decide (n < m):=decide_eq_decide.mpr ⟨fun z=>z.2,fun z=>⟨h,z⟩⟩
     rw [e] at q
     exact q
   · have h':¬ (0≤n):=fun z=>h (decide_eq_true z)
     have e:decide (0≤n∧n < m)=false:=decide_eq_false fun z=>h' z.1
     rw [e] at q
     exact q
variable (P w K mg base) in
abbrev C_is_place:Prop:=Callee P w K mg base "is_place" 2 ["number", "many"] (sp_is_place K)
theorem call_is_place (B:Blt mg) (ER:Ers K mg) (c_is_whole:C_is_whole P w K mg base) (F:Fun K "is_place" "is_place" s_is_place f fd) (hm:mg "is_place" = some (.ref f)):C_is_place P w K mg base :=
 ⟨f,fd,ok_is_place B ER c_is_whole F,hm,F.kp,F.binds fun _ _ _ _ _ _ us hl=>(by obtain ⟨x0,x1,rfl⟩:=len_2 hl; rfl)⟩
def sp_refuse_no_place (K:PySem.W.Frag):Sp:=fun vs H Q E=>∃ (a:Addr) (kvs:List (Key × V)) (k:Str) (n:Int),vs=[.ref a,.str k,.int n]∧H a=some (.dK kvs)∧(∀ v,valV kvs (.inr k)=some v→∃ m,v=.int m) ∧
 (∀ m,valV kvs (.inr k)=some (.int m)→0≤n∧n < m→Q .non H)∧((∀ m,valV kvs (.inr k)=some (.int m)→¬ (0≤n∧n < m))→E (.ref (clsA K "NoPlace")) none H)
theorem ok_refuse_no_place (B:Blt mg) (ER:Ers K mg) (c_is_place:C_is_place P w K mg base) (F:Fun K "refuse_no_place" "refuse_no_place" s_refuse_no_place f fd):FnOk P w K mg base (CXE P w) 3 f fd ["kinds", "kind", "number"] (sp_refuse_no_place K):=by
 refine F.okE sc_refuse_no_place (fun vs H Q E h=>?_) (fun cdv A outer s H vs Q E hr h=>?_)
 · obtain ⟨a,kvs,k,n,rfl,_⟩:=h
   rfl
 · obtain ⟨a,kvs,k,n,rfl,ha,hi,qy,qn⟩:=h
   refine ⟨_,(pss_cons (ps_if (pt_cmpR (op_notinDict (hu_of hr)) (pv 1) (pv 0) (by with_unfolding_all rfl)) (pss_one (ps_raise throws_cx rfl ER.k_NoPlace rfl (pa_cons pe_str pa_nil))) pss_nil)
    (pss_one (ps_if (pt_not (pt_val (pe_fn c_is_place (pa_cons (pv 2) (pa_cons (pe_dget (hu_of hr) (pv 0) (pv 1) (fun _ _=>rfl)) pa_nil))))) (pss_one (ps_raise throws_cx rfl ER.k_NoPlace rfl (pa_cons pe_str pa_nil))) pss_nil))),?_⟩
   refine ⟨_,rfl,_,rfl,a,_,rfl,DGet.k (k:=.inr k) ha,_,rfl,?_⟩
   cases hv:valV kvs (.inr k) with
   | none =>
     refine iteT ⟨one_le,qn fun m z=>?_⟩
     rw [hv] at z; cases z
   | some v =>
     obtain ⟨m,rfl⟩:=hi v hv
     refine iteF ?_
     have hg:DGet H a (.str k) (some (.int m)):=by
      rw [←hv]
      exact DGet.k (k:=.inr k) ha
     refine ⟨_,rfl,_,rfl,_,rfl,a,_,rfl,hg,n,m,rfl,_,rfl,?_⟩
     by_cases hp:0≤n∧n < m
     · rw [decide_eq_true hp]
       exact iteF (qy m hv hp)
     · rw [decide_eq_false hp]
       refine iteT ⟨one_le,qn fun m' z=>?_⟩
       rw [hv] at z
       cases z
       exact hp
theorem call_refuse_no_place (B:Blt mg) (ER:Ers K mg) (c_is_place:C_is_place P w K mg base) (F:Fun K "refuse_no_place" "refuse_no_place" s_refuse_no_place f fd) (hm:mg "refuse_no_place" = some (.ref f)):CalleeE P w K mg base "refuse_no_place" 3 ["kinds", "kind", "number"] (sp_refuse_no_place K) :=
 ⟨f,fd,ok_refuse_no_place B ER c_is_place F,hm,F.kp,F.binds fun _ _ _ _ _ _ us hl=>(by obtain ⟨x0,x1,x2,rfl⟩:=len_3 hl; rfl)⟩
def sp_refuse_no_places (K:PySem.W.Frag):Sp:=fun vs H Q E=>∃ (S T R:Addr) (us Gs Es ts qt:List Addr) (ss:List Sco) (gs:List (Str × Int)) (qs:List Qu),vs=[.ref S,.ref T,.ref R]∧Net3 H S T R us Gs Es ts qt ss gs qs∧(NPlaces ss gs qs→∀ H',Same H H'→Q .non H')∧(¬ NPlaces ss gs qs→∀ H',Same H H'→E (.ref (clsA K "NoPlace")) none H')
theorem ok_refuse_no_places (B:Blt mg) (ER:Ers K mg) (c_refuse_no_place:CalleeE P w K mg base "refuse_no_place" 3 ["kinds", "kind", "number"] (sp_refuse_no_place K)) (c_is_place:C_is_place P w K mg base) (c_is_whole:C_is_whole P w K mg base) (F:Fun K "refuse_no_places" "refuse_no_places" s_refuse_no_places f fd):FnOk P w K mg base (CXE P w) 4 f fd ["scopes", "things", "questions"] (sp_refuse_no_places K):=by
 refine F.okE sc_refuse_no_places (fun vs H Q E h=>?_) (fun cdv A outer s H vs Q E hr h=>?_)
 · obtain ⟨S,T,R,us,Gs,Es,ts,qt,ss,gs,qs,rfl,_⟩:=h
   rfl
 · obtain ⟨S,T,R,us,Gs,Es,ts,qt,ss,gs,qs,rfl,hN,qy,qn⟩:=h
   have lu:(us.map V.ref).length=ss.length:=by rw [List.length_map,hN.sc.lu]
   have lt:(ts.map V.ref).length=gs.length:=by rw [List.length_map,hN.tg.len]
   have lq:(qt.map V.ref).length=qs.length:=by rw [List.length_map,hN.tq.len]
   refine ⟨_,(pss_cons (ps_set (i:=3) sc_refuse_no_places.nd (pe_disp (pps_cons pe_str (pe_callB call_len B.b_len (pa_cons (pv 0) pa_nil)) (pps_cons pe_str (pe_callB call_len B.b_len (pa_cons (pv 2) pa_nil)) pps_nil)) rfl rfl (by simp) (Nat.le_of_ble_eq_true rfl)))
    (pss_cons (ps_set (i:=4) sc_refuse_no_places.nd (pe_disp (pps_cons pe_str (pe_callB call_len B.b_len (pa_cons (pv 1) pa_nil)) (pps_cons pe_str (pe_callB call_len B.b_len (pa_cons (pv 2) pa_nil)) pps_nil)) rfl rfl (by simp) (Nat.le_of_ble_eq_true rfl)))
    (pss_cons (ps_set (i:=5) sc_refuse_no_places.nd (pe_disp (pps_cons pe_str pe_int (pps_cons pe_str (pe_callB call_len B.b_len (pa_cons (pv 0) pa_nil)) (pps_cons pe_str (pe_callB call_len B.b_len (pa_cons (pv 2) pa_nil)) pps_nil))) rfl rfl (by simp) (Nat.le_of_ble_eq_true rfl)))
    (pss_cons (ps_for PassesOwn.«leaving» rfl (pi_list (pv 0)) (pg_tup (n:=2) rfl (pgs_cons (pg_name (i:=6) sc_refuse_no_places.nd) (pgs_cons (pg_name (i:=7) sc_refuse_no_places.nd) pgs_nil))) (pss_cons (ps_for PassesOwn.«leaving» rfl (pi_list (pv 6)) (pg_tup (n:=3) rfl (pgs_cons (pg_name (i:=8) sc_refuse_no_places.nd) (pgs_cons (pg_name (i:=9) sc_refuse_no_places.nd) (pgs_cons (pg_name (i:=10) sc_refuse_no_places.nd) pgs_nil)))) (pss_one (ps_expr (pe_fnE c_refuse_no_place throws_cx (hr.mono (by decide)) rfl (pa_cons (pv 3) (pa_cons (pv 9) (pa_cons (pv 10) pa_nil)))))))
     (pss_one (ps_for PassesOwn.«leaving» rfl (pi_list (pv 7)) (pg_tup (n:=4) rfl (pgs_cons (pg_name (i:=8) sc_refuse_no_places.nd) (pgs_cons (pg_name (i:=11) sc_refuse_no_places.nd) (pgs_cons (pg_name (i:=9) sc_refuse_no_places.nd) (pgs_cons (pg_name (i:=10) sc_refuse_no_places.nd) pgs_nil))))) (pss_one (ps_expr (pe_fnE c_refuse_no_place throws_cx (hr.mono (by decide)) rfl (pa_cons (pv 4) (pa_cons (pv 9) (pa_cons (pv 10) pa_nil))))))))))
    (pss_cons (ps_for PassesOwn.«leaving» rfl (pi_list (pv 1)) (pg_tup (n:=2) rfl (pgs_cons (pg_name (i:=9) sc_refuse_no_places.nd) (pgs_cons (pg_name (i:=10) sc_refuse_no_places.nd) pgs_nil))) (pss_one (ps_expr (pe_fnE c_refuse_no_place throws_cx (hr.mono (by decide)) rfl (pa_cons (pv 5) (pa_cons (pv 9) (pa_cons (pv 10) pa_nil)))))))
    (pss_one (ps_for PassesOwn.«leaving» rfl (pi_list (pv 2)) (pg_tup (n:=3) rfl (pgs_cons (pg_name (i:=12) sc_refuse_no_places.nd) (pgs_cons (pg_name (i:=13) sc_refuse_no_places.nd) (pgs_cons (pg_name (i:=14) sc_refuse_no_places.nd) pgs_nil)))) (pss_one (ps_if (PW.pt (pw_or (pt_not (pt_val (pe_fn c_is_place (pa_cons (pv 12) (pa_cons (pe_callB call_len B.b_len (pa_cons (pv 0) pa_nil)) pa_nil))))) (pw_or (pt_not (pt_val (pe_fn c_is_whole (pa_cons (pv 13) pa_nil)))) (pw_or1 (pt_cmpR op_lt (pv 13) pe_int (nomark _)))))) (pss_one (ps_raise throws_cx rfl ER.k_NoPlace rfl (pa_cons pe_str pa_nil))) pss_nil))))))))),?_⟩
   refine fun d1 hd1=>?_
   obtain ⟨H1,qH1,s1,e1⟩:=new_at (o:=.dK []) hd1
   rw [←qH1]
   refine ⟨_,rfl,_,_,rfl,Or.inl ⟨_,SqL.of (s1 _ _ hN.sc.top),rfl⟩,_,rfl,_,_,rfl,Or.inl ⟨_,SqL.of (s1 _ _ hN.er),rfl⟩,e1,[(.inr "to",.int _),(.inr "by",.int _)],rfl,show 2≤15 by decide,?_⟩
   have vk:=fun j:Str=>kinds2 (x := "to") (y := "by") (j:=j) (a:=V.int ((us.map V.ref).length:Nat)) (b:=V.int ((qt.map V.ref).length:Nat))
   generalize mergeK [] [((.inr "to" : Key),V.int ((us.map V.ref).length:Nat)),(.inr "by",V.int ((qt.map V.ref).length:Nat))]=k1 at vk ⊢
   have s2:Same H (upd H1 d1 (.dK k1)):=fun b o e=>by rw [upd_ne (ne_of_none e hd1)]; exact s1 _ _ e
   have e2:(upd H1 d1 (.dK k1)) d1=some (.dK k1):=upd_same
   generalize upd H1 d1 (.dK k1)=H2 at s2 e2 ⊢
   refine g_in ?_
   try dsimp only
   refine fun d2 hd2=>?_
   obtain ⟨H3,qH3,s3,e3⟩:=new_at (o:=.dK []) hd2
   rw [←qH3]
   have s03:=s2.trans s3
   refine ⟨_,rfl,_,_,rfl,Or.inl ⟨_,SqL.of (s03 _ _ hN.et),rfl⟩,_,rfl,_,_,rfl,Or.inl ⟨_,SqL.of (s03 _ _ hN.er),rfl⟩,e3,[(.inr "thing",.int _),(.inr "by",.int _)],rfl,show 2≤15 by decide,?_⟩
   have xk:=fun j:Str=>kinds2 (x := "thing") (y := "by") (j:=j) (a:=V.int ((ts.map V.ref).length:Nat)) (b:=V.int ((qt.map V.ref).length:Nat))
   generalize mergeK [] [((.inr "thing" : Key),V.int ((ts.map V.ref).length:Nat)),(.inr "by",V.int ((qt.map V.ref).length:Nat))]=k2 at xk ⊢
   have s4:Same H2 (upd H3 d2 (.dK k2)):=fun b o e=>by rw [upd_ne (ne_of_none e hd2)]; exact s3 _ _ e
   have e4:(upd H3 d2 (.dK k2)) d2=some (.dK k2):=upd_same
   generalize upd H3 d2 (.dK k2)=H4 at s4 e4 ⊢
   refine g_in ?_
   try dsimp only
   refine fun d3 hd3=>?_
   obtain ⟨H5,qH5,s5,e5⟩:=new_at (o:=.dK []) hd3
   rw [←qH5]
   have s05:=(s2.trans s4).trans s5
   refine ⟨_,rfl,_,_,rfl,Or.inl ⟨_,SqL.of (s05 _ _ hN.sc.top),rfl⟩,_,rfl,_,_,rfl,Or.inl ⟨_,SqL.of (s05 _ _ hN.er),rfl⟩,e5,[(.inr "plain",.int 1),(.inr "part",.int _),(.inr "sort",.int _)],rfl,show 3≤15 by decide,?_⟩
   have yk:=fun j:Str=>kinds3 (x := "plain") (y := "part") (z := "sort") (j:=j) (a:=V.int 1) (b:=V.int ((us.map V.ref).length:Nat)) (c:=V.int ((qt.map V.ref).length:Nat))
   generalize mergeK [] [((.inr "plain" : Key),V.int 1),(.inr "part",V.int ((us.map V.ref).length:Nat)),(.inr "sort",V.int ((qt.map V.ref).length:Nat))]=k3 at yk ⊢
   have s6:Same H4 (upd H5 d3 (.dK k3)):=fun b o e=>by rw [upd_ne (ne_of_none e hd3)]; exact s5 _ _ e
   have e6:(upd H5 d3 (.dK k3)) d3=some (.dK k3):=upd_same
   generalize upd H5 d3 (.dK k3)=H6 at s6 e6 ⊢
   refine g_in ?_
   try dsimp only
   have s06:=(s2.trans s4).trans s6
   have N6:=hN.same s06
   have f1:=(s4.trans s6) _ _ e2
   have f2:=s6 _ _ e4
   clear s1 e1 s2 e2 s3 e3 s4 e4 s5 e5 s6 s03 s05 hd1 hd2 hd3
   have no:=fun z=>qn z H6 s06
   rw [lu,lq] at vk yk
   rw [lt,lq] at xk
   refine ⟨_,rfl,S,rfl,⟨_,SqL.of N6.sc.top⟩,for_list (xs:=us.map V.ref) (fun i σ H'=>∃ u6 u7 u8 u9 u10 u11,σ=[some (.ref S),some (.ref T),some (.ref R),some (.ref d1),some (.ref d2),some (.ref d3),u6,u7,u8,u9,u10,u11,none,none,none]∧H'=H6∧∀ s∈ss.take i,(∀ p∈s.1,stOk ss.length qs.length p)∧∀ p∈s.2,tlOk gs.length qs.length p) ⟨none,none,none,none,none,none,rfl,rfl,fun s hs=>by simp at hs⟩ (fun i σ H' _ ⟨_,_,_,_,_,_,_,e,_⟩=>by rw [e]; exact SqL.of N6.sc.top) ?_ ?_⟩
   · rintro i x σ H7 hx ⟨u6,u7,u8,u9,u10,u11,rfl,rfl,hall⟩
     obtain ⟨u,hu,rfl⟩:=getm hx
     have hil:i < ss.length:=by rw [←hN.sc.lu]; exact (List.getElem?_eq_some_iff.mp hu).1
     obtain ⟨u',G,E1,g1,g2,g3,g4,⟨a1,⟨tG,b1,b2⟩,⟨tE,c1,c2⟩⟩⟩:=N6.sc.get hil
     rw [hu] at g1; cases g1
     refine ⟨u,_,rfl,SqT.of a1,rfl,_,_,rfl,_,_,rfl,rfl,?_⟩
     refine ⟨_,rfl,G,rfl,⟨_,SqL.of b1⟩,for_list (xs:=tG.map V.ref) (fun j σ H'=>∃ u8 u9 u10,σ=[some (.ref S),some (.ref T),some (.ref R),some (.ref d1),some (.ref d2),some (.ref d3),some (.ref G),some (.ref E1),u8,u9,u10,u11,none,none,none]∧H'=H7∧∀ p∈ss[i].1.take j,stOk ss.length qs.length p) ⟨_,_,_,rfl,rfl,fun s hs=>by simp at hs⟩ (fun i σ H' _ ⟨_,_,_,_,e,_⟩=>by rw [e]; exact SqL.of b1) ?_ ?_⟩
     · rintro j y σ H8 hy ⟨u8,u9,u10,rfl,rfl,hst⟩
       obtain ⟨t,ht,rfl⟩:=getm hy
       have hjl:j < ss[i].1.length:=by rw [←b2.len]; exact (List.getElem?_eq_some_iff.mp ht).1
       have et:=b2.at_ j t _ ht (List.getElem?_eq_getElem hjl)
       have hno:¬ stOk ss.length qs.length ss[i].1[j]→¬ NPlaces ss gs qs:=fun z y=>z (y.kst _ (List.getElem_mem hil) _ (List.getElem_mem hjl))
       have hyes:=take_all hst hjl
       generalize ss[i].1[j]=p at et hno hyes
       refine ⟨t,_,rfl,SqT.of et,rfl,_,_,rfl,_,_,rfl,_,_,rfl,rfl,?_⟩
       obtain ⟨p1,p2⟩:=two_place (j:=p.2.1) (n:=p.2.2) (show ("to" : Str)≠("by" : Str) by decide +kernel) vk
       exact ⟨_,rfl,_,rfl,_,rfl,d1,k1,p.2.1,p.2.2,rfl,f1,two_int vk,fun m h1 h2=>⟨_,_,_,rfl,rfl,hyes (p1 m h1 h2)⟩,fun z=>no (hno (p2 z))⟩
     rintro σ H8 ⟨u8,u9,u10,rfl,rfl,hst⟩
     rw [List.length_map,b2.len,List.take_length] at hst
     refine ⟨_,rfl,E1,rfl,⟨_,SqL.of c1⟩,for_list (xs:=tE.map V.ref) (fun j σ H'=>∃ u8 u9 u10 u11,σ=[some (.ref S),some (.ref T),some (.ref R),some (.ref d1),some (.ref d2),some (.ref d3),some (.ref G),some (.ref E1),u8,u9,u10,u11,none,none,none]∧H'=H8∧∀ p∈ss[i].2.take j,tlOk gs.length qs.length p) ⟨_,_,_,_,rfl,rfl,fun s hs=>by simp at hs⟩ (fun i σ H' _ ⟨_,_,_,_,_,e,_⟩=>by rw [e]; exact SqL.of c1) ?_ ?_⟩
     · rintro j y σ H9 hy ⟨u8,u9,u10,u11,rfl,rfl,htl⟩
       obtain ⟨t,ht,rfl⟩:=getm hy
       have hjl:j < ss[i].2.length:=by rw [←c2.len]; exact (List.getElem?_eq_some_iff.mp ht).1
       have et:=c2.at_ j t _ ht (List.getElem?_eq_getElem hjl)
       have hno:¬ tlOk gs.length qs.length ss[i].2[j]→¬ NPlaces ss gs qs:=fun z y=>z (y.ktl _ (List.getElem_mem hil) _ (List.getElem_mem hjl))
       have hyes:=take_all htl hjl
       generalize ss[i].2[j]=p at et hno hyes
       refine ⟨t,_,rfl,SqT.of et,rfl,_,_,rfl,_,_,rfl,_,_,rfl,_,_,rfl,rfl,?_⟩
       obtain ⟨p1,p2⟩:=two_place (j:=p.2.2.1) (n:=p.2.2.2) (show ("thing" : Str)≠("by" : Str) by decide +kernel) xk
       exact ⟨_,rfl,_,rfl,_,rfl,d2,k2,p.2.2.1,p.2.2.2,rfl,f2,two_int xk,fun m h1 h2=>⟨_,_,_,_,rfl,rfl,hyes (p1 m h1 h2)⟩,fun z=>no (hno (p2 z))⟩
     rintro σ H9 ⟨u8,u9,u10,u11,rfl,rfl,htl⟩
     rw [List.length_map,c2.len,List.take_length] at htl
     exact ⟨_,_,_,_,_,_,rfl,rfl,take_all hall hil ⟨hst,htl⟩⟩
   rintro σ H7 ⟨u6,u7,u8,u9,u10,u11,rfl,rfl,hall⟩
   rw [lu,List.take_length] at hall
   refine ⟨_,rfl,T,rfl,⟨_,SqL.of N6.et⟩,for_list (xs:=ts.map V.ref) (fun i σ H'=>∃ u9 u10,σ=[some (.ref S),some (.ref T),some (.ref R),some (.ref d1),some (.ref d2),some (.ref d3),u6,u7,u8,u9,u10,u11,none,none,none]∧H'=H7∧∀ p∈gs.take i,thOk ss.length qs.length p) ⟨_,_,rfl,rfl,fun s hs=>by simp at hs⟩ (fun i σ H' _ ⟨_,_,_,e,_⟩=>by rw [e]; exact SqL.of N6.et) ?_ ?_⟩
   · rintro i x σ H8 hx ⟨u9,u10,rfl,rfl,hth⟩
     obtain ⟨t,ht,rfl⟩:=getm hx
     have hil:i < gs.length:=by rw [←hN.tg.len]; exact (List.getElem?_eq_some_iff.mp ht).1
     have et:=N6.tg.at_ i t _ ht (List.getElem?_eq_getElem hil)
     have hno:¬ thOk ss.length qs.length gs[i]→¬ NPlaces ss gs qs:=fun z y=>z (y.kth _ (List.getElem_mem hil))
     have hyes:=take_all hth hil
     generalize gs[i]=p at et hno hyes
     refine ⟨t,_,rfl,SqT.of et,rfl,_,_,rfl,_,_,rfl,rfl,?_⟩
     obtain ⟨p1,p2⟩:=three_place (j:=p.1) (n:=p.2) (show ("plain" : Str)≠("part" : Str) by decide +kernel) (show ("plain" : Str)≠("sort" : Str) by decide +kernel) (show ("part" : Str)≠("sort" : Str) by decide +kernel) yk
     refine ⟨_,rfl,_,rfl,_,rfl,d3,k3,p.1,p.2,rfl,e6,three_int yk,fun m h1 h2=>⟨_,_,rfl,rfl,hyes ?_⟩,fun z=>no (hno fun y=>p2 z ?_)⟩
     · rcases p1 m h1 h2 with ⟨e,h3⟩ | h3 | h3
       · exact .inl ⟨e,by omega⟩
       · exact .inr (.inl h3)
       · exact .inr (.inr h3)
     · rcases y with ⟨e,h3⟩ | h3 | h3
       · exact .inl ⟨e,by omega⟩
       · exact .inr (.inl h3)
       · exact .inr (.inr h3)
   rintro σ H8 ⟨u9,u10,rfl,rfl,hth⟩
   rw [lt,List.take_length] at hth
   refine ⟨_,rfl,R,rfl,⟨_,SqL.of N6.er⟩,for_list (xs:=qt.map V.ref) (fun i σ H'=>∃ u12 u13 u14,σ=[some (.ref S),some (.ref T),some (.ref R),some (.ref d1),some (.ref d2),some (.ref d3),u6,u7,u8,u9,u10,u11,u12,u13,u14]∧H'=H8∧∀ q∈qs.take i,0≤q.1∧q.1 < ss.length∧0≤q.2.1) ⟨none,none,none,rfl,rfl,fun s hs=>by simp at hs⟩ (fun i σ H' _ ⟨_,_,_,_,e,_⟩=>by rw [e]; exact SqL.of N6.er) ?_ ?_⟩
   · rintro i x σ H9 hx ⟨u12,u13,u14,rfl,rfl,hq⟩
     obtain ⟨t,ht,rfl⟩:=getm hx
     have hil:i < qs.length:=by rw [←hN.tq.len]; exact (List.getElem?_eq_some_iff.mp ht).1
     obtain ⟨u,a1,a2⟩:=N6.tq.at_ i t _ ht (List.getElem?_eq_getElem hil)
     have hno:¬ (0≤qs[i].1∧qs[i].1 < ss.length∧0≤qs[i].2.1)→¬ NPlaces ss gs qs:=fun z y=>z (y.kq _ (List.getElem_mem hil))
     refine ⟨t,_,rfl,SqT.of a1,rfl,_,_,rfl,_,_,rfl,_,_,rfl,rfl,?_⟩
     refine ⟨_,rfl,_,rfl,_,_,rfl,Or.inl ⟨_,SqL.of N6.sc.top,rfl⟩,_,_,rfl,_,rfl,?_⟩
     by_cases hp:0≤qs[i].1∧qs[i].1 < ((us.map V.ref).length:Nat)
     · rw [decide_eq_true hp]
       rw [lu] at hp
       refine iteF ?_
       refine ⟨_,rfl,_,.int,rfl,.int _,_,rfl,iteF ?_⟩
       refine ⟨_,rfl,_,_,rfl,rfl,_,rfl,ite2 (fun h=>?_) (fun h=>?_)⟩
       · have h:=of_decide_eq_true h
         exact ⟨one_le,no (hno fun z=>by omega)⟩
       · have h:¬ qs[i].2.1 < 0:=fun z=>h (decide_eq_true z)
         exact ⟨_,_,_,rfl,rfl,take_all hq hil ⟨hp.1,hp.2,by omega⟩⟩
     · rw [decide_eq_false hp]
       rw [lu] at hp
       exact iteT ⟨one_le,no (hno fun z=>hp ⟨z.1,z.2.1⟩)⟩
   rintro σ H9 ⟨u12,u13,u14,rfl,rfl,hq⟩
   rw [lq,List.take_length] at hq
   exact qy ⟨fun s hs=>(hall s hs).1,fun s hs=>(hall s hs).2,hth,hq⟩ _ s06
theorem call_refuse_no_places (B:Blt mg) (ER:Ers K mg) (c_refuse_no_place:CalleeE P w K mg base "refuse_no_place" 3 ["kinds", "kind", "number"] (sp_refuse_no_place K)) (c_is_place:C_is_place P w K mg base) (c_is_whole:C_is_whole P w K mg base) (F:Fun K "refuse_no_places" "refuse_no_places" s_refuse_no_places f fd) (hm:mg "refuse_no_places" = some (.ref f)):CalleeE P w K mg base "refuse_no_places" 4 ["scopes", "things", "questions"] (sp_refuse_no_places K) :=
 ⟨f,fd,ok_refuse_no_places B ER c_refuse_no_place c_is_place c_is_whole F,hm,F.kp,F.binds fun _ _ _ _ _ _ us hl=>(by obtain ⟨x0,x1,x2,rfl⟩:=len_3 hl; rfl)⟩
def sp_net_of (K:PySem.W.Frag):Sp:=fun vs H Q E=>∃ (S T R:Addr) (us Gs Es ts qt:List Addr) (ss:List Sco) (gs:List (Str × Int)) (qs:List Qu),vs=[.ref S,.ref T,.ref R]∧Net3 H S T R us Gs Es ts qt ss gs qs∧(∀ x∈wordsN ss qs,x.length≤1000)∧(¬ NFits ss gs qs→E (.ref (clsA K "TooGreat")) none H)∧(NFits ss gs qs→¬ NNames ss qs→∀ H',Same H H'→E (.ref (clsA K "NoName")) none H')∧(NFits ss gs qs→NNames ss qs→¬ NPlaces ss gs qs→∀ H',Same H H'→E (.ref (clsA K "NoPlace")) none H')∧(NFits ss gs qs→NNames ss qs→NPlaces ss gs qs →
 ∀ (nt S2 T2 R2:Addr) (u2 G2 E2:List Addr) (H':Hp),Same H H'→H' nt=some (.tup [.ref S2,.ref T2,.ref R2])→Net3 H' S2 T2 R2 u2 G2 E2 ts qt ss gs qs→(S2 :: (G2++E2)).Nodup→H S2=none→H T2=none→H R2=none→(∀ x∈G2++E2,H x=none)→T2≠R2→S2≠T2→S2≠R2→(∀ x∈G2++E2,x≠S2∧x≠T2∧x≠R2)→Q (.ref nt) H')
theorem ok_net_of (B : Blt mg) (ER : Ers K mg) (c_refuse_too_great : CalleeE P w K mg base "refuse_too_great_nets" 2 ["scopes", "things", "questions"] (sp_refuse_too_great K)) (c_refuse_no_names : CalleeE P w K mg base "refuse_no_names" 2 ["scopes", "questions"] (sp_refuse_no_names K)) (c_refuse_no_places : CalleeE P w K mg base "refuse_no_places" 4 ["scopes", "things", "questions"] (sp_refuse_no_places K)) (F : Fun K "net_of" "net_of" s_net_of f fd) : FnOk P w K mg base (CXE P w) 5 f fd ["scopes", "things", "questions"] (sp_net_of K) := by
 refine F.okE sc_net_of (fun vs H Q E h=>?_) (fun cdv A outer s H vs Q E hr h=>?_)
 · obtain ⟨S,T,R,us,Gs,Es,ts,qt,ss,gs,qs,rfl,_⟩:=h
   rfl
 · obtain ⟨S,T,R,us,Gs,Es,ts,qt,ss,gs,qs,rfl,hN,hw,q1,q2,q3,q4⟩:=h
   refine ⟨_,(pss_cons (ps_expr (pe_fnE c_refuse_too_great throws_cx (hr.mono (by decide)) rfl (pa_cons (pv 0) (pa_cons (pv 1) (pa_cons (pv 2) pa_nil)))))
    (pss_cons (ps_expr (pe_fnE c_refuse_no_names throws_cx (hr.mono (by decide)) rfl (pa_cons (pv 0) (pa_cons (pv 2) pa_nil))))
    (pss_cons (ps_expr (pe_fnE c_refuse_no_places throws_cx (hr.mono (by decide)) rfl (pa_cons (pv 0) (pa_cons (pv 1) (pa_cons (pv 2) pa_nil)))))
    (pss_one (ps_ret (pe_tup (pa_cons (pe_comp (g:=gTup K 2 (gCons (gName 0) (gCons (gName 1) gNil))) (te:=tTup (tCons (tCB (rListOf K) (tCons (tVar 0) tNil)) (tCons (tCB (rListOf K) (tCons (tVar 1) tNil)) tNil))) rfl net_of_cs1 (pi_list (pv 0)) (fun _ _ _ _ _=>(pg_tup (n:=2) rfl (pgs_cons (pg_name (i:=0) net_of_cs1.nd) (pgs_cons (pg_name (i:=1) net_of_cs1.nd) pgs_nil)))) (fun _ _ _ _ _=>pf_nil) (fun _ _ _ _ _=>(pe_tup (pa_cons (pe_callTy call_list_of B.b_list (pa_cons (pv 0) pa_nil)) (pa_cons (pe_callTy call_list_of B.b_list (pa_cons (pv 1) pa_nil)) pa_nil))))) (pa_cons (pe_callTy call_list_of B.b_list (pa_cons (pv 1) pa_nil)) (pa_cons (pe_callTy call_list_of B.b_list (pa_cons (pv 2) pa_nil)) pa_nil))))))))),?_⟩
   refine ⟨_,rfl,_,rfl,_,rfl,S,T,R,us,Gs,Es,ts,qt,ss,gs,qs,rfl,hN,fun hF=>?_,q1⟩
   have l1:=hF.ls
   refine ⟨_,rfl,_,rfl,S,T,R,us,Gs,Es,ts,qt,ss,gs,qs,rfl,hN,hF,hw,fun hn H1 s1=>?_,q2 hF⟩
   have N1:=hN.same s1
   refine ⟨_,rfl,_,rfl,_,rfl,S,T,R,us,Gs,Es,ts,qt,ss,gs,qs,rfl,N1,fun hp H2 s2=>?_,fun z H2 s2=>q3 hF hn z H2 (s1.trans s2)⟩
   have q:=q4 hF hn hp
   have N2:=N1.same s2
   have s02:=s1.trans s2
   refine ⟨_,rfl,S,rfl,⟨_,SqL.of N2.sc.top⟩,comp_listI (xs:=us.map V.ref) (fun D i ys H'=>∃ u2 G2 E2:List Addr,ys=u2.map V.ref∧Same H2 H'∧Scs H' D u2 G2 E2 (ss.take i)∧(D :: (G2++E2)).Nodup∧∀ x∈G2++E2,H2 x=none)
    (fun D hD=>⟨[],[],[],rfl,same_new hD,by rw [List.take_zero]; exact Scs.nil upd_same,by simp,fun x hx=>by simp at hx⟩) (fun D i ys H' ⟨_,_,_,_,s9,_⟩=>SqL.of (s9 _ _ N2.sc.top)) (fun D i x ys H9 RR hD hx hv k=>?_) (fun D2 ys H9 hD2 hv=>?_)⟩
   · obtain ⟨u2,G2,E2,rfl,s9,SC9,nd,hfr⟩:=hv
     obtain ⟨u,hu,rfl⟩:=getm hx
     have hil:i < ss.length:=by rw [←N2.sc.lu]; exact (List.getElem?_eq_some_iff.mp hu).1
     obtain ⟨u',G,E1,g1,g2,g3,g4,g5⟩:=(N2.sc.same s9).get hil
     rw [hu] at g1; cases g1
     obtain ⟨a1,⟨tG,b1,b2⟩,⟨tE,c1,c2⟩⟩:=g5
     have etk:ss.take (i + 1)=ss.take i++[ss[i]]:=by rw [List.take_succ,g4]; rfl
     have lu2:=SC9.lu
     rw [List.length_take] at lu2
     refine ⟨u,_,rfl,SqT.of a1,rfl,_,_,rfl,_,_,rfl,rfl,?_⟩
     refine ⟨_,rfl,G,_,rfl,Or.inl (SqL.of b1),fun G3 hG3=>?_⟩
     obtain ⟨H10,qH10,t1,eG3⟩:=new_at (o:=.lst (tG.map V.ref)) hG3
     rw [←qH10]
     refine ⟨_,rfl,E1,_,rfl,Or.inl (SqL.of (t1 _ _ c1)),fun E3 hE3=>?_⟩
     obtain ⟨H11,qH11,t2,eE3⟩:=new_at (o:=.lst (tE.map V.ref)) hE3
     rw [←qH11]
     refine ⟨two_le,fun u3 hu3=>?_⟩
     obtain ⟨H12,qH12,t3,eu3⟩:=new_at (o:=.tup [.ref G3,.ref E3]) hu3
     rw [←qH12]
     have t13:=(t1.trans t2).trans t3
     have t23:=t2.trans t3
     have SC12:=SC9.same t13
     have al:=SC9.alive
     have nG:G3 ∉ D :: (G2++E2):=fun y=>by
      rcases List.mem_cons.mp y with y | y
      · rw [y,SC9.top] at hG3; cases hG3
      · obtain ⟨xs,e⟩:=al _ y
        rw [e] at hG3; cases hG3
     have nE:E3 ∉ D :: (G2++E2):=fun y=>by
      rcases List.mem_cons.mp y with y | y
      · rw [y,t1 _ _ SC9.top] at hE3; cases hE3
      · obtain ⟨xs,e⟩:=al _ y
        rw [t1 _ _ e] at hE3; cases hE3
     have nGE:G3≠E3:=fun y=>by rw [←y,eG3] at hE3; cases hE3
     have hs12:ScH H12 u3 G3 E3 ss[i]:=⟨eu3,⟨tG,t23 _ _ eG3,b2.same t13⟩,⟨tE,t3 _ _ eE3,c2.same t13⟩⟩
     refine k _ _ SC12.top (by rw [List.length_map,lu2]; exact small1000 (by omega)) ⟨u2++[u3],G2++[G3],E2++[E3],by rw [List.map_append]; rfl,fun b o e=>?_,?_,nd_snoc2 nd nG nE nGE,fun x hx=>?_⟩
     · rw [upd_ne (ne_of_none e hD)]; exact t13 _ _ (s9 _ _ e)
     · rw [etk]; exact SC12.snoc hs12 (fun z=>nG (z ▸ List.mem_cons_self)) (fun z=>nE (z ▸ List.mem_cons_self)) (fun x hx z=>(List.nodup_cons.mp nd).1 (z ▸ hx))
     · simp only [List.mem_append,List.mem_singleton] at hx
       rcases hx with (h | h) | (h | h)
       · exact hfr x (List.mem_append_left _ h)
       · rw [h]; exact s9.free hG3
       · exact hfr x (List.mem_append_right _ h)
       · rw [h]; exact (s9.trans t1).free hE3
   obtain ⟨u2,G2,E2,rfl,s9,SC9,nd,hfr⟩:=hv
   rw [show (us.map V.ref).length=ss.length by rw [List.length_map,N2.sc.lu],List.take_length] at SC9
   refine ⟨_,rfl,T,_,rfl,Or.inl (SqL.of (s9 _ _ N2.et)),fun T2 hT2=>?_⟩
   obtain ⟨H10,qH10,t1,eT2⟩:=new_at (o:=.lst (ts.map V.ref)) hT2
   rw [←qH10]
   refine ⟨_,rfl,R,_,rfl,Or.inl (SqL.of (t1 _ _ (s9 _ _ N2.er))),fun R2 hR2=>?_⟩
   obtain ⟨H11,qH11,t2,eR2⟩:=new_at (o:=.lst (qt.map V.ref)) hR2
   rw [←qH11]
   refine ⟨three_le,fun kt hkt=>?_⟩
   obtain ⟨H12,qH12,t3,ekt⟩:=new_at (o:=.tup [.ref D2,.ref T2,.ref R2]) hkt
   rw [←qH12]
   have t23:=t2.trans t3
   have t13:=t1.trans t23
   have sA:=s02.trans <| s9.trans t13
   have al:=SC9.alive
   refine q kt D2 T2 R2 u2 G2 E2 H12 sA ekt ⟨SC9.same t13,t23 _ _ eT2,N2.tg.same (s9.trans t13),t3 _ _ eR2,N2.tq.same (s9.trans t13)⟩ nd (s02.free hD2) (s02.free (s9.free hT2)) (s02.free ((s9.trans t1).free hR2)) (fun x hx=>s02.free (hfr x hx)) (fun z=>by rw [←z,eT2] at hR2; cases hR2) (fun z=>by rw [←z,SC9.top] at hT2; cases hT2) (fun z=>by rw [←z,t1 _ _ SC9.top] at hR2; cases hR2) (fun x hx=>⟨fun z=>(List.nodup_cons.mp nd).1 (z ▸ hx),fun z=>?_,fun z=>?_⟩)
   · obtain ⟨xs,e⟩:=al x hx
     rw [z,hT2] at e; cases e
   · obtain ⟨xs,e⟩:=al x hx
     rw [z] at e
     rw [t1 _ _ e] at hR2; cases hR2
theorem call_net_of (B:Blt mg) (ER:Ers K mg) (c_refuse_too_great:CalleeE P w K mg base "refuse_too_great_nets" 2 ["scopes", "things", "questions"] (sp_refuse_too_great K)) (c_refuse_no_names:CalleeE P w K mg base "refuse_no_names" 2 ["scopes", "questions"] (sp_refuse_no_names K)) (c_refuse_no_places:CalleeE P w K mg base "refuse_no_places" 4 ["scopes", "things", "questions"] (sp_refuse_no_places K)) (F:Fun K "net_of" "net_of" s_net_of f fd) (hm:mg "net_of" = some (.ref f)):CalleeE P w K mg base "net_of" 5 ["scopes", "things", "questions"] (sp_net_of K) :=
 ⟨f,fd,ok_net_of B ER c_refuse_too_great c_refuse_no_names c_refuse_no_places F,hm,F.kp,F.binds fun _ _ _ _ _ _ us hl=>(by obtain ⟨x0,x1,x2,rfl⟩:=len_3 hl; rfl)⟩
def sp_net_by (K:PySem.W.Frag):Sp:=fun vs H Q E=>∃ (P:Addr) (as:List Addr) (ts:List Tre),vs=[.ref P]∧H P=some (.lst (as.map V.ref))∧TresH K H as ts∧NoPartL ts∧szL ts≤95∧(∀ x∈wordsN (laysT 0 0 N0 ts).1.1 (laysT 0 0 N0 ts).1.2.2,x.length≤1000) ∧
 (innN 31 ts≠[]∨¬ NFits (laysT 0 0 N0 ts).1.1 (laysT 0 0 N0 ts).1.2.1 (laysT 0 0 N0 ts).1.2.2→∀ H',Same H H'→E (.ref (clsA K "TooGreat")) none H') ∧
 (innN 31 ts=[]→NFits (laysT 0 0 N0 ts).1.1 (laysT 0 0 N0 ts).1.2.1 (laysT 0 0 N0 ts).1.2.2→¬ NNames (laysT 0 0 N0 ts).1.1 (laysT 0 0 N0 ts).1.2.2→∀ H',Same H H'→E (.ref (clsA K "NoName")) none H') ∧
 (innN 31 ts=[]→NFits (laysT 0 0 N0 ts).1.1 (laysT 0 0 N0 ts).1.2.1 (laysT 0 0 N0 ts).1.2.2→NNames (laysT 0 0 N0 ts).1.1 (laysT 0 0 N0 ts).1.2.2→∀ (v:V) (H':Hp),Same H H'→Q v H')
theorem ok_net_by (B:Blt mg) (ER:Ers K mg) (c_refuse_too_great_2:CalleeE P w K mg base "refuse_too_great_laying" 2 ["program"] (sp_refuse_too_great_2 K)) (c_Ground__init__:CalleeN P w K mg base (clsA K "Ground") 1 ["self"] [] (sp_Ground__init__ K)) (c_lay_items:C_lay_items P w K mg base) (c_Ground_new_scope:CalleeM P w K mg base (clsA K "Ground") "new_scope" 1 ["self", "steps", "tellings"] (sp_Ground_new_scope K)) (c_net_of:CalleeE P w K mg base "net_of" 5 ["scopes", "things", "questions"] (sp_net_of K)) (F:Fun K "net_by" "net_by" s_net_by f fd):FnOk P w K mg base (CXE P w) 100 f fd ["program"] (sp_net_by K):=by
 refine F.okE sc_net_by (fun vs H Q E h=>?_) (fun cdv A outer s H vs Q E hr h=>?_)
 · obtain ⟨P,as,trs,rfl,_⟩:=h
   rfl
 · obtain ⟨P,as,trs,rfl,eP,hI,np,h95,hw,q1,q2,q3⟩:=h
   refine ⟨_,(pss_cons (ps_expr (pe_fnE c_refuse_too_great_2 throws_cx (hr.mono (by decide)) rfl (pa_cons (pv 0) pa_nil)))
    (pss_cons (ps_set (i:=1) sc_net_by.nd (pe_mk0 c_Ground__init__ (hr.mono (by decide)) rfl ER.e_Ground .nil))
    (pss_cons (ps_expr (pe_fn c_lay_items (pa_cons (pv 1) (pa_cons (pv 0) (pa_cons (pe_mth c_Ground_new_scope ER.cl_Ground (hr.mono (by decide)) (pv 1) (pa_cons (pe_lst pa_nil) (pa_cons (pe_lst pa_nil) pa_nil))) pa_nil)))))
    (pss_one (ps_ret (pe_fnE c_net_of throws_cx (hr.mono (by decide)) rfl (pa_cons (pe_fld (pv 1) rfl) (pa_cons (pe_fld (pv 1) rfl) (pa_cons (pe_fld (pv 1) rfl) pa_nil))))))))),?_⟩
   refine ⟨_,rfl,P,as,trs,rfl,eP,hI,h95,fun h31 H1 s1=>?_,fun h31 H1 s1=>q1 (.inl h31) H1 s1⟩
   have h31d:=dep_innN 31 trs h31
   refine fun x dx hx hdx hne=>⟨x,dx,rfl,upd_same,fun S T R H2 fS fT fR nST nSR nTR ex eS eT eR k=>⟨rfl,?_⟩⟩
   have s2:Same H1 H2:=fun b o e=>k b o (ne_of_none e hx) (by rw [upd_ne (ne_of_none e hx),upd_ne (ne_of_none e hdx)]; exact e)
   have fre:∀ b,(upd (upd H1 dx (.own x)) x (.ins (clsA K "Ground") dx [])) b=none→H1 b=none:=fun b e=>(fresh_ins hx hdx).free e
   refine g_in ?_
   try dsimp only
   have s12:=s1.trans s2
   have fr:∀ b∈S :: T :: R :: ([]++[]),H b=none:=fun b m=>by
    simp only [List.append_nil,List.mem_cons,List.not_mem_nil,or_false] at m
    rcases m with rfl | rfl | rfl
    · exact s1.free (fre _ fS)
    · exact s1.free (fre _ fT)
    · exact s1.free (fre _ fR)
   have g2:GrE (clsA K "Ground") H H2 x [] [] []:=⟨dx,S,T,R,[],[],[],[],[],ex,⟨Scs.nil eS,eT,GT.nil,eR,QT.nil⟩,by simp,nTR,by simp [Ne.symm nST],by simp [Ne.symm nSR],fr,s12⟩
   refine ⟨_,rfl,_,rfl,_,rfl,x,dx,_,rfl,ex,rfl,by decide,fun G hG=>?_⟩
   obtain ⟨H3,qH3,s3,eG⟩:=new_at (o:=.lst []) hG
   rw [←qH3]
   refine ⟨by decide,fun E1 hE=>?_⟩
   obtain ⟨H4,qH4,s4,eE⟩:=new_at (o:=.lst []) hE
   rw [←qH4]
   refine ⟨x,G,E1,H,H2,([],[]),_,_,_,rfl,g2,s3.trans s4,hG,s3.free hE,(fun z=>by rw [←z,eG] at hE; cases hE),⟨[],s4 _ _ eG,RT.nil⟩,⟨[],eE,RT.nil⟩,by decide,fun H5 g5=>?_⟩
   refine ⟨x,P,as,trs,0,H,N0,rfl,by omega,g5,eP,hI,np,by decide,⟨by show 1 + _≤100; omega,by show 0 + _≤100; omega,by show 0 + _≤100; omega,fun s hs=>by
    have:s=([],[]):=by simpa [N0] using hs
    rw [this]; show 0 + _≤100∧0 + _≤100; omega⟩,h95,fun H6 g6=>?_⟩
   obtain ⟨dx6,S6,T6,R6,us,Gs,Es,ts,qt,g6⟩:=g6
   have s6:=g6.sm
   have hP:NPlaces (laysT 0 0 N0 trs).1.1 (laysT 0 0 N0 trs).1.2.1 (laysT 0 0 N0 trs).1.2.2:=places_T np
   refine ⟨_,rfl,x,_,dx6,_,.ref S6,rfl,g6.gi,ER.cl_Ground,ER.na_Ground_scopes,rfl,_,rfl,x,_,dx6,_,.ref T6,rfl,g6.gi,ER.cl_Ground,ER.na_Ground_things,rfl,_,rfl,x,_,dx6,_,.ref R6,rfl,g6.gi,ER.cl_Ground,ER.na_Ground_questions,rfl,S6,T6,R6,us,Gs,Es,ts,qt,_,_,_,rfl,g6.n3,hw,fun nf=>q1 (.inr nf) H6 s6,fun f nn H7 s7=>q2 h31 f nn H7 (s6.trans s7),fun f nn npl=>absurd hP npl,fun f nn _ nt S7 T7 R7 u7 G7 E7 H7 s7 _ _ _ _ _ _ _ _ _ _ _=>q3 h31 f nn _ H7 (s6.trans s7)⟩
theorem call_net_by (B:Blt mg) (ER:Ers K mg) (c_refuse_too_great_2:CalleeE P w K mg base "refuse_too_great_laying" 2 ["program"] (sp_refuse_too_great_2 K)) (c_Ground__init__:CalleeN P w K mg base (clsA K "Ground") 1 ["self"] [] (sp_Ground__init__ K)) (c_lay_items:C_lay_items P w K mg base) (c_Ground_new_scope:CalleeM P w K mg base (clsA K "Ground") "new_scope" 1 ["self", "steps", "tellings"] (sp_Ground_new_scope K)) (c_net_of:CalleeE P w K mg base "net_of" 5 ["scopes", "things", "questions"] (sp_net_of K)) (F:Fun K "net_by" "net_by" s_net_by f fd) (hm:mg "net_by" = some (.ref f)):CalleeE P w K mg base "net_by" 100 ["program"] (sp_net_by K) :=
 ⟨f,fd,ok_net_by B ER c_refuse_too_great_2 c_Ground__init__ c_lay_items c_Ground_new_scope c_net_of F,hm,F.kp,F.binds fun _ _ _ _ _ _ us hl=>(by obtain ⟨x0,rfl⟩:=len_1 hl; rfl)⟩
def AskE (K:PySem.W.Frag) (C c:Addr) (b:Bool):Prop:=AskC K C (.ref c) b∧((Value.ref C == Value.ref c)=true→b=true)
theorem AskE.no {K:PySem.W.Frag} {C c:Addr} (a:AskC K C (.ref c) false) (h:(Value.ref C == Value.ref c)=false):AskE K C c false:=⟨a,fun z=>by rw [h] at z; cases z⟩
theorem AskE.yes {K:PySem.W.Frag} {C c:Addr} (a:AskC K C (.ref c) true):AskE K C c true:=⟨a,fun _=>rfl⟩
structure ErrF (K:PySem.W.Frag) (C:Addr) (g:Bool):Prop where
 xf:XForm K C
 sp:L2.subIn K C (clsA K "PathError")=true
 d:ExcCl K C
 v:AskC K C (.type "ValueError") true
 a0:AskE K C (clsA K "NoPlace") false
 a1:AskE K C (clsA K "Twice") false
 a2:AskE K C (clsA K "Tangled") false
 a3:AskE K C (clsA K "NoText") false
 a4:AskE K C (clsA K "NoRow") false
 a5:AskE K C (clsA K "Ring") false
 a6:AskE K C (clsA K "Caught") false
 a7:AskE K C (clsA K "TooGreat") g
 a8:AskE K C (clsA K "NoName") (!g)
def OutT (ts:List Tre) (w:Str):Prop:=(w = "great" ∧ (innN 31 ts≠[]∨¬ NFits (laysT 0 0 N0 ts).1.1 (laysT 0 0 N0 ts).1.2.1 (laysT 0 0 N0 ts).1.2.2)) ∨
 ((innN 31 ts=[]∧NFits (laysT 0 0 N0 ts).1.1 (laysT 0 0 N0 ts).1.2.1 (laysT 0 0 N0 ts).1.2.2)∧((w = "name" ∧ ¬ NNames (laysT 0 0 N0 ts).1.1 (laysT 0 0 N0 ts).1.2.2)∨(w = "made" ∧ NNames (laysT 0 0 N0 ts).1.1 (laysT 0 0 N0 ts).1.2.2)))
def sp__law_outcome (K:PySem.W.Frag):Sp:=fun vs H Q _=>∃ (P:Addr) (as:List Addr) (ts:List Tre) (w:Str),vs=[.ref P]∧H P=some (.lst (as.map V.ref))∧TresH K H as ts∧NoPartL ts∧szL ts≤95∧WkL W1 V1 ts∧OutT ts w∧∀ H',Same H H'→Q (.str w) H'
theorem ok__law_outcome (B:Blt mg) (ER:Ers K mg) (c_net_by:CalleeE P w K mg base "net_by" 100 ["program"] (sp_net_by K)) (F:Fun K "_law_outcome" "_law_outcome" s__law_outcome f fd):FnOk P w K mg base CX0 101 f fd ["_law_program"] (sp__law_outcome K):=by
 refine F.ok sc__law_outcome (fun vs H Q E h=>?_) (fun cdv A outer s H vs Q E hr h=>?_)
 · obtain ⟨P,as,ts,w,rfl,_⟩:=h
   rfl
 · obtain ⟨P,as,ts,w,rfl,eP,hT,np,hz,hw,ho,q⟩:=h
   refine ⟨_,(pss_cons (ps_set (i:=1) sc__law_outcome.nd pe_non)
    (pss_cons (ps_try_fnX (i:=2) c_net_by (hr.mono (by decide)) rfl (pa_cons (pv 0) pa_nil) rfl rfl (cform_exc ER.k_PathError.ok) rfl ER.e_PathError sc__law_outcome.nd rfl rfl (fun _=>(pss_one (ps_set (i:=1) sc__law_outcome.nd (pv 2)))))
    (pss_cons (ps_if (pt_cmp (pc_isN (pv 1))) (pss_one (ps_ret pe_str)) pss_nil)
    (pss_cons (ps_set (i:=3) sc__law_outcome.nd (pe_lst (pa_cons (pe_callB call_isiX B.b_isinstance (pa_cons (pv 1) (pa_cons (pe_glob (v:=.ref (clsA K "NoPlace")) rfl ER.e_NoPlace rfl) pa_nil))) (pa_cons (pe_callB call_isiX B.b_isinstance (pa_cons (pv 1) (pa_cons (pe_glob (v:=.ref (clsA K "Twice")) rfl ER.e_Twice rfl) pa_nil))) (pa_cons (pe_callB call_isiX B.b_isinstance (pa_cons (pv 1) (pa_cons (pe_glob (v:=.ref (clsA K "Tangled")) rfl ER.e_Tangled rfl) pa_nil))) pa_nil)))))
    (pss_cons (ps_set (i:=3) sc__law_outcome.nd (pe_op op_cat (pv 3) (pe_lst (pa_cons (pe_callB call_isiX B.b_isinstance (pa_cons (pv 1) (pa_cons (pe_glob (v:=.ref (clsA K "NoText")) rfl ER.e_NoText rfl) pa_nil))) (pa_cons (pe_callB call_isiX B.b_isinstance (pa_cons (pv 1) (pa_cons (pe_glob (v:=.ref (clsA K "NoRow")) rfl ER.e_NoRow rfl) pa_nil))) (pa_cons (pe_callB call_isiX B.b_isinstance (pa_cons (pv 1) (pa_cons (pe_glob (v:=.ref (clsA K "Ring")) rfl ER.e_Ring rfl) pa_nil))) pa_nil))))))
    (pss_cons (ps_if (PW.pt (pw_or (pt_cmpR op_in_seq pe_bl (pv 3) (by with_unfolding_all rfl)) (pw_or (pt_val (pe_callB call_isiX B.b_isinstance (pa_cons (pv 1) (pa_cons (pe_glob (v:=.ref (clsA K "Caught")) rfl ER.e_Caught rfl) pa_nil)))) (pw_or1 (pt_not (pt_val (pe_callB call_isiX B.b_isinstance (pa_cons (pv 1) (pa_cons (pe_ty "ValueError" rfl B.b_ValueError (by decide +kernel)) pa_nil))))))))) (pss_one (ps_ret pe_str)) pss_nil)
    (pss_cons (ps_if (PW.pt (pw_and (pt_val (pe_callB call_isiX B.b_isinstance (pa_cons (pv 1) (pa_cons (pe_glob (v:=.ref (clsA K "TooGreat")) rfl ER.e_TooGreat rfl) pa_nil)))) (pw_and1 (pt_not (pt_val (pe_callB call_isiX B.b_isinstance (pa_cons (pv 1) (pa_cons (pe_glob (v:=.ref (clsA K "NoName")) rfl ER.e_NoName rfl) pa_nil)))))))) (pss_one (ps_ret pe_str)) pss_nil)
    (pss_cons (ps_if (PW.pt (pw_and (pt_val (pe_callB call_isiX B.b_isinstance (pa_cons (pv 1) (pa_cons (pe_glob (v:=.ref (clsA K "NoName")) rfl ER.e_NoName rfl) pa_nil)))) (pw_and1 (pt_not (pt_val (pe_callB call_isiX B.b_isinstance (pa_cons (pv 1) (pa_cons (pe_glob (v:=.ref (clsA K "TooGreat")) rfl ER.e_TooGreat rfl) pa_nil)))))))) (pss_one (ps_ret pe_str)) pss_nil)
    (pss_one (ps_ret pe_str)))))))))),?_⟩
   refine ⟨_,rfl,P,as,ts,rfl,eP,hT,np,hz,words_T np hw,fun hg H0 s0=>?a,fun h1 h2 h3 H0 s0=>?b,fun h1 h2 h3 v' H1 s1=>?c⟩
   case c =>
    refine ⟨_,rfl,_,rfl,ite2 (fun _=>?_) (fun h=>absurd (decide_eq_true rfl) h)⟩
    rcases ho with ⟨rfl,hg⟩ | ⟨_,⟨rfl,h⟩ | ⟨rfl,_⟩⟩
    · exact absurd h1 (hg.elim id fun z=>absurd h2 z)
    · exact absurd h3 h
    · exact q H1 s1
   case' a =>
    obtain ⟨g,F,ew⟩:∃ g,ErrF K (clsA K "TooGreat") g∧w=(if g then ("great" : Str) else "name"):=by
     refine ⟨true,⟨xform_exc ER.k_TooGreat.ok,ER.s_TooGreat_PathError,ER.d_TooGreat,ER.v_TooGreat,.no ER.a_TooGreat_NoPlace ER.n_TooGreat_NoPlace,.no ER.a_TooGreat_Twice ER.n_TooGreat_Twice,.no ER.a_TooGreat_Tangled ER.n_TooGreat_Tangled,.no ER.a_TooGreat_NoText ER.n_TooGreat_NoText,.no ER.a_TooGreat_NoRow ER.n_TooGreat_NoRow,.no ER.a_TooGreat_Ring ER.n_TooGreat_Ring,.no ER.a_TooGreat_Caught ER.n_TooGreat_Caught,.yes ER.a_TooGreat_TooGreat,.no ER.a_TooGreat_NoName ER.n_TooGreat_NoName⟩,?_⟩
     rcases ho with ⟨rfl,_⟩ | ⟨⟨z1,z2⟩,_⟩
     · rfl
     · exact absurd z1 (hg.elim id fun z=>absurd z2 z)
    clear hg
    obtain ⟨C,eC⟩:∃ C,C=clsA K "TooGreat" := ⟨_,rfl⟩
    rw [←eC] at F
   case' b =>
    obtain ⟨g,F,ew⟩:∃ g,ErrF K (clsA K "NoName") g∧w=(if g then ("great" : Str) else "name"):=by
     refine ⟨false,⟨xform_exc ER.k_NoName.ok,ER.s_NoName_PathError,ER.d_NoName,ER.v_NoName,.no ER.a_NoName_NoPlace ER.n_NoName_NoPlace,.no ER.a_NoName_Twice ER.n_NoName_Twice,.no ER.a_NoName_Tangled ER.n_NoName_Tangled,.no ER.a_NoName_NoText ER.n_NoName_NoText,.no ER.a_NoName_NoRow ER.n_NoName_NoRow,.no ER.a_NoName_Ring ER.n_NoName_Ring,.no ER.a_NoName_Caught ER.n_NoName_Caught,.no ER.a_NoName_TooGreat ER.n_NoName_TooGreat,.yes ER.a_NoName_NoName⟩,?_⟩
     rcases ho with ⟨rfl,hg⟩ | ⟨_,⟨rfl,h⟩ | ⟨rfl,h⟩⟩
     · exact absurd h1 (hg.elim id fun z=>absurd h2 z)
     · rfl
     · exact absurd h h3
    clear h1 h2 h3
    obtain ⟨C,eC⟩:∃ C,C=clsA K "NoName" := ⟨_,rfl⟩
    rw [←eC] at F
   all_goals
    refine ⟨C,congrArg Value.ref eC.symm,F.xf,F.sp,fun ea hea=>?_⟩
    clear eC
    have s1:=s0.trans (same_new (o:=ExcO ea C none) hea)
    have tX:(upd H0 ea (ExcO ea C none)) ea=some (ExcO ea C none):=upd_same
    generalize upd H0 ea (ExcO ea C none)=H1 at s1 tX ⊢
    have hd:∀ (H1:Hp) (d':Addr),none=some d'→∃ o,H1 d'=some o:=fun _ d' e=>by cases e
    refine ⟨_,rfl,?_⟩
    refine ⟨_,rfl,_,rfl,ite2 (fun h=>absurd (of_decide_eq_true h) (by simp)) (fun _=>?_)⟩
    refine ⟨_,rfl,ea,C,none,_,_,false,rfl,(fun _ h=>h),tX,hd _,F.d,F.a0.1,F.a0.2,_,rfl,ea,C,none,_,_,false,rfl,(fun _ h=>h),tX,hd _,F.d,F.a1.1,F.a1.2,_,rfl,ea,C,none,_,_,false,rfl,(fun _ h=>h),tX,hd _,F.d,F.a2.1,F.a2.2,show 3≤sizeLine by decide,fun l1 hl1=>?_⟩
    obtain ⟨H2,qH2,tl1,el1⟩:=new_at (o:=.lst [.bl false,.bl false,.bl false]) hl1
    rw [←qH2]
    have tX:=tl1 _ _ tX
    refine g_in ?_
    try dsimp only
    refine ⟨_,rfl,_,rfl,ea,C,none,_,_,false,rfl,(fun _ h=>h),tX,hd _,F.d,F.a3.1,F.a3.2,_,rfl,ea,C,none,_,_,false,rfl,(fun _ h=>h),tX,hd _,F.d,F.a4.1,F.a4.2,_,rfl,ea,C,none,_,_,false,rfl,(fun _ h=>h),tX,hd _,F.d,F.a5.1,F.a5.2,show 3≤sizeLine by decide,fun l2 hl2=>?_⟩
    obtain ⟨H3,qH3,tl2,el2⟩:=new_at (o:=.lst [.bl false,.bl false,.bl false]) hl2
    rw [←qH3]
    have tX:=tl2 _ _ tX
    refine ⟨l1,l2,_,_,rfl,rfl,tl2 _ _ el1,el2,show 6≤sizeLine by decide,fun l3 hl3=>?_⟩
    obtain ⟨H4,qH4,tl3,el3⟩:=new_at (o:=.lst ([.bl false,.bl false,.bl false]++[.bl false,.bl false,.bl false])) hl3
    rw [←qH4]
    have tX:=tl3 _ _ tX
    have sA:=((s1.trans tl1).trans tl2).trans tl3
    refine g_in ?_
    try dsimp only
    refine ⟨_,rfl,l3,_,rfl,Or.inl (SqL.of el3),rfl,rfl,_,rfl,iteF ?_⟩
    refine ⟨_,rfl,ea,C,none,_,_,false,rfl,(fun _ h=>h),tX,hd _,F.d,F.a6.1,F.a6.2,_,rfl,iteF ?_⟩
    refine ⟨_,rfl,ea,C,none,_,_,true,rfl,(fun _ h=>h),tX,hd _,F.d,F.v,fun _=>rfl,_,rfl,iteF ?_⟩
    cases g with
    | true =>
      refine ⟨_,rfl,ea,C,none,_,_,true,rfl,(fun _ h=>h),tX,hd _,F.d,F.a7.1,F.a7.2,_,rfl,iteT ?_⟩
      refine ⟨_,rfl,ea,C,none,_,_,false,rfl,(fun _ h=>h),tX,hd _,F.d,F.a8.1,F.a8.2,_,rfl,iteT ?_⟩
      rw [←show w = "great" from ew]
      exact q H4 sA
    | false =>
      refine ⟨_,rfl,ea,C,none,_,_,false,rfl,(fun _ h=>h),tX,hd _,F.d,F.a7.1,F.a7.2,_,rfl,iteF ?_⟩
      refine ⟨_,rfl,ea,C,none,_,_,true,rfl,(fun _ h=>h),tX,hd _,F.d,F.a8.1,F.a8.2,_,rfl,iteT ?_⟩
      refine ⟨_,rfl,ea,C,none,_,_,false,rfl,(fun _ h=>h),tX,hd _,F.d,F.a7.1,F.a7.2,_,rfl,iteT ?_⟩
      rw [←show w = "name" from ew]
      exact q H4 sA
variable (P w K mg base) in
abbrev C__law_outcome:Prop:=Callee P w K mg base "_law_outcome" 101 ["_law_program"] (sp__law_outcome K)
theorem call__law_outcome (B:Blt mg) (ER:Ers K mg) (c_net_by:CalleeE P w K mg base "net_by" 100 ["program"] (sp_net_by K)) (F:Fun K "_law_outcome" "_law_outcome" s__law_outcome f fd) (hm:mg "_law_outcome" = some (.ref f)):C__law_outcome P w K mg base :=
 ⟨f,fd,ok__law_outcome B ER c_net_by F,hm,F.kp,F.binds fun _ _ _ _ _ _ us hl=>(by obtain ⟨x0,rfl⟩:=len_1 hl; rfl)⟩
def OkT (ts:List Tre) (w:Str):Prop:=NoPartL ts∧szL ts≤95∧WkL W1 V1 ts∧OutT ts w
theorem ok_small {ts:List Tre} (h:∀ t∈ts,PlT t) (hl:ts.length≤5):OkT ts "made" := by
 obtain ⟨a,b,c,d,e⟩:=small_all (fun t ht=>(h t ht).sm) hl
 exact ⟨a,by omega,c,.inr ⟨⟨d,e⟩,.inr ⟨rfl,plain_names h⟩⟩⟩
theorem ok_much (k:Nat):OkT (muchT k 0) "made" := ⟨much_np k (Nat.zero_le _),Nat.le_trans (much_sz k (Nat.zero_le _)) (by decide),much_words k (Nat.zero_le _),.inr ⟨much_made k,.inr ⟨rfl,much_names k⟩⟩⟩
theorem ok_bad {ts:List Tre} (h:∀ t∈ts,SmT t) (hl:ts.length≤5) {t:Tre} (ht:t∈ts) (hb:BadT t):OkT ts "name" := by
 obtain ⟨a,b,c,d,e⟩:=small_all h hl
 exact ⟨a,by omega,c,.inr ⟨⟨d,e⟩,.inl ⟨rfl,bad_names a ht hb⟩⟩⟩
theorem ok_great {us:List Tre} {k:Nat} (hs:(muchT k 1).Sublist us) (hm:∀ t∈us,t∈muchT k 1∨SmT t) (hz:szL us≤95):OkT us "great" := by
 have np:NoPartL us:=aNp.of fun t ht=>(hm t ht).elim (fun z=>npL_mem _ (much_np k (Nat.le_refl _)) t z) fun z=>z.np
 exact ⟨np,hz,aWk.of fun t ht=>(hm t ht).elim (fun z=>wkL_mem _ (much_words k (Nat.le_refl _)) t z) fun z=>z.wl,.inl ⟨rfl,much_great np hs⟩⟩
theorem plain_cut (ns:List Int):cutV (ns.map V.int) (some 5) (some 9)=((ns.drop 5).take 4).map V.int:=by
 rw [show cutV (ns.map V.int) (some 5) (some 9)=((ns.map V.int).drop 5).take (9 - 5) from cutV_mid _ 5 9 (by decide),←List.map_drop,←List.map_take]
theorem sub_ins (us:List Tre) (b:Tre) (i:Nat):us.Sublist (us.take i++b :: us.drop i):=by
 have h:(us.take i++us.drop i).Sublist (us.take i++b :: us.drop i):=(List.Sublist.refl _).append (List.sublist_cons_self _ _)
 rwa [List.take_append_drop] at h
theorem mem_ins {us:List Tre} {b t:Tre} {i:Nat} (h:t∈us.take i++b :: us.drop i):t∈us∨t=b:=by
 rcases List.mem_append.mp h with h | h
 · exact .inl (List.mem_of_mem_take h)
 · rcases List.mem_cons.mp h with h | h
   · exact .inr h
   · exact .inl (List.mem_of_mem_drop h)
theorem sz_ins (us:List Tre) (b:Tre) (i:Nat):szL (us.take i++b :: us.drop i)=szL us + szT b:=by
 have h:szL us=szL (us.take i++us.drop i):=by rw [List.take_append_drop]
 rw [h,sSz.app,sSz.app,sSz.cons]; omega
theorem TresH.ins {K:PySem.W.Frag} {H:Hp} {b:Addr} {t:Tre} (hb:TreH K H b t):∀ {as:List Addr} {ts:List Tre} (i:Nat),TresH K H as ts→TresH K H (as.take i++b :: as.drop i) (ts.take i++t :: ts.drop i)
 | _,_,0,h=>.cons hb h
 | _,_,_ + 1,.nil=>.cons hb .nil
 | _,_,i + 1,.cons h r=>.cons h (TresH.ins hb i r)
theorem TresH.take {K:PySem.W.Frag} {H:Hp}:∀ {as:List Addr} {ts:List Tre} (i:Nat),TresH K H as ts→TresH K H (as.take i) (ts.take i)
 | _,_,0,_=>.nil
 | _,_,_ + 1,.nil=>.nil
 | _,_,i + 1,.cons h r=>.cons h (TresH.take i r)
theorem TresH.drop {K:PySem.W.Frag} {H:Hp}:∀ {as:List Addr} {ts:List Tre} (i:Nat),TresH K H as ts→TresH K H (as.drop i) (ts.drop i)
 | _,_,0,h=>h
 | _,_,_ + 1,.nil=>.nil
 | _,_,i + 1,.cons _ r=>TresH.drop i r
theorem cat_tresN {K:PySem.W.Frag} {H:Hp} {a b:Addr} {as bs:List Addr} {ts us:List Tre} {Q:VK} (ea:H a=some (.lst (as.map V.ref))) (eb:H b=some (.lst (bs.map V.ref))) (ta:TresH K H as ts) (tb:TresH K H bs us) (hl:ts.length + us.length≤1000)
 (k:∀ (p:Addr) (cs:List Addr) (H':Hp),H p=none→Same H H'→H' p=some (.lst (cs.map V.ref))→TresH K H cs (ts++us)→Q (.ref p) H'):rCat (.ref a) (.ref b) H Q :=
 ⟨a,b,_,_,rfl,rfl,ea,eb,by rw [List.length_map,List.length_map,ta.len,tb.len]; exact Nat.le_of_lt (small1000 hl),fun p hp=>k p (as++bs) _ hp (same_new hp) (by rw [upd_same,List.map_append]) (TresH.app tb ta)⟩
theorem TresH.away {K:PySem.W.Frag} {H H':Hp} {P:Addr} {as:List Addr} {ts:List Tre} (h:TresH K H as ts) (hP:H P=none) (s:Same H H'):TresF K (fun x=>x≠P) H' as ts:=h.toF.keeps s.toKeeps (fun _ _ z=>z) fun x hx z=>hx (by rw [z]; exact hP)
def sp_law (K:PySem.W.Frag):Sp:=fun vs H Q _=>∃ (a:Addr) (ns:List Int),vs=[.ref a]∧SqL K H a (ns.map V.int)∧ns.length≤63∧∀ H',Q (.bl true) H'
theorem ok_law (B:Blt mg) (ER:Ers K mg) (c__law_plain:C__law_plain P w K mg base) (c__law_cell_at:C__law_cell_at P w K mg base) (c__law_much:C__law_much P w K mg base) (c__law_no_name:C__law_no_name P w K mg base) (c__law_outcome:C__law_outcome P w K mg base) (F:Fun K "law" "law" s_law f fd):FnOk P w K mg base CX0 102 f fd ["_law_script"] (sp_law K):=by
 refine F.ok sc_law (fun vs H Q E h=>?_) (fun cdv A outer s H vs Q E hr h=>?_)
 · obtain ⟨a,ns,rfl,_⟩:=h
   rfl
 · obtain ⟨a,ns,rfl,hS,hlen,kq⟩:=h
   refine ⟨_,(pss_cons (ps_setC (i:=1) sc_law.nd rfl (Or.inl rfl) rfl law_cs1 (pi_list (pe_slice sl_list (pv 0) (po_some pe_int) (po_some pe_int))) (fun _ _ _ _ _=>(pg_name (i:=0) law_cs1.nd)) (fun _ _ _ _ _=>pf_nil) (fun _ _ _ _ _=>(pe_fn c__law_plain (pa_cons (pe_op op_mod (pv 0) (pe_op op_pow pe_int pe_int)) pa_nil))))
    (pss_cons (ps_set (i:=2) sc_law.nd (pe_op op_mod (pe_fn c__law_cell_at (pa_cons (pv 0) (pa_cons pe_int pa_nil))) pe_int))
    (pss_cons (ps_set (i:=3) sc_law.nd (pe_op op_fdiv (pv 2) pe_int))
    (pss_cons (ps_set (i:=4) sc_law.nd (pe_callTy call_list_of B.b_list (pa_cons (pv 1) pa_nil)))
    (pss_cons (ps_if (pt_cmpR op_eq (pv 3) pe_int (nomark _)) (pss_cons (ps_set (i:=5) sc_law.nd (pe_op op_mod (pe_fn c__law_cell_at (pa_cons (pv 0) (pa_cons pe_int pa_nil))) (pe_op op_add (pe_callB call_len B.b_len (pa_cons (pv 1) pa_nil)) pe_int)))
     (pss_one (ps_set (i:=4) sc_law.nd (pe_op op_cat (pe_op op_cat (pe_slice sl_list (pv 4) po_none (po_some (pv 5))) (pe_fn c__law_much (pa_cons (pe_fn c__law_cell_at (pa_cons (pv 0) (pa_cons pe_int pa_nil))) (pa_cons pe_int pa_nil)))) (pe_slice sl_list (pv 4) (po_some (pv 5)) po_none))))) (pss_one (ps_if (PW.pt (pw_and (pt_cmpR op_eq (pv 2) pe_int (nomark _)) (pw_and1 (pt_cmpR op_eq (pe_op op_mod (pe_op op_fdiv (pe_fn c__law_cell_at (pa_cons (pv 0) (pa_cons pe_int pa_nil))) pe_int) pe_int) pe_int (nomark _))))) (pss_one (ps_set (i:=4) sc_law.nd (pe_fn c__law_much (pa_cons (pe_fn c__law_cell_at (pa_cons (pv 0) (pa_cons pe_int pa_nil))) (pa_cons pe_int pa_nil))))) pss_nil)))
    (pss_cons (ps_set (i:=6) sc_law.nd (pe_ix ix_seq (pe_lst (pa_cons pe_str (pa_cons pe_str (pa_cons pe_str (pa_cons pe_str pa_nil))))) (pv 2)))
    (pss_cons (ps_if (pt_cmpR op_eq (pe_op op_mod (pv 2) pe_int) pe_int (nomark _)) (pss_cons (ps_set (i:=7) sc_law.nd (pe_fn c__law_no_name (pa_cons (pe_op op_mod (pe_fn c__law_cell_at (pa_cons (pv 0) (pa_cons pe_int pa_nil))) (pe_op op_pow pe_int pe_int)) pa_nil)))
     (pss_one (ps_expr (pe_bm PySem.F.plainAttrs_list PySem.F.slot_list_insert PySem.F.type_list_insert mr_insert (pv 4) (pa_cons (pe_op op_mod (pe_fn c__law_cell_at (pa_cons (pv 0) (pa_cons pe_int pa_nil))) (pe_op op_add (pe_callB call_len B.b_len (pa_cons (pv 4) pa_nil)) pe_int)) (pa_cons (pv 7) pa_nil)))))) pss_nil)
    (pss_cons (ps_set (i:=8) sc_law.nd (pe_callTy call_list_of B.b_list (pa_cons (pv 4) pa_nil)))
    (pss_cons (ps_if (PW.pt (pw_or (pt_cmpR op_ne (pe_fn c__law_outcome (pa_cons (pv 8) pa_nil)) (pv 6) (nomark _)) (pw_or1 (pt_cmpR op_ne (pe_callB call_len B.b_len (pa_cons (pv 8) pa_nil)) (pe_callB call_len B.b_len (pa_cons (pv 4) pa_nil)) (nomark _))))) (pss_one (ps_ret pe_bl)) pss_nil)
    (pss_one (ps_ret (pe_cmpR op_eq (pe_fn c__law_outcome (pa_cons (pv 1) pa_nil)) pe_str (nomark _))))))))))))),?_⟩
   refine ⟨_,rfl,_,rfl,_,rfl,a,_,rfl,hS,fun C hC=>?_⟩
   rw [plain_cut]
   obtain ⟨H1,qH1,sC,eC⟩:=new_at (o:=.lst (((ns.drop 5).take 4).map V.int)) hC
   rw [←qH1]
   have hS:=sC.seq hS
   clear sC hC
   refine ⟨C,rfl,⟨_,SqL.of eC⟩,comp_listI (xs:=((ns.drop 5).take 4).map V.int) (fun D i ys H'=>∃ (as:List Addr) (ts:List Tre),ys=as.map V.ref∧as.length=i∧i≤((ns.drop 5).take 4).length∧Same H1 H'∧H' D=some (.lst ys)∧TresF K (fun x=>x≠D) H' as ts∧∀ t∈ts,PlT t)
    (fun D hD=>⟨[],[],rfl,rfl,Nat.zero_le _,same_new hD,upd_same,.nil,fun t ht=>absurd ht List.not_mem_nil⟩)
    (fun D i ys H2 hv=>by obtain ⟨_,_,_,_,_,s2,_⟩:=hv; exact SqL.of (s2 _ _ eC))
    (fun D i x ys H2 R hD hx hv k=>?_) (fun D ys H2 hD hv=>?_)⟩
   · obtain ⟨as,ts,rfl,hl,hi,s2,eD,hT,hp⟩:=hv
     obtain ⟨c,hc,rfl⟩:=getm hx
     have hlt:=(List.getElem?_eq_some_iff.mp hc).1
     refine ⟨_,rfl,_,_,rfl,rfl,⟨by decide,by decide,by decide⟩,_,_,rfl,rfl,(by show (0:Int) < 10 ^ Int.toNat 6; decide),_,rfl,fun b t H3 s3 ht hpt=>?_⟩
     have e3:=s3 _ _ eD
     have kp:Keeps (·=D) H3 (upd H3 D (.lst (as.map V.ref++[.ref b]))):=Keeps.one e3
     refine k (.ref b) H3 e3 (by rw [List.length_map,hl]; exact small1000 (by rw [List.length_take] at hlt; omega)) ⟨as++[b],ts++[t],by rw [List.map_append]; rfl,by rw [List.length_append,hl]; rfl,hlt,same_own (s2.trans s3) hD,upd_same,?_,fun u hu=>?_⟩
     · exact TresF.snoc (ht.keeps kp (fun x hx z=>by rw [z] at hx; rw [eD] at hx; cases hx) fun x hx z=>by rw [z] at hx; rw [eD] at hx; cases hx) ((hT.same s3).keeps kp (fun _ hx=>hx) fun _ hx=>hx)
     · rcases List.mem_append.mp hu with hu | hu
       · exact hp u hu
       · rw [List.mem_singleton.mp hu]; exact hpt
   obtain ⟨as,ts,rfl,hl,_,s2,eD,hT,hp⟩:=hv
   have hT:=hT.toH
   have hS:=s2.seq hS
   have l4:ts.length≤4:=by rw [←hT.len,hl,List.length_map,List.length_take]; omega
   clear hl s2 eC
   refine g_in ?_
   try dsimp only
   refine ⟨_,rfl,a,ns,0,rfl,by decide,hS,_,_,rfl,rfl,(by show (0:Int) < 4; decide),?_⟩
   refine g_in ?_
   try dsimp only
   have f0:=Int.emod_nonneg (cellAt ns 0) (by decide:(4:Int)≠0)
   have f4:=Int.emod_lt_of_pos (cellAt ns 0) (by decide:(0:Int) < 4)
   generalize cellAt ns 0 % 4=f at f0 f4 ⊢
   refine ⟨_,rfl,_,_,rfl,rfl,⟨by decide,by decide⟩,?_⟩
   refine g_in ?_
   try dsimp only
   refine ⟨_,rfl,D,_,rfl,Or.inl (SqL.of eD),fun P hP=>?_⟩
   refine g_in ?_
   try dsimp only
   have nP:D≠P:=ne_of_none eD hP
   obtain ⟨H3,qH3,s3,eP⟩:=new_at (o:=.lst (as.map V.ref)) hP
   rw [←qH3]
   have oks:=ok_small hp (Nat.le_trans l4 (by decide))
   have zts:szL ts≤10:=(small_all (fun t ht=>(hp t ht).sm) (Nat.le_trans l4 (by decide))).2.1
   refine seq_cut (fun σ' H'=>∃ (P:Addr) (w5:Option V) (bs:List Addr) (us:List Tre),σ'=[some (.ref a),some (.ref D),some (.int f),some (.int (f / 2)),some (.ref P),w5,none,none,none]∧Same H2 H'∧H' P=some (.lst (bs.map V.ref))∧TresH K H' bs us∧us.length≤200∧(f % 2=1→D≠P∧TresF K (fun x=>x≠P) H' bs us∧TresF K (fun x=>x≠P) H' as ts)∧((f≤1∧us=ts)∨(f=0∧∃ k,us=muchT k 0)∨(2≤f∧∃ k l r,ts=l++r∧us=l++muchT k 1++r))) ?_ (fun NN hNN=>?_)
   case refine_2 =>
    refine ⟨_,rfl,rfl,_,rfl,ite2 (fun h=>?_) (fun h=>?_)⟩
    · have hf:f / 2=1:=V.int.inj (of_decide_eq_true h)
      refine ⟨_,rfl,a,ns,1,rfl,by decide,s3.seq hS,_,rfl,_,as.length,rfl,Or.inl ⟨_,SqL.of (s3 _ _ eD),by rw [List.length_map]⟩,_,_,rfl,rfl,_,_,rfl,rfl,(by show (0:Int) < (as.length:Int) + 1; omega),?_⟩
      refine g_in ?_
      try dsimp only
      have m0:=Int.emod_nonneg (cellAt ns 1) (show (as.length:Int) + 1≠0 by omega)
      have m1:=Int.emod_lt_of_pos (cellAt ns 1) (show (0:Int) < (as.length:Int) + 1 by omega)
      generalize cellAt ns 1 % ((as.length:Int) + 1)=m at m0 m1 ⊢
      obtain ⟨n,rfl⟩:=Int.eq_ofNat_of_zero_le m0
      refine ⟨_,rfl,_,rfl,_,rfl,P,_,rfl,SqL.of eP,fun p1 hp1=>?_⟩
      obtain ⟨H4,qH4,s4,e4⟩:=new_at (o:=.lst (cutV (as.map V.ref) none (some (n:Int)))) hp1
      rw [←qH4]
      rw [cutV_take,←List.map_take] at e4
      have s34:=s3.trans s4
      refine ⟨_,rfl,a,ns,2,rfl,by decide,s34.seq hS,_,1,rfl,Nat.le_refl _,fun P2 bs2 H5 s5 e5 t5=>?_⟩
      generalize (cellAt ns 2 % 11).toNat=k at t5
      have lk:=Nat.le_trans (len_szL _) (much_sz k (o:=1) (Nat.le_refl _))
      have s35:=s34.trans s5
      refine cat_tresN (s5 _ _ e4) e5 ((TresH.take n hT).same s35) t5 (by rw [List.length_take]; omega) fun p3 bs3 H6 hp3 s6 e6 t6=>?_
      have s36:=s35.trans s6
      refine ⟨_,rfl,_,rfl,_,rfl,P,_,rfl,SqL.of ((s4.trans (s5.trans s6)) _ _ eP),fun p7 hp7=>?_⟩
      obtain ⟨H7,qH7,s7,e7⟩:=new_at (o:=.lst (cutV (as.map V.ref) (some (n:Int)) none)) hp7
      rw [←qH7]
      rw [cutV_drop,←List.map_drop] at e7
      have s37:=s36.trans s7
      refine cat_tresN (s7 _ _ e6) e7 (t6.same (s6.trans s7)) ((TresH.drop n hT).same s37) (by rw [List.length_append,List.length_take,List.length_drop]; omega) fun p8 bs8 H8 hp8 s8 e8 t8=>?_
      exact hNN _ _ ⟨p8,_,bs8,_,rfl,s37.trans s8,e8,t8.same s8,by rw [List.length_append,List.length_append,List.length_take,List.length_drop]; omega,fun _=>⟨ne_of_none (s37 _ _ eD) hp8,TresH.away t8 hp8 s8,TresH.away (hT.same s37) hp8 s8⟩,.inr (.inr ⟨by omega,k,ts.take n,ts.drop n,(List.take_append_drop n ts).symm,rfl⟩)⟩
    · have hf:¬ f / 2=1:=fun e=>h (decide_eq_true (congrArg V.int e))
      have plainly:NN [some (.ref a),some (.ref D),some (.int f),some (.int (f / 2)),some (.ref P),none,none,none,none] H3:=hNN _ _ ⟨P,none,as,ts,rfl,s3,eP,hT.same s3,by omega,fun _=>⟨nP,TresH.away hT hP s3,TresH.away hT hP s3⟩,.inl ⟨by omega,rfl⟩⟩
      refine ⟨_,rfl,rfl,_,rfl,ite2 (fun h0=>?_) (fun _=>?_)⟩
      · have z0:f=0:=V.int.inj (of_decide_eq_true h0)
        refine ⟨_,rfl,a,ns,0,rfl,by decide,s3.seq hS,_,_,rfl,rfl,⟨by decide,by decide⟩,_,_,rfl,rfl,(by show (0:Int) < 2; decide),rfl,_,rfl,ite2 (fun _=>?_) (fun _=>plainly)⟩
        refine ⟨_,rfl,a,ns,2,rfl,by decide,s3.seq hS,_,0,rfl,Nat.zero_le _,fun P2 bs2 H5 s5 e5 t5=>?_⟩
        generalize (cellAt ns 2 % 11).toNat=k at t5
        have lk:=Nat.le_trans (len_szL _) (much_sz k (o:=0) (Nat.zero_le _))
        exact hNN _ _ ⟨P2,none,bs2,_,rfl,s3.trans s5,e5,t5,by omega,fun z=>by omega,.inr (.inl ⟨z0,k,rfl⟩)⟩
      · exact plainly
   clear s3 eP nP hP
   rintro σ' H4 ⟨P,w5,bs,us,rfl,s4,eP,tP,lP,aw,due⟩
   obtain ⟨dw,hd,hdw⟩:∃ dw:Str,atI [V.str ("made" : Str),V.str ("name" : Str),V.str ("great" : Str),V.str ("great" : Str)] f=some (.str dw)∧((f=0∧dw = "made")∨(f=1∧dw = "name")∨(2≤f∧dw = "great")):=by
    have:f=0∨f=1∨f=2∨f=3:=by omega
    rcases this with rfl | rfl | rfl | rfl
    · exact ⟨_,rfl,.inl ⟨rfl,rfl⟩⟩
    · exact ⟨_,rfl,.inr (.inl ⟨rfl,rfl⟩)⟩
    · exact ⟨_,rfl,.inr (.inr ⟨by decide,rfl⟩)⟩
    · exact ⟨_,rfl,.inr (.inr ⟨by decide,rfl⟩)⟩
   refine ⟨four_le,fun l hl=>?_⟩
   obtain ⟨H5,qH5,s5,el⟩:=new_at (o:=.lst [V.str ("made" : Str),V.str ("name" : Str),V.str ("great" : Str),V.str ("great" : Str)]) hl
   rw [←qH5]
   refine ⟨_,rfl,Or.inl ⟨l,_,_,.str dw,rfl,rfl,SqL.of el,hd,?_⟩⟩
   refine g_in ?_
   try dsimp only
   have s45:=s4.trans s5
   have hS:=s45.seq hS
   have eD:=s45 _ _ eD
   have hT:=hT.same s45
   have eP:=s5 _ _ eP
   have tP:=tP.same s5
   have aw:f % 2=1→D≠P∧TresF K (fun x=>x≠P) H5 bs us∧TresF K (fun x=>x≠P) H5 as ts:=fun z=>⟨(aw z).1,(aw z).2.1.same s5,(aw z).2.2.same s5⟩
   clear el hl s5 s4 s45 hd
   refine seq_cut (fun σ' H'=>∃ (w7:Option V) (cs:List Addr) (vs:List Tre),σ'=[some (.ref a),some (.ref D),some (.int f),some (.int (f / 2)),some (.ref P),w5,some (.str dw),w7,none]∧H' D=some (.lst (as.map V.ref))∧TresH K H' as ts∧H' P=some (.lst (cs.map V.ref))∧TresH K H' cs vs∧OkT vs dw) ?_ (fun NN hNN=>?_)
   case refine_2 =>
    refine ⟨_,rfl,_,_,rfl,rfl,(by show (0:Int) < 2; decide),rfl,_,rfl,ite2 (fun h=>?_) (fun h=>?_)⟩
    · have hf : f % 2 = 1 := V.int.inj (of_decide_eq_true h)
      refine ⟨_,rfl,a,ns,4,rfl,by decide,hS,_,_,rfl,rfl,⟨by decide,by decide,by decide⟩,_,_,rfl,rfl,(by show (0:Int) < 10 ^ Int.toNat 6; decide),_,rfl,Int.emod_nonneg _ (by decide),Int.emod_lt_of_pos _ (by decide),fun b t H6 s6 ht hb=>?_⟩
      refine g_in ?_
      try dsimp only
      obtain ⟨nD,aP,aT⟩:=aw hf
      have hS:=s6.seq hS
      have eP6:=s6 _ _ eP
      have ll:(bs.map V.ref).length=bs.length:=List.length_map ..
      have m0:=Int.emod_nonneg (cellAt ns 3) (show (bs.length:Int) + 1≠0 by omega)
      have m1:=Int.emod_lt_of_pos (cellAt ns 3) (show (0:Int) < (bs.length:Int) + 1 by omega)
      have lb:bs.length≤200:=by rw [tP.len]; exact lP
      refine ⟨_,rfl,Or.inl ⟨rfl,_,SqL.of eP6⟩,_,rfl,a,ns,3,rfl,by decide,hS,_,rfl,_,bs.length,rfl,Or.inl ⟨_,SqL.of eP6,by rw [ll]⟩,_,_,rfl,rfl,_,_,rfl,rfl,(by show (0:Int) < (bs.length:Int) + 1; omega),_,rfl,P,_,_,_,rfl,rfl,eP6,m0,(by rw [ll]; omega),(by rw [ll]; omega),?_⟩
      generalize (cellAt ns 3 % ((bs.length:Int) + 1)).toNat=i
      have kp:Keeps (·=P) H6 (upd H6 P (.lst ((bs.map V.ref).take i++.ref b :: (bs.map V.ref).drop i))):=Keeps.one eP6
      have e7:(upd H6 P (.lst ((bs.map V.ref).take i++.ref b :: (bs.map V.ref).drop i))) P=some (.lst ((bs.take i++b :: bs.drop i).map V.ref)):=by rw [upd_same,List.map_append,List.map_cons,List.map_take,List.map_drop]
      have eD7:(upd H6 P (.lst ((bs.map V.ref).take i++.ref b :: (bs.map V.ref).drop i))) D=some (.lst (as.map V.ref)):=by rw [upd_ne nD]; exact s6 _ _ eD
      generalize upd H6 P (.lst ((bs.map V.ref).take i++.ref b :: (bs.map V.ref).drop i))=H7 at kp e7 eD7 ⊢
      have tb:TreH K H7 b t:=(ht.keeps (F':=fun _=>True) kp (fun x hx z=>by rw [z,eP] at hx; cases hx) fun _ _=>trivial).toH
      have tA:TresH K H7 as ts:=((aT.same s6).keeps kp (fun _ hx=>hx) fun _ hx=>hx).toH
      have tU:TresH K H7 bs us:=((aP.same s6).keeps kp (fun _ hx=>hx) fun _ hx=>hx).toH
      refine hNN _ _ ⟨_,bs.take i++b :: bs.drop i,us.take i++t :: us.drop i,rfl,eD7,tA,e7,TresH.ins tb i tU,?_⟩
      rcases hdw with ⟨z,_⟩ | ⟨z,rfl⟩ | ⟨z,rfl⟩
      · omega
      · rcases due with ⟨_,rfl⟩ | ⟨z2,_⟩ | ⟨z2,_⟩
        · refine ok_bad (fun u hu=>?_) ?_ (List.mem_append_right _ (List.mem_cons_self ..)) hb
          · rcases mem_ins hu with hu | rfl
            · exact (hp u hu).sm
            · exact hb.sm
          · rw [List.length_append,List.length_cons,List.length_take,List.length_drop]; omega
        · omega
        · omega
      · rcases due with ⟨z2,_⟩ | ⟨z2,_⟩ | ⟨_,k,l,r,rfl,rfl⟩
        · omega
        · omega
        · refine ok_great (k:=k) (((List.sublist_append_right l _).trans (List.sublist_append_left _ r)).trans (sub_ins _ t i)) (fun u hu=>?_) ?_
          · rcases mem_ins hu with hu | rfl
            · rcases List.mem_append.mp hu with hu | hu
              · rcases List.mem_append.mp hu with hu | hu
                · exact .inr (hp u (List.mem_append_left _ hu)).sm
                · exact .inl hu
              · exact .inr (hp u (List.mem_append_right _ hu)).sm
            · exact .inr hb.sm
          · have:=much_sz k (o:=1) (Nat.le_refl _)
            have:=hb.sm.sz
            rw [sSz.app] at zts
            rw [sz_ins,sSz.app,sSz.app]; omega
    · have hf : ¬ f % 2 = 1 := fun e => h (decide_eq_true (congrArg V.int e))
      refine hNN _ _ ⟨none,bs,us,rfl,eD,hT,eP,tP,?_⟩
      rcases hdw with ⟨z,rfl⟩ | ⟨z,rfl⟩ | ⟨z,rfl⟩
      · rcases due with ⟨_,rfl⟩ | ⟨_,k,rfl⟩ | ⟨z2,_⟩
        · exact oks
        · exact ok_much k
        · omega
      · omega
      · rcases due with ⟨z2,_⟩ | ⟨z2,_⟩ | ⟨_,k,l,r,rfl,rfl⟩
        · omega
        · omega
        · refine ok_great (k:=k) ((List.sublist_append_right l _).trans (List.sublist_append_left _ r)) (fun t ht=>?_) ?_
          · rcases List.mem_append.mp ht with ht | ht
            · rcases List.mem_append.mp ht with ht | ht
              · exact .inr (hp t (List.mem_append_left _ ht)).sm
              · exact .inl ht
            · exact .inr (hp t (List.mem_append_right _ ht)).sm
          · have:=much_sz k (o:=1) (Nat.le_refl _)
            rw [sSz.app] at zts
            rw [sSz.app,sSz.app]; omega
   clear aw due hdw lP tP eP hT eD hS
   rintro σ' H9 ⟨w7,cs,vs,rfl,eD,hT,eP,tP,ok⟩
   refine ⟨_,rfl,P,_,rfl,Or.inl (SqL.of eP),fun L hL=>?_⟩
   refine g_in ?_
   try dsimp only
   obtain ⟨G,qG,s1,eL⟩:=new_at (o:=.lst (cs.map V.ref)) hL
   rw [←qG]
   refine ⟨_,rfl,L,cs,vs,dw,rfl,eL,tP.same s1,ok.1,ok.2.1,ok.2.2.1,ok.2.2.2,fun G1 s2=>?_⟩
   have s12:=s1.trans s2
   refine ⟨_,rfl,rfl,_,rfl,ite2 (fun h=>absurd h (by simp)) (fun _=>?_)⟩
   refine ⟨_,rfl,_,cs.length,rfl,Or.inl ⟨_,SqL.of (s2 _ _ eL),by rw [List.length_map]⟩,_,rfl,_,cs.length,rfl,Or.inl ⟨_,SqL.of (s12 _ _ eP),by rw [List.length_map]⟩,rfl,_,rfl,ite2 (fun h=>absurd h (by simp)) (fun _=>?_)⟩
   refine ⟨_,rfl,D,as,ts, "made",rfl,s12 _ _ eD,hT.same s12,oks.1,oks.2.1,oks.2.2.1,oks.2.2.2,fun G2 s3=>⟨rfl,?_⟩⟩
   rw [show decide (V.str ("made" : Str)=V.str ("made" : Str))=true from decide_eq_true rfl]
   exact kq _
variable (P w K mg base) in
abbrev C_law:Prop:=Callee P w K mg base "law" 102 ["_law_script"] (sp_law K)
theorem call_law (B:Blt mg) (ER:Ers K mg) (c__law_plain:C__law_plain P w K mg base) (c__law_cell_at:C__law_cell_at P w K mg base) (c__law_much:C__law_much P w K mg base) (c__law_no_name:C__law_no_name P w K mg base) (c__law_outcome:C__law_outcome P w K mg base) (F:Fun K "law" "law" s_law f fd) (hm:mg "law" = some (.ref f)):C_law P w K mg base :=
 ⟨f,fd,ok_law B ER c__law_plain c__law_cell_at c__law_much c__law_no_name c__law_outcome F,hm,F.kp,F.binds fun _ _ _ _ _ _ us hl=>(by obtain ⟨x0,rfl⟩:=len_1 hl; rfl)⟩
end
theorem all_mk {l:PySem.W.OpenLaw} {w:World} {K:PySem.W.Frag} {h:Heap} {mg:Str→Option Value} {fa:Addr} (X:K.In h) (G:h.Ns mainGlobals mg) (hfa:mg "law" = some (.ref fa)) (q:Facts K)
 : ∃ fd:FuncData,(∀ (s:Shared) (v:Value),BindsTo s fd ⟨[v],[]⟩ [("_law_script",v)])∧∀ base:Heap,K.In base→base.Ns mainGlobals mg→FnOk l.prog w K mg base CX0 102 fa fd ["_law_script"] (sp_law K):=by
 obtain @⟨f0,od0,an0,sl0,oc0,kV0,dc0,pm0,cd0,ct0,f1,od1,an1,sl1,oc1,kV1,dc1,pm1,cd1,ct1,f2,od2,an2,sl2,oc2,kV2,dc2,pm2,cd2,ct2,f3,od3,an3,sl3,oc3,kV3,dc3,pm3,cd3,ct3,f4,od4,an4,sl4,oc4,kV4,dc4,pm4,cd4,ct4,f5,od5,an5,sl5,oc5,kV5,dc5,pm5,cd5,ct5,f6,od6,an6,sl6,oc6,kV6,dc6,pm6,cd6,ct6,f7,od7,an7,sl7,oc7,kV7,dc7,pm7,cd7,ct7,f8,od8,an8,sl8,oc8,kV8,dc8,pm8,cd8,ct8,f9,od9,an9,sl9,oc9,kV9,dc9,pm9,cd9,ct9,f10,od10,an10,sl10,oc10,kV10,dc10,pm10,cd10,ct10,f11,od11,an11,sl11,oc11,kV11,dc11,pm11,cd11,ct11,f12,od12,an12,sl12,oc12,kV12,dc12,pm12,cd12,ct12,f13,od13,an13,sl13,oc13,kV13,dc13,pm13,cd13,ct13,f14,od14,an14,sl14,oc14,kV14,dc14,pm14,cd14,ct14,f15,od15,an15,sl15,oc15,kV15,dc15,pm15,cd15,ct15,f16,od16,an16,sl16,oc16,kV16,dc16,pm16,cd16,ct16,f17,od17,an17,sl17,oc17,kV17,dc17,pm17,cd17,ct17,f18,od18,an18,sl18,oc18,kV18,dc18,pm18,cd18,ct18,f19,od19,an19,sl19,oc19,kV19,dc19,pm19,cd19,ct19,f20,od20,an20,sl20,oc20,kV20,dc20,pm20,cd20,ct20,f21,od21,an21,sl21,oc21,kV21,dc21,pm21,cd21,ct21,f22,od22,an22,sl22,oc22,kV22,dc22,pm22,cd22,ct22,f23,od23,an23,sl23,oc23,kV23,dc23,pm23,cd23,ct23,f24,od24,an24,sl24,oc24,kV24,dc24,pm24,cd24,ct24,f25,od25,an25,sl25,oc25,kV25,dc25,pm25,cd25,ct25,f26,od26,an26,sl26,oc26,kV26,dc26,pm26,cd26,ct26,f27,od27,an27,sl27,oc27,kV27,dc27,pm27,cd27,ct27,f28,od28,an28,sl28,oc28,kV28,dc28,pm28,cd28,ct28,f29,od29,an29,sl29,oc29,kV29,dc29,pm29,cd29,ct29,f30,od30,an30,sl30,oc30,kV30,dc30,pm30,cd30,ct30,f31,od31,an31,sl31,oc31,kV31,dc31,pm31,cd31,ct31,f32,od32,an32,sl32,oc32,kV32,dc32,pm32,cd32,ct32,f33,od33,an33,sl33,oc33,kV33,dc33,pm33,cd33,ct33,f34,od34,an34,sl34,oc34,kV34,dc34,pm34,cd34,ct34,f35,od35,an35,sl35,oc35,kV35,dc35,pm35,cd35,ct35,f36,od36,an36,sl36,oc36,kV36,dc36,pm36,cd36,ct36,f37,od37,an37,sl37,oc37,kV37,dc37,pm37,cd37,ct37,f38,od38,an38,sl38,oc38,kV38,dc38,pm38,cd38,ct38,tc_ANYWHERE,tc_LONGEST_NAME,tc_LONGEST_PATH,tc_MOST_AROUND,tc_MOST_ITEMS,tc_MOST_QUESTIONS,tc_MOST_SCOPES,tc_MOST_STEPS,tc_MOST_TELLINGS,tc_MOST_THINGS,tc_OUTSIDE,C_Caught,C_NoName,C_NoPlace,C_NoRow,C_NoText,C_PathError,C_Ring,C_Tangled,C_TooGreat,C_Twice,C_All,C_Ask,C_Elder,C_Ground,C_Let,C_One,C_Part,C_Thing,T0,tc0,td0,tn0,ts0,a0,i0,l0,c0,k0,t0,T1,tc1,td1,tn1,ts1,a1,i1,l1,c1,k1,t1,a2,i2,l2,c2,k2,a3,i3,l3,c3,k3,a4,l4,c4,k4,a5,l5,c5,k5,a6,l6,c6,k6,a7,l7,c7,k7,T8,tc8,td8,tn8,ts8,a8,i8,l8,c8,k8,t8,a9,i9,l9,c9,k9,a10,i10,l10,c10,k10,a11,l11,c11,k11,a12,l12,c12,k12,a13,l13,c13,k13,a14,l14,c14,k14,a15,i15,l15,c15,k15,a16,i16,l16,c16,k16,a17,i17,l17,c17,k17,a18,i18,l18,c18,k18,a19,i19,l19,c19,k19,a20,l20,c20,k20,a21,i21,l21,c21,k21,a22,l22,c22,k22,a23,l23,c23,k23,a24,l24,c24,k24,a25,l25,c25,k25,a26,l26,c26,k26,a27,l27,c27,k27,a28,l28,c28,k28,a29,l29,c29,k29,a30,l30,c30,k30,a31,l31,c31,k31,a32,l32,c32,k32,a33,l33,c33,k33,a34,l34,c34,k34,a35,l35,c35,k35,a36,l36,c36,k36,a37,l37,c37,k37,a38,l38,c38,k38,z_ValueError,z_all,z_bool,z_int,z_isinstance,z_len,z_list,z_range,z_str,z_tuple,y_ANYWHERE,y_LONGEST_NAME,y_LONGEST_PATH,y_MOST_AROUND,y_MOST_ITEMS,y_MOST_QUESTIONS,y_MOST_SCOPES,y_MOST_STEPS,y_MOST_TELLINGS,y_MOST_THINGS,y_OUTSIDE,g_Caught,g_NoName,g_NoPlace,g_NoRow,g_NoText,g_PathError,g_Ring,g_Tangled,g_TooGreat,g_Twice,x_NoName,x_NoPlace,x_PathError,x_TooGreat,hn0,ht0,p_NoName,pa_NoName,pb_NoName,q_NoName,m_NoName,w_NoName,u_NoName_PathError,r_NoName_Caught,r_NoName_NoName,r_NoName_NoPlace,r_NoName_NoRow,r_NoName_NoText,r_NoName_Ring,r_NoName_Tangled,r_NoName_TooGreat,r_NoName_Twice,n_NoName_Caught,n_NoName_NoPlace,n_NoName_NoRow,n_NoName_NoText,n_NoName_Ring,n_NoName_Tangled,n_NoName_TooGreat,n_NoName_Twice,p_NoPlace,pa_NoPlace,pb_NoPlace,q_NoPlace,m_NoPlace,w_NoPlace,u_NoPlace_PathError,r_NoPlace_Caught,r_NoPlace_NoName,r_NoPlace_NoPlace,r_NoPlace_NoRow,r_NoPlace_NoText,r_NoPlace_Ring,r_NoPlace_Tangled,r_NoPlace_TooGreat,r_NoPlace_Twice,n_NoPlace_Caught,n_NoPlace_NoName,n_NoPlace_NoRow,n_NoPlace_NoText,n_NoPlace_Ring,n_NoPlace_Tangled,n_NoPlace_TooGreat,n_NoPlace_Twice,p_TooGreat,pa_TooGreat,pb_TooGreat,q_TooGreat,m_TooGreat,w_TooGreat,u_TooGreat_PathError,r_TooGreat_Caught,r_TooGreat_NoName,r_TooGreat_NoPlace,r_TooGreat_NoRow,r_TooGreat_NoText,r_TooGreat_Ring,r_TooGreat_Tangled,r_TooGreat_TooGreat,r_TooGreat_Twice,n_TooGreat_Caught,n_TooGreat_NoName,n_TooGreat_NoPlace,n_TooGreat_NoRow,n_TooGreat_NoText,n_TooGreat_Ring,n_TooGreat_Tangled,n_TooGreat_Twice,o_Caught,t_Caught,o_NoName,t_NoName,o_NoPlace,t_NoPlace,o_NoRow,t_NoRow,o_NoText,t_NoText,o_Ring,t_Ring,o_Tangled,t_Tangled,o_TooGreat,t_TooGreat,o_Twice,t_Twice,g_All,g_Ask,g_Elder,g_Ground,g_Let,g_One,g_Part,g_Thing,pg_All,hd_All,po_All,sa_All,mk_All,kc_All,na_All_on,na_All_path,fc_All,mr_All,ai_All_All,an_All_Elder,an_All_Let,an_All_One,an_All_Part,an_All_Thing,pg_Ask,hd_Ask,po_Ask,sa_Ask,mk_Ask,kc_Ask,na_Ask_path,fc_Ask,mr_Ask,an_Ask_All,an_Ask_Elder,an_Ask_Let,an_Ask_One,an_Ask_Part,an_Ask_Thing,pg_Elder,hd_Elder,po_Elder,sa_Elder,mk_Elder,kc_Elder,na_Elder_path,fc_Elder,mr_Elder,an_Elder_All,ai_Elder_Elder,an_Elder_Let,an_Elder_One,an_Elder_Part,an_Elder_Thing,pg_Ground,hd_Ground,po_Ground,sa_Ground,mk_Ground,kc_Ground,na_Ground_questions,na_Ground_scopes,na_Ground_things,pg_Let,hd_Let,po_Let,sa_Let,mk_Let,kc_Let,na_Let_name,na_Let_of,fc_Let,mr_Let,an_Let_All,an_Let_Elder,ai_Let_Let,an_Let_One,an_Let_Part,an_Let_Thing,pg_One,hd_One,po_One,sa_One,mk_One,kc_One,na_One_name,na_One_path,na_One_reach,fc_One,mr_One,an_One_All,an_One_Elder,an_One_Let,ai_One_One,an_One_Part,an_One_Thing,pg_Part,hd_Part,po_Part,sa_Part,mk_Part,kc_Part,na_Part_inner,na_Part_name,na_Part_reach,fc_Part,mr_Part,an_Part_All,an_Part_Elder,an_Part_Let,an_Part_One,ai_Part_Part,an_Part_Thing,pg_Thing,hd_Thing,po_Thing,sa_Thing,mk_Thing,kc_Thing,na_Thing_name,na_Thing_of,na_Thing_reach,fc_Thing,mr_Thing,an_Thing_All,an_Thing_Elder,an_Thing_Let,an_Thing_One,an_Thing_Part,ai_Thing_Thing⟩:=q
 have e:=hfa.symm.trans (PySem.W.mg_of X G a38)
 cases e
 have B:Blt mg:=⟨PySem.W.mg_none_of X G z_ValueError,PySem.W.mg_none_of X G z_all,PySem.W.mg_none_of X G z_bool,PySem.W.mg_none_of X G z_int,PySem.W.mg_none_of X G z_isinstance,PySem.W.mg_none_of X G z_len,PySem.W.mg_none_of X G z_list,PySem.W.mg_none_of X G z_range,PySem.W.mg_none_of X G z_str,PySem.W.mg_none_of X G z_tuple,⟨_,PySem.W.mg_of X G y_ANYWHERE⟩,⟨_,PySem.W.mg_of X G y_LONGEST_NAME⟩,⟨_,PySem.W.mg_of X G y_LONGEST_PATH⟩,⟨_,PySem.W.mg_of X G y_MOST_AROUND⟩,⟨_,PySem.W.mg_of X G y_MOST_ITEMS⟩,⟨_,PySem.W.mg_of X G y_MOST_QUESTIONS⟩,⟨_,PySem.W.mg_of X G y_MOST_SCOPES⟩,⟨_,PySem.W.mg_of X G y_MOST_STEPS⟩,⟨_,PySem.W.mg_of X G y_MOST_TELLINGS⟩,⟨_,PySem.W.mg_of X G y_MOST_THINGS⟩,⟨_,PySem.W.mg_of X G y_OUTSIDE⟩⟩
 have e_Caught:clsA K "Caught" = C_Caught:=clsA_of g_Caught
 have e_NoName:clsA K "NoName" = C_NoName:=clsA_of g_NoName
 have e_NoPlace:clsA K "NoPlace" = C_NoPlace:=clsA_of g_NoPlace
 have e_NoRow:clsA K "NoRow" = C_NoRow:=clsA_of g_NoRow
 have e_NoText:clsA K "NoText" = C_NoText:=clsA_of g_NoText
 have e_PathError:clsA K "PathError" = C_PathError:=clsA_of g_PathError
 have e_Ring:clsA K "Ring" = C_Ring:=clsA_of g_Ring
 have e_Tangled:clsA K "Tangled" = C_Tangled:=clsA_of g_Tangled
 have e_TooGreat:clsA K "TooGreat" = C_TooGreat:=clsA_of g_TooGreat
 have e_Twice:clsA K "Twice" = C_Twice:=clsA_of g_Twice
 have e_All:clsA K "All" = C_All:=clsA_of g_All
 have e_Ask:clsA K "Ask" = C_Ask:=clsA_of g_Ask
 have e_Elder:clsA K "Elder" = C_Elder:=clsA_of g_Elder
 have e_Ground:clsA K "Ground" = C_Ground:=clsA_of g_Ground
 have e_Let:clsA K "Let" = C_Let:=clsA_of g_Let
 have e_One:clsA K "One" = C_One:=clsA_of g_One
 have e_Part:clsA K "Part" = C_Part:=clsA_of g_Part
 have e_Thing:clsA K "Thing" = C_Thing:=clsA_of g_Thing
 have ER:Ers K mg:=⟨by rw [e_Caught]; exact PySem.W.mg_of X G g_Caught,by rw [e_NoName]; exact PySem.W.mg_of X G g_NoName,by rw [e_NoPlace]; exact PySem.W.mg_of X G g_NoPlace,by rw [e_NoRow]; exact PySem.W.mg_of X G g_NoRow,by rw [e_NoText]; exact PySem.W.mg_of X G g_NoText,by rw [e_PathError]; exact PySem.W.mg_of X G g_PathError,by rw [e_Ring]; exact PySem.W.mg_of X G g_Ring,by rw [e_Tangled]; exact PySem.W.mg_of X G g_Tangled,by rw [e_TooGreat]; exact PySem.W.mg_of X G g_TooGreat,by rw [e_Twice]; exact PySem.W.mg_of X G g_Twice,by rw [e_NoName]; exact ⟨PySem.W.mg_of X G g_NoName,x_NoName⟩,by rw [e_NoPlace]; exact ⟨PySem.W.mg_of X G g_NoPlace,x_NoPlace⟩,by rw [e_PathError]; exact ⟨PySem.W.mg_of X G g_PathError,x_PathError⟩,by rw [e_TooGreat]; exact ⟨PySem.W.mg_of X G g_TooGreat,x_TooGreat⟩,by rw [e_NoName]; exact excCl_of p_NoName pa_NoName pb_NoName q_NoName hn0 ht0 m_NoName,by rw [e_NoName]; exact ask_VE w_NoName,by rw [e_NoName,e_PathError]; exact sub_of_mro u_NoName_PathError,by rw [e_NoName,e_Caught]; exact ask_own (askB_of o_Caught t_Caught r_NoName_Caught),by rw [e_NoName]; exact ask_own (askB_of o_NoName t_NoName r_NoName_NoName),by rw [e_NoName,e_NoPlace]; exact ask_own (askB_of o_NoPlace t_NoPlace r_NoName_NoPlace),by rw [e_NoName,e_NoRow]; exact ask_own (askB_of o_NoRow t_NoRow r_NoName_NoRow),by rw [e_NoName,e_NoText]; exact ask_own (askB_of o_NoText t_NoText r_NoName_NoText),by rw [e_NoName,e_Ring]; exact ask_own (askB_of o_Ring t_Ring r_NoName_Ring),by rw [e_NoName,e_Tangled]; exact ask_own (askB_of o_Tangled t_Tangled r_NoName_Tangled),by rw [e_NoName,e_TooGreat]; exact ask_own (askB_of o_TooGreat t_TooGreat r_NoName_TooGreat),by rw [e_NoName,e_Twice]; exact ask_own (askB_of o_Twice t_Twice r_NoName_Twice),by rw [e_NoName,e_Caught]; exact n_NoName_Caught,by rw [e_NoName,e_NoPlace]; exact n_NoName_NoPlace,by rw [e_NoName,e_NoRow]; exact n_NoName_NoRow,by rw [e_NoName,e_NoText]; exact n_NoName_NoText,by rw [e_NoName,e_Ring]; exact n_NoName_Ring,by rw [e_NoName,e_Tangled]; exact n_NoName_Tangled,by rw [e_NoName,e_TooGreat]; exact n_NoName_TooGreat,by rw [e_NoName,e_Twice]; exact n_NoName_Twice,by rw [e_NoPlace]; exact excCl_of p_NoPlace pa_NoPlace pb_NoPlace q_NoPlace hn0 ht0 m_NoPlace,by rw [e_NoPlace]; exact ask_VE w_NoPlace,by rw [e_NoPlace,e_PathError]; exact sub_of_mro u_NoPlace_PathError,by rw [e_NoPlace,e_Caught]; exact ask_own (askB_of o_Caught t_Caught r_NoPlace_Caught),by rw [e_NoPlace,e_NoName]; exact ask_own (askB_of o_NoName t_NoName r_NoPlace_NoName),by rw [e_NoPlace]; exact ask_own (askB_of o_NoPlace t_NoPlace r_NoPlace_NoPlace),by rw [e_NoPlace,e_NoRow]; exact ask_own (askB_of o_NoRow t_NoRow r_NoPlace_NoRow),by rw [e_NoPlace,e_NoText]; exact ask_own (askB_of o_NoText t_NoText r_NoPlace_NoText),by rw [e_NoPlace,e_Ring]; exact ask_own (askB_of o_Ring t_Ring r_NoPlace_Ring),by rw [e_NoPlace,e_Tangled]; exact ask_own (askB_of o_Tangled t_Tangled r_NoPlace_Tangled),by rw [e_NoPlace,e_TooGreat]; exact ask_own (askB_of o_TooGreat t_TooGreat r_NoPlace_TooGreat),by rw [e_NoPlace,e_Twice]; exact ask_own (askB_of o_Twice t_Twice r_NoPlace_Twice),by rw [e_NoPlace,e_Caught]; exact n_NoPlace_Caught,by rw [e_NoPlace,e_NoName]; exact n_NoPlace_NoName,by rw [e_NoPlace,e_NoRow]; exact n_NoPlace_NoRow,by rw [e_NoPlace,e_NoText]; exact n_NoPlace_NoText,by rw [e_NoPlace,e_Ring]; exact n_NoPlace_Ring,by rw [e_NoPlace,e_Tangled]; exact n_NoPlace_Tangled,by rw [e_NoPlace,e_TooGreat]; exact n_NoPlace_TooGreat,by rw [e_NoPlace,e_Twice]; exact n_NoPlace_Twice,by rw [e_TooGreat]; exact excCl_of p_TooGreat pa_TooGreat pb_TooGreat q_TooGreat hn0 ht0 m_TooGreat,by rw [e_TooGreat]; exact ask_VE w_TooGreat,by rw [e_TooGreat,e_PathError]; exact sub_of_mro u_TooGreat_PathError,by rw [e_TooGreat,e_Caught]; exact ask_own (askB_of o_Caught t_Caught r_TooGreat_Caught),by rw [e_TooGreat,e_NoName]; exact ask_own (askB_of o_NoName t_NoName r_TooGreat_NoName),by rw [e_TooGreat,e_NoPlace]; exact ask_own (askB_of o_NoPlace t_NoPlace r_TooGreat_NoPlace),by rw [e_TooGreat,e_NoRow]; exact ask_own (askB_of o_NoRow t_NoRow r_TooGreat_NoRow),by rw [e_TooGreat,e_NoText]; exact ask_own (askB_of o_NoText t_NoText r_TooGreat_NoText),by rw [e_TooGreat,e_Ring]; exact ask_own (askB_of o_Ring t_Ring r_TooGreat_Ring),by rw [e_TooGreat,e_Tangled]; exact ask_own (askB_of o_Tangled t_Tangled r_TooGreat_Tangled),by rw [e_TooGreat]; exact ask_own (askB_of o_TooGreat t_TooGreat r_TooGreat_TooGreat),by rw [e_TooGreat,e_Twice]; exact ask_own (askB_of o_Twice t_Twice r_TooGreat_Twice),by rw [e_TooGreat,e_Caught]; exact n_TooGreat_Caught,by rw [e_TooGreat,e_NoName]; exact n_TooGreat_NoName,by rw [e_TooGreat,e_NoPlace]; exact n_TooGreat_NoPlace,by rw [e_TooGreat,e_NoRow]; exact n_TooGreat_NoRow,by rw [e_TooGreat,e_NoText]; exact n_TooGreat_NoText,by rw [e_TooGreat,e_Ring]; exact n_TooGreat_Ring,by rw [e_TooGreat,e_Tangled]; exact n_TooGreat_Tangled,by rw [e_TooGreat,e_Twice]; exact n_TooGreat_Twice,by rw [e_All]; exact PySem.W.mg_of X G g_All,by rw [e_Ask]; exact PySem.W.mg_of X G g_Ask,by rw [e_Elder]; exact PySem.W.mg_of X G g_Elder,by rw [e_Ground]; exact PySem.W.mg_of X G g_Ground,by rw [e_Let]; exact PySem.W.mg_of X G g_Let,by rw [e_One]; exact PySem.W.mg_of X G g_One,by rw [e_Part]; exact PySem.W.mg_of X G g_Part,by rw [e_Thing]; exact PySem.W.mg_of X G g_Thing,by rw [e_All]; exact ⟨pg_All,hd_All,po_All,sa_All⟩,by rw [e_All]; exact ⟨pg_All,hd_All,fc_All,hn0,ht0,mr_All⟩,by rw [e_All]; exact na_All_on,by rw [e_All]; exact na_All_path,by rw [e_All]; exact ⟨fun _=>ai_All_All,fun h=>Bool.noConfusion h⟩,by rw [e_All,e_Elder]; exact ⟨fun h=>Bool.noConfusion h,fun _=>an_All_Elder⟩,by rw [e_All,e_Let]; exact ⟨fun h=>Bool.noConfusion h,fun _=>an_All_Let⟩,by rw [e_All,e_One]; exact ⟨fun h=>Bool.noConfusion h,fun _=>an_All_One⟩,by rw [e_All,e_Part]; exact ⟨fun h=>Bool.noConfusion h,fun _=>an_All_Part⟩,by rw [e_All,e_Thing]; exact ⟨fun h=>Bool.noConfusion h,fun _=>an_All_Thing⟩,by rw [e_Ask]; exact ⟨pg_Ask,hd_Ask,po_Ask,sa_Ask⟩,by rw [e_Ask]; exact ⟨pg_Ask,hd_Ask,fc_Ask,hn0,ht0,mr_Ask⟩,by rw [e_Ask]; exact na_Ask_path,by rw [e_Ask,e_All]; exact ⟨fun h=>Bool.noConfusion h,fun _=>an_Ask_All⟩,by rw [e_Ask,e_Elder]; exact ⟨fun h=>Bool.noConfusion h,fun _=>an_Ask_Elder⟩,by rw [e_Ask,e_Let]; exact ⟨fun h=>Bool.noConfusion h,fun _=>an_Ask_Let⟩,by rw [e_Ask,e_One]; exact ⟨fun h=>Bool.noConfusion h,fun _=>an_Ask_One⟩,by rw [e_Ask,e_Part]; exact ⟨fun h=>Bool.noConfusion h,fun _=>an_Ask_Part⟩,by rw [e_Ask,e_Thing]; exact ⟨fun h=>Bool.noConfusion h,fun _=>an_Ask_Thing⟩,by rw [e_Elder]; exact ⟨pg_Elder,hd_Elder,po_Elder,sa_Elder⟩,by rw [e_Elder]; exact ⟨pg_Elder,hd_Elder,fc_Elder,hn0,ht0,mr_Elder⟩,by rw [e_Elder]; exact na_Elder_path,by rw [e_Elder,e_All]; exact ⟨fun h=>Bool.noConfusion h,fun _=>an_Elder_All⟩,by rw [e_Elder]; exact ⟨fun _=>ai_Elder_Elder,fun h=>Bool.noConfusion h⟩,by rw [e_Elder,e_Let]; exact ⟨fun h=>Bool.noConfusion h,fun _=>an_Elder_Let⟩,by rw [e_Elder,e_One]; exact ⟨fun h=>Bool.noConfusion h,fun _=>an_Elder_One⟩,by rw [e_Elder,e_Part]; exact ⟨fun h=>Bool.noConfusion h,fun _=>an_Elder_Part⟩,by rw [e_Elder,e_Thing]; exact ⟨fun h=>Bool.noConfusion h,fun _=>an_Elder_Thing⟩,by rw [e_Ground]; exact ⟨pg_Ground,hd_Ground,po_Ground,sa_Ground⟩,by rw [e_Ground]; exact na_Ground_questions,by rw [e_Ground]; exact na_Ground_scopes,by rw [e_Ground]; exact na_Ground_things,by rw [e_Let]; exact ⟨pg_Let,hd_Let,po_Let,sa_Let⟩,by rw [e_Let]; exact ⟨pg_Let,hd_Let,fc_Let,hn0,ht0,mr_Let⟩,by rw [e_Let]; exact na_Let_name,by rw [e_Let]; exact na_Let_of,by rw [e_Let,e_All]; exact ⟨fun h=>Bool.noConfusion h,fun _=>an_Let_All⟩,by rw [e_Let,e_Elder]; exact ⟨fun h=>Bool.noConfusion h,fun _=>an_Let_Elder⟩,by rw [e_Let]; exact ⟨fun _=>ai_Let_Let,fun h=>Bool.noConfusion h⟩,by rw [e_Let,e_One]; exact ⟨fun h=>Bool.noConfusion h,fun _=>an_Let_One⟩,by rw [e_Let,e_Part]; exact ⟨fun h=>Bool.noConfusion h,fun _=>an_Let_Part⟩,by rw [e_Let,e_Thing]; exact ⟨fun h=>Bool.noConfusion h,fun _=>an_Let_Thing⟩,by rw [e_One]; exact ⟨pg_One,hd_One,po_One,sa_One⟩,by rw [e_One]; exact ⟨pg_One,hd_One,fc_One,hn0,ht0,mr_One⟩,by rw [e_One]; exact na_One_name,by rw [e_One]; exact na_One_path,by rw [e_One]; exact na_One_reach,by rw [e_One,e_All]; exact ⟨fun h=>Bool.noConfusion h,fun _=>an_One_All⟩,by rw [e_One,e_Elder]; exact ⟨fun h=>Bool.noConfusion h,fun _=>an_One_Elder⟩,by rw [e_One,e_Let]; exact ⟨fun h=>Bool.noConfusion h,fun _=>an_One_Let⟩,by rw [e_One]; exact ⟨fun _=>ai_One_One,fun h=>Bool.noConfusion h⟩,by rw [e_One,e_Part]; exact ⟨fun h=>Bool.noConfusion h,fun _=>an_One_Part⟩,by rw [e_One,e_Thing]; exact ⟨fun h=>Bool.noConfusion h,fun _=>an_One_Thing⟩,by rw [e_Part]; exact ⟨pg_Part,hd_Part,po_Part,sa_Part⟩,by rw [e_Part]; exact ⟨pg_Part,hd_Part,fc_Part,hn0,ht0,mr_Part⟩,by rw [e_Part]; exact na_Part_inner,by rw [e_Part]; exact na_Part_name,by rw [e_Part]; exact na_Part_reach,by rw [e_Part,e_All]; exact ⟨fun h=>Bool.noConfusion h,fun _=>an_Part_All⟩,by rw [e_Part,e_Elder]; exact ⟨fun h=>Bool.noConfusion h,fun _=>an_Part_Elder⟩,by rw [e_Part,e_Let]; exact ⟨fun h=>Bool.noConfusion h,fun _=>an_Part_Let⟩,by rw [e_Part,e_One]; exact ⟨fun h=>Bool.noConfusion h,fun _=>an_Part_One⟩,by rw [e_Part]; exact ⟨fun _=>ai_Part_Part,fun h=>Bool.noConfusion h⟩,by rw [e_Part,e_Thing]; exact ⟨fun h=>Bool.noConfusion h,fun _=>an_Part_Thing⟩,by rw [e_Thing]; exact ⟨pg_Thing,hd_Thing,po_Thing,sa_Thing⟩,by rw [e_Thing]; exact ⟨pg_Thing,hd_Thing,fc_Thing,hn0,ht0,mr_Thing⟩,by rw [e_Thing]; exact na_Thing_name,by rw [e_Thing]; exact na_Thing_of,by rw [e_Thing]; exact na_Thing_reach,by rw [e_Thing,e_All]; exact ⟨fun h=>Bool.noConfusion h,fun _=>an_Thing_All⟩,by rw [e_Thing,e_Elder]; exact ⟨fun h=>Bool.noConfusion h,fun _=>an_Thing_Elder⟩,by rw [e_Thing,e_Let]; exact ⟨fun h=>Bool.noConfusion h,fun _=>an_Thing_Let⟩,by rw [e_Thing,e_One]; exact ⟨fun h=>Bool.noConfusion h,fun _=>an_Thing_One⟩,by rw [e_Thing,e_Part]; exact ⟨fun h=>Bool.noConfusion h,fun _=>an_Thing_Part⟩,by rw [e_Thing]; exact ⟨fun _=>ai_Thing_Thing,fun h=>Bool.noConfusion h⟩⟩
 have F0:=funD_mk (st:=s_Thing__init__) l0 c0
 have M0:Mk K (clsA K "Thing") f0:=by rw [e_Thing]; exact ⟨mk_Thing,a0,i0,kc_Thing⟩
 have F1:=funD_mk (st:=s_Let__init__) l1 c1
 have M1:Mk K (clsA K "Let") f1:=by rw [e_Let]; exact ⟨mk_Let,a1,i1,kc_Let⟩
 have F2:=fun_mk (st:=s_Ask__init__) l2 c2 k2
 have M2:Mk K (clsA K "Ask") f2:=by rw [e_Ask]; exact ⟨mk_Ask,a2,i2,kc_Ask⟩
 have F3:=fun_mk (st:=s_Part__init__) l3 c3 k3
 have M3:Mk K (clsA K "Part") f3:=by rw [e_Part]; exact ⟨mk_Part,a3,i3,kc_Part⟩
 have F4:=fun_mk (st:=s__law_plain) l4 c4 k4
 have F5:=fun_mk (st:=s__law_cell_at) l5 c5 k5
 have F6:=fun_mk (st:=s__law_nested) l6 c6 k6
 have F7:=fun_mk (st:=s__law_homes) l7 c7 k7
 have F8:=funD_mk (st:=s_All__init__) l8 c8
 have M8:Mk K (clsA K "All") f8:=by rw [e_All]; exact ⟨mk_All,a8,i8,kc_All⟩
 have F9:=fun_mk (st:=s_One__init__) l9 c9 k9
 have M9:Mk K (clsA K "One") f9:=by rw [e_One]; exact ⟨mk_One,a9,i9,kc_One⟩
 have F10:=fun_mk (st:=s_Elder__init__) l10 c10 k10
 have M10:Mk K (clsA K "Elder") f10:=by rw [e_Elder]; exact ⟨mk_Elder,a10,i10,kc_Elder⟩
 have F11:=fun_mk (st:=s__law_much) l11 c11 k11
 have F12:=fun_mk (st:=s__law_no_name) l12 c12 k12
 have F13:=fun_mk (st:=s_items_within) l13 c13 k13
 have F14:=fun_mk (st:=s_refuse_too_great_2) l14 c14 k14
 have F15:=fun_mk (st:=s_Ground__init__) l15 c15 k15
 have M15:Mk K (clsA K "Ground") f15:=by rw [e_Ground]; exact ⟨mk_Ground,a15,i15,kc_Ground⟩
 have F16:=fun_mk (st:=s_Ground_new_scope) l16 c16 k16
 have M16:Meth K (clsA K "Ground") "new_scope" f16:=by rw [e_Ground]; exact ⟨a16,i16,k16⟩
 have F17:=fun_mk (st:=s_Ground_new_thing) l17 c17 k17
 have M17:Meth K (clsA K "Ground") "new_thing" f17:=by rw [e_Ground]; exact ⟨a17,i17,k17⟩
 have F18:=fun_mk (st:=s_Ground_more_tellings) l18 c18 k18
 have M18:Meth K (clsA K "Ground") "more_tellings" f18:=by rw [e_Ground]; exact ⟨a18,i18,k18⟩
 have F19:=fun_mk (st:=s_Ground_new_question) l19 c19 k19
 have M19:Meth K (clsA K "Ground") "new_question" f19:=by rw [e_Ground]; exact ⟨a19,i19,k19⟩
 have F20:=fun_mk (st:=s_thing_of) l20 c20 k20
 have F21:=fun_mk (st:=s_Ground_more_steps) l21 c21 k21
 have M21:Meth K (clsA K "Ground") "more_steps" f21:=by rw [e_Ground]; exact ⟨a21,i21,k21⟩
 have F22:=fun_mk (st:=s_lay_step) l22 c22 k22
 have F23:=fun_mk (st:=s_lay_part) l23 c23 k23
 have F24:=fun_mk (st:=s_lay_item) l24 c24 k24
 have F25:=fun_mk (st:=s_lay_items) l25 c25 k25
 have F26:=fun_mk (st:=s_refuse_more) l26 c26 k26
 have F27:=fun_mk (st:=s_refuse_too_great) l27 c27 k27
 have F28:=fun_mk (st:=s_words_told) l28 c28 k28
 have F29:=fun_mk (st:=s_is_name) l29 c29 k29
 have F30:=fun_mk (st:=s_refuse_no_names) l30 c30 k30
 have F31:=fun_mk (st:=s_is_whole) l31 c31 k31
 have F32:=fun_mk (st:=s_is_place) l32 c32 k32
 have F33:=fun_mk (st:=s_refuse_no_place) l33 c33 k33
 have F34:=fun_mk (st:=s_refuse_no_places) l34 c34 k34
 have F35:=fun_mk (st:=s_net_of) l35 c35 k35
 have F36:=fun_mk (st:=s_net_by) l36 c36 k36
 have F37:=fun_mk (st:=s__law_outcome) l37 c37 k37
 have F38:=fun_mk (st:=s_law) l38 c38 k38
 refine ⟨PySem.W.fnOf "law" "law" (defArgs s_law) (defBody s_law) (defScope s_law) .none kV38 dc38 pm38 an38 cd38 ct38,fun s v=>.of_eq rfl,fun base _ _=>?_⟩
 have K_Thing__init__:CalleeN l.prog w K mg base (clsA K "Thing") 1 ["self", "reach", "name", "of"] [] (sp_Thing__init__ K):=call_Thing__init__ t0 rfl B ER  F0 M0
 have K_Thing__init___D:CalleeN l.prog w K mg base (clsA K "Thing") 1 ["self", "reach", "name", "of"] [.none] (sp_Thing__init__ K):=call_Thing__init___D t0 rfl B ER  F0 M0
 have K_Let__init__:CalleeN l.prog w K mg base (clsA K "Let") 1 ["self", "name", "of"] [] (sp_Let__init__ K):=call_Let__init__ t1 rfl B ER  F1 M1
 have K_Let__init___D:CalleeN l.prog w K mg base (clsA K "Let") 1 ["self", "name", "of"] [.none] (sp_Let__init__ K):=call_Let__init___D t1 rfl B ER  F1 M1
 have K_Ask__init__:CalleeN l.prog w K mg base (clsA K "Ask") 1 ["self", "path"] [] (sp_Ask__init__ K):=call_Ask__init__ B ER  F2 M2
 have K_Part__init__:CalleeN l.prog w K mg base (clsA K "Part") 1 ["self", "reach", "name", "items"] [] (sp_Part__init__ K):=call_Part__init__ B ER  F3 M3
 have K__law_plain:C__law_plain l.prog w K mg base:=call__law_plain B ER K_Thing__init___D K_Let__init___D K_Ask__init__ K_Part__init__ F4 (PySem.W.mg_of X G a4)
 have K__law_cell_at:C__law_cell_at l.prog w K mg base:=call__law_cell_at B ER  F5 (PySem.W.mg_of X G a5)
 have K__law_nested:C__law_nested l.prog w K mg base:=call__law_nested B ER K_Part__init__ F6 (PySem.W.mg_of X G a6)
 have K__law_homes:C__law_homes l.prog w K mg base:=call__law_homes B ER K_Part__init__ F7 (PySem.W.mg_of X G a7)
 have K_All__init__:CalleeN l.prog w K mg base (clsA K "All") 1 ["self", "path", "on"] [] (sp_All__init__ K):=call_All__init__ t8 rfl B ER  F8 M8
 have K_All__init___D:CalleeN l.prog w K mg base (clsA K "All") 1 ["self", "path", "on"] [(.bool false)] (sp_All__init__ K):=call_All__init___D t8 rfl B ER  F8 M8
 have K_One__init__:CalleeN l.prog w K mg base (clsA K "One") 1 ["self", "reach", "name", "path"] [] (sp_One__init__ K):=call_One__init__ B ER  F9 M9
 have K_Elder__init__:CalleeN l.prog w K mg base (clsA K "Elder") 1 ["self", "path"] [] (sp_Elder__init__ K):=call_Elder__init__ B ER  F10 M10
 have K__law_much:C__law_much l.prog w K mg base:=call__law_much B ER K__law_nested K_Ask__init__ K__law_homes K_Thing__init___D K_Let__init___D K_All__init__ K_One__init__ K_Let__init__ K_Part__init__ K_Elder__init__ F11 (PySem.W.mg_of X G a11)
 have K__law_no_name:C__law_no_name l.prog w K mg base:=call__law_no_name B ER K_Part__init__ K_Thing__init___D K_Let__init___D K_One__init__ K_Elder__init__ K_All__init__ K_Thing__init__ K_Let__init__ F12 (PySem.W.mg_of X G a12)
 have K_items_within:C_items_within l.prog w K mg base:=call_items_within B ER  F13 (PySem.W.mg_of X G a13)
 have K_refuse_too_great_2:CalleeE l.prog w K mg base "refuse_too_great_laying" 2 ["program"] (sp_refuse_too_great_2 K):=call_refuse_too_great_2 B ER K_items_within F14 (PySem.W.mg_of X G a14)
 have K_Ground__init__:CalleeN l.prog w K mg base (clsA K "Ground") 1 ["self"] [] (sp_Ground__init__ K):=call_Ground__init__ B ER  F15 M15
 have K_Ground_new_scope:CalleeM l.prog w K mg base (clsA K "Ground") "new_scope" 1 ["self", "steps", "tellings"] (sp_Ground_new_scope K):=call_Ground_new_scope B ER  F16 M16
 have K_Ground_new_thing:CalleeM l.prog w K mg base (clsA K "Ground") "new_thing" 1 ["self", "kind", "number"] (sp_Ground_new_thing K):=call_Ground_new_thing B ER  F17 M17
 have K_Ground_more_tellings:CalleeM l.prog w K mg base (clsA K "Ground") "more_tellings" 1 ["self", "scope", "telling"] (sp_Ground_more_tellings K):=call_Ground_more_tellings B ER  F18 M18
 have K_Ground_new_question:CalleeM l.prog w K mg base (clsA K "Ground") "new_question" 1 ["self", "scope", "state", "path"] (sp_Ground_new_question K):=call_Ground_new_question B ER  F19 M19
 have K_thing_of:C_thing_of l.prog w K mg base:=call_thing_of B ER K_Ground_new_thing K_Ground_new_question F20 (PySem.W.mg_of X G a20)
 have K_Ground_more_steps:CalleeM l.prog w K mg base (clsA K "Ground") "more_steps" 1 ["self", "scope", "step"] (sp_Ground_more_steps K):=call_Ground_more_steps B ER  F21 M21
 have K_lay_step:C_lay_step l.prog w K mg base:=call_lay_step B ER K_Ground_new_question K_Ground_more_steps F22 (PySem.W.mg_of X G a22)
 have K_lay_items:C_lay_items l.prog w K mg base:=calln_lay_items B ER K_Ground_new_scope K_Ground_new_thing K_Ground_more_tellings K_thing_of K_lay_step K_Ground_new_question F23 (PySem.W.mg_of X G a23) F24 (PySem.W.mg_of X G a24) F25 (PySem.W.mg_of X G a25) 32
 have K_refuse_more:CalleeE l.prog w K mg base "refuse_more" 1 ["parts", "most", "words"] (sp_refuse_more K):=call_refuse_more B ER  F26 (PySem.W.mg_of X G a26)
 have K_refuse_too_great:CalleeE l.prog w K mg base "refuse_too_great_nets" 2 ["scopes", "things", "questions"] (sp_refuse_too_great K):=call_refuse_too_great B ER K_refuse_more F27 (PySem.W.mg_of X G a27)
 have K_words_told:C_words_told l.prog w K mg base:=call_words_told B ER  F28 (PySem.W.mg_of X G a28)
 have K_is_name:C_is_name l.prog w K mg base:=call_is_name B ER  F29 (PySem.W.mg_of X G a29)
 have K_refuse_no_names:CalleeE l.prog w K mg base "refuse_no_names" 2 ["scopes", "questions"] (sp_refuse_no_names K):=call_refuse_no_names B ER K_words_told K_is_name F30 (PySem.W.mg_of X G a30)
 have K_is_whole:C_is_whole l.prog w K mg base:=call_is_whole B ER  F31 (PySem.W.mg_of X G a31)
 have K_is_place:C_is_place l.prog w K mg base:=call_is_place B ER K_is_whole F32 (PySem.W.mg_of X G a32)
 have K_refuse_no_place:CalleeE l.prog w K mg base "refuse_no_place" 3 ["kinds", "kind", "number"] (sp_refuse_no_place K):=call_refuse_no_place B ER K_is_place F33 (PySem.W.mg_of X G a33)
 have K_refuse_no_places:CalleeE l.prog w K mg base "refuse_no_places" 4 ["scopes", "things", "questions"] (sp_refuse_no_places K):=call_refuse_no_places B ER K_refuse_no_place K_is_place K_is_whole F34 (PySem.W.mg_of X G a34)
 have K_net_of:CalleeE l.prog w K mg base "net_of" 5 ["scopes", "things", "questions"] (sp_net_of K):=call_net_of B ER K_refuse_too_great K_refuse_no_names K_refuse_no_places F35 (PySem.W.mg_of X G a35)
 have K_net_by:CalleeE l.prog w K mg base "net_by" 100 ["program"] (sp_net_by K):=call_net_by B ER K_refuse_too_great_2 K_Ground__init__ K_lay_items K_Ground_new_scope K_net_of F36 (PySem.W.mg_of X G a36)
 have K__law_outcome:C__law_outcome l.prog w K mg base:=call__law_outcome B ER K_net_by F37 (PySem.W.mg_of X G a37)
 exact ok_law B ER K__law_plain K__law_cell_at K__law_much K__law_no_name K__law_outcome F38
theorem walk {l:PySem.W.OpenLaw} {q:Program} {loose:List Str} {XP:(Str→Option Value)→Heap→Prop} {YP:World→Heap→Prop} {d:DefRec} {K:Params→PySem.W.Frag} (hn:l.most=some 63) (hdf:d.params.defaults=[])
 (hY:∀ (w:World) (h:Heap),YP w h→(K w.params).In h)
 (F:∀ (w:World) (mg:Str→Option Value) (fa:Addr) (h:Heap),(K w.params).In h→h.Ns mainGlobals mg→mg d.name=some (.ref fa) →
  ∃ fd:FuncData,(∀ (s:Shared) (u:Value),BindsTo s fd ⟨[u],[]⟩ [("_law_script",u)])∧∀ base:Heap,(K w.params).In base→base.Ns mainGlobals mg→FnOk l.prog w (K w.params) mg base CX0 102 fa fd ["_law_script"] (sp_law (K w.params))) :
 PySem.W.WalkO q loose XP YP l.row.toRowW d [] (fun f vs=>PySem.call f vs) :=
 L2.walk_of (n:=63) (k:=102) (x := "_law_script") (CX:=fun _=>CX0) (sp:=fun w=>sp_law (K w.params)) hn (by decide) hdf ⟨rfl,by decide,by decide,rfl⟩ hY F (fun _ _ a ns hl _ hS=>⟨a,ns,rfl,hS,hl,fun _=>rfl⟩) fun _ _ _ _ _ z=>z
end K74
open PySem PySem.W PyProof.Rows in
theorem PySem.Challenge.cw_namepaths_k74_programs_refused_holds : PySem.Challenge.rw_namepaths_k74_programs_refused.Holds :=
 K74.hd fun K q YP d h1 h2 hY=>K74.walk (l:=PySem.Challenge.rw_namepaths_k74_programs_refused) rfl h1 hY fun w mg fa h X G hm=>K74.all_mk X G (h2 ▸ hm) (q w)
